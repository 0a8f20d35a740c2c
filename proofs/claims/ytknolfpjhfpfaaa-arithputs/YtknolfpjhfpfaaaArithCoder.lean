/-
  A coder in memory, and contracts of its inner calls (package arith): add, tell, settle, widen with settle. Conditions: the coder's cells and its row of bytes stand as told.
-/
import Derived.Test.YtknolfpjhfpfaaaArithWalks
import Derived.Test.YtknolfpjhfpfaaaBitsTell
import Derived.Deep.AppendLies
namespace Go.Proofs.Ytknolfpjhfpfaaa
set_option linter.unusedVariables false
open Go.RowKit
namespace Ari
open Bits (Blk But add_at wrap_id bytesL)
open Num (Ints)

/-- nothing that was there has turned, but for block b and rows of type e from block N on -/
structure Kept (b : Nat) (e : TypeId) (N : Nat) (w w' : World) : Prop where
  os : w'.os = w.os
  tape : w'.tape = w.tape
  output : w'.output = w.output
  size : w.heap.size ≤ w'.heap.size
  block : ∀ k, k < w.heap.size → k ≠ b → (k < N ∨ ∀ cur, ¬ Blk w k cur e) → w'.heap[k]? = w.heap[k]?
theorem Kept.refl (b : Nat) (e : TypeId) (N : Nat) (w : World) : Kept b e N w w := ⟨rfl, rfl, rfl, Nat.le_refl _, fun _ _ _ _ => rfl⟩
theorem Kept.trans {b : Nat} {e : TypeId} {N : Nat} {u v w : World} (h : Kept b e N u v) (k : Kept b e N v w) : Kept b e N u w := by
  refine ⟨k.os.trans h.os, k.tape.trans h.tape, k.output.trans h.output, Nat.le_trans h.size k.size, fun i hi hb hN => ?_⟩
  have h1 := h.block i hi hb hN
  refine (k.block i (Nat.lt_of_lt_of_le hi h.size) hb ?_).trans h1
  rcases hN with hN | hN
  · exact .inl hN
  · refine .inr fun cur hc => hN cur ?_
    unfold Bits.Blk at hc ⊢
    rw [← h1]; exact hc
theorem Kept.drew {b : Nat} {e : TypeId} {N : Nat} {w w' : World} (h : Kept b e N w w') : Kept b e N w w'.drew := ⟨h.os, h.tape, h.output, h.size, h.block⟩
theorem Kept.drewN {b : Nat} {e : TypeId} {N : Nat} {w w' : World} (h : Kept b e N w w') (m : Nat) : Kept b e N w (w'.drewN m) := ⟨h.os, h.tape, h.output, h.size, h.block⟩
theorem Kept.of_drew {b : Nat} {e : TypeId} {N : Nat} {w w' : World} (h : Kept b e N w.drew w') : Kept b e N w w' := ⟨h.os, h.tape, h.output, h.size, h.block⟩
theorem Kept.of_drewN {b m : Nat} {e : TypeId} {N : Nat} {w w' : World} (h : Kept b e N (w.drewN m) w') : Kept b e N w w' := ⟨h.os, h.tape, h.output, h.size, h.block⟩
theorem Kept.of_but {b : Nat} {e : TypeId} {N : Nat} {w w' : World} (h : But b b w w') : Kept b e N w w' := ⟨h.os, h.tape, h.output, h.size, fun k hk hb _ => h.block k hk hb hb⟩
theorem Kept.alloc {b : Nat} {e : TypeId} {N : Nat} {w w' : World} (h : Kept b e N w w') (o : Obj) : Kept b e N w (w'.alloc o) :=
  h.trans ⟨rfl, rfl, rfl, by simp, fun k hk _ _ => Below.heap_alloc _ _ _ hk⟩
theorem Kept.set {b : Nat} {e : TypeId} {N : Nat} {w w' : World} (h : Kept b e N w w') (o : Nat) (v : Value) : Kept b e N w (w'.setCell ⟨b, o, none⟩ v) :=
  h.trans (Kept.of_but ((But.refl b b w').set (a := ⟨b, o, none⟩) (.inl rfl) v))
theorem Kept.grown {b : Nat} {e : TypeId} {N size n : Nat} {w w' w'' : World} {v : Value} {xs : List Value} (h : Kept b e N w w') (hown : w'.ownsRow N e size v n xs) (hg : w'.grownBy w'' v.ownBlock) : Kept b e N w w'' := by
  refine h.trans ⟨hg.os, hg.tape, hg.output, hg.size, fun k hk hb hN => hg.block k hk fun hs => ?_⟩
  obtain ⟨_, ⟨rfl, _⟩ | ⟨g, cap, cur, rfl, hgN, hh, _⟩⟩ := hown
  · cases hs
  · obtain rfl : k = g := by simpa [Value.ownBlock] using hs
    rcases hN with hN | hN
    · omega
    · exact hN cur hh
theorem Kept.below {b : Nat} {e : TypeId} {N W : Nat} {w w' : World} (h : Kept b e N w w') (hb : W ≤ b) (hN : W ≤ N) (hs : W ≤ w.heap.size) : Below W w w' :=
  ⟨h.os, h.tape, h.output, h.size, fun k hk => h.block k (by omega) (by omega) (.inl (by omega))⟩
theorem Kept.blk {b : Nat} {e : TypeId} {N : Nat} {w w' : World} (h : Kept b e N w w') {k : Nat} {cur : Array Value} {t : TypeId} (hk : Blk w k cur t) (hb : k ≠ b) (ht : t ≠ e) : Blk w' k cur t :=
  (h.block k hk.lt hb (.inr fun c hc => ht (hk.same hc).2)).trans hk
theorem Kept.owns {b : Nat} {e f : TypeId} {N M size n : Nat} {w w' : World} {v : Value} {xs : List Value} (h : Kept b e N w w') (hown : w.ownsRow M f size v n xs) (hb : b < M) (hf : f ≠ e) : w'.ownsRow M f size v n xs := by
  obtain ⟨h0, h1 | ⟨g, cap, cur, hv, hg, hh, h2⟩⟩ := hown
  · exact ⟨h0, .inl h1⟩
  · exact ⟨h0, .inr ⟨g, cap, cur, hv, hg, h.blk hh (by omega) hf, h2⟩⟩

/-- bits as a function -/
def bitF (l : List Bool) : Nat → Bool := fun i => l.getD i false
theorem bitF_snoc (l : List Bool) (x : Bool) : bitF (l ++ [x]) = M.upd (bitF l) l.length x := by
  funext i
  unfold bitF M.upd List.getD
  split
  · next h => subst h; simp
  · next h =>
    rcases Nat.lt_or_ge i l.length with h' | h'
    · rw [List.getElem?_append_left h']
    · show (l ++ [x])[i]?.getD false = l[i]?.getD false
      rw [List.getElem?_eq_none (by simp; omega), List.getElem?_eq_none h']
theorem bitF_out (l : List Bool) (i : Nat) (h : l.length ≤ i) : bitF l i = false := by
  unfold bitF List.getD
  rw [List.getElem?_eq_none h]; rfl
theorem byte_out (l : List Bool) (j : Nat) (h : l.length ≤ 8 * j) : M.byteOf (bitF l) j = 0 := by
  unfold M.byteOf
  rw [bitF_out l _ (by omega), bitF_out l _ (by omega), bitF_out l _ (by omega), bitF_out l _ (by omega), bitF_out l _ (by omega), bitF_out l _ (by omega), bitF_out l _ (by omega), bitF_out l _ (by omega)]
  rfl
/-- the cells of bytes -/
def cellL (m : Nat) (B : Nat → Bool) : List Value := (bytesL m B).map fun x : Nat => Value.int .u8 x
theorem cellL_length (m : Nat) (B : Nat → Bool) : (cellL m B).length = m := by simp [cellL, Bits.bytesL_length]
theorem cellL_get {m j : Nat} (B : Nat → Bool) (h : j < m) : (cellL m B)[j]? = some (.int .u8 (M.byteOf B j)) := by
  simp [cellL, bytesL, h]
theorem cellL_succ (m : Nat) (B : Nat → Bool) : cellL (m + 1) B = cellL m B ++ [.int .u8 (M.byteOf B m)] := by
  simp [cellL, bytesL, List.range_succ]
theorem cellL_set (m : Nat) (B C : Nat → Bool) (h : ∀ j, j < m → M.byteOf C j = M.byteOf B j) : (cellL (m + 1) B).set m (.int .u8 (M.byteOf C m)) = cellL (m + 1) C := by
  rw [cellL_succ, cellL_succ, List.set_append_right _ _ (by rw [cellL_length]; exact Nat.le_refl _), cellL_length, Nat.sub_self]
  congr 1
  unfold cellL bytesL
  rw [List.map_map, List.map_map]
  refine List.map_congr_left fun j hj => ?_
  show Value.int .u8 _ = Value.int .u8 _
  rw [h j (by simpa using hj)]

/-- a coder in block b, its row of bytes from block N on -/
def Cdr (w : World) (b N : Nat) (L H : Int) (o : Nat) (l : List Bool) (en : Bool) : Prop :=
  ∃ s, Blk w b #[.int .i64 L, .int .i64 H, .int .i64 o, s, .int .i64 l.length, .bool en] 70 ∧ w.ownsRow N 5 1 s ((l.length + 7) / 8) (cellL ((l.length + 7) / 8) (bitF l)) ∧ b < N ∧ N ≤ w.heap.size
theorem Cdr.drewN {w : World} {b N : Nat} {L H : Int} {o : Nat} {l : List Bool} {en : Bool} (h : Cdr w b N L H o l en) (m : Nat) : Cdr (w.drewN m) b N L H o l en := h
theorem Cdr.drew {w : World} {b N : Nat} {L H : Int} {o : Nat} {l : List Bool} {en : Bool} (h : Cdr w b N L H o l en) : Cdr w.drew b N L H o l en := h
theorem Cdr.lt {w : World} {b N : Nat} {L H : Int} {o : Nat} {l : List Bool} {en : Bool} (h : Cdr w b N L H o l en) : b < w.heap.size := by
  obtain ⟨s, hb, _⟩ := h; exact hb.lt
theorem Cdr.kept {w w' : World} {b N r M : Nat} {e : TypeId} {L H : Int} {o : Nat} {l : List Bool} {en : Bool} (h : Cdr w b N L H o l en) (k : Kept r e M w w') (hr : r < N) (hb : b ≠ r) (h1 : 70 ≠ e) (h2 : 5 ≠ e) : Cdr w' b N L H o l en := by
  obtain ⟨s, q1, q2, q3, q4⟩ := h
  exact ⟨s, k.blk q1 hb h1, k.owns q2 hr h2, q3, Nat.le_trans q4 k.size⟩
theorem Cdr.below {w w' : World} {b N W : Nat} {L H : Int} {o : Nat} {l : List Bool} {en : Bool} (h : Cdr w b N L H o l en) (k : Below W w w') (hW : w.heap.size ≤ W) : Cdr w' b N L H o l en := by
  obtain ⟨s, q1, q2, q3, q4⟩ := h
  refine ⟨s, Bits.Below.blk k q1 (by have := q1.lt; omega), ?_, q3, Nat.le_trans q4 k.size⟩
  obtain ⟨h0, h1 | ⟨g, cap, cur, hv, hg, hh, h2⟩⟩ := q2
  · exact ⟨h0, .inl h1⟩
  · have := (Array.getElem?_eq_some_iff.1 hh).1
    exact ⟨h0, .inr ⟨g, cap, cur, hv, hg, (k.block g (by omega)).trans hh, h2⟩⟩

theorem or_any (x : Nat) (y : Bool) (k : Nat) (h : x < 256) (hk : k ≤ 7) : bits BinOp.or IntKind.u8 (x : Int) (IntKind.u8.wrap (((y.toNat : Nat) : Int) * 2 ^ k)) = ((x ||| (if y then 2 ^ k else 0) : Nat) : Int) := by
  cases y
  · simp
    rw [show IntKind.u8.wrap 0 = ((0 : Nat) : Int) by rfl, u8_or_nat _ _ h (by omega)]; simp
  · simp only [Bool.toNat_true, if_true]
    rw [show (((1 : Nat) : Int) * 2 ^ k) = 2 ^ k by omega]
    exact M.or_word x k h hk
theorem or_upd (l : List Bool) (x : Bool) : M.byteOf (bitF l) (l.length / 8) ||| (if x then 2 ^ (7 - l.length % 8) else 0) = M.byteOf (bitF (l ++ [x])) (l.length / 8) := by
  rw [bitF_snoc]
  cases x
  · rw [M.upd_same (bitF_out l _ (Nat.le_refl _))]; simp
  · exact M.or_byte _ _

theorem row_last {w : World} {N g cap j : Nat} {e : TypeId} {xs : List Value} {v : Value} (h : w.ownsRow N e 1 (.slice (some ⟨g, 0, none⟩) (j + 1) cap) (j + 1) (xs ++ [v])) (hx : xs.length = j) : w.cell? ⟨g, j, none⟩ = some v ∧ w.frozen? ⟨g, j, none⟩ = false := by
  refine ⟨(h.cellAt j (by omega)).trans ?_, h.frozenAt j⟩
  rw [List.getElem?_append_right (by omega), hx, Nat.sub_self]
  rfl
theorem far_of {w w3 : World} {o : Obj} {row : Option Nat} {b : Nat} (hgrow : (w.alloc o).grownBy w3 row) (lb : b < w.heap.size) (kN : some b ≠ row) :
    (∀ i, w3.cell? ⟨b, i, none⟩ = w.cell? ⟨b, i, none⟩) ∧ ∀ i, w3.frozen? ⟨b, i, none⟩ = w.frozen? ⟨b, i, none⟩ := by
  have h : b < (w.alloc o).heap.size := by simp; omega
  have k := (Below.refl w.heap.size w).alloc (Nat.le_refl _) o
  exact ⟨fun i => (hgrow.cell_far ⟨b, i, none⟩ h kN).trans (k.cell lb), fun i => (hgrow.frozen_far ⟨b, i, none⟩ h kN).trans (k.frozen lb)⟩

/-- the two last stores of add -/
theorem add_close {w u : World} {b N g cap j : Nat} {L H X Y : Int} {o : Nat} {l : List Bool} {en x : Bool} (K : Kept b 5 N w u)
    (hb : Blk u b #[.int .i64 L, .int .i64 H, .int .i64 o, .slice (some ⟨g, 0, none⟩) (j + 1) cap, .int .i64 l.length, .bool en] 70)
    (hown : u.ownsRow N 5 1 (.slice (some ⟨g, 0, none⟩) (j + 1) cap) (j + 1) (cellL (j + 1) (bitF l))) (hbN : b < N) (hNs : N ≤ u.heap.size) (hj : l.length / 8 = j)
    (hX : X = (M.byteOf (bitF (l ++ [x])) j : Nat)) (hY : Y = ((l ++ [x]).length : Nat)) :
    Kept b 5 N w ((u.setCell ⟨g, j, none⟩ (.int .u8 X)).setCell ⟨b, 4, none⟩ (.int .i64 Y)) ∧ Cdr ((u.setCell ⟨g, j, none⟩ (.int .u8 X)).setCell ⟨b, 4, none⟩ (.int .i64 Y)) b N L H o (l ++ [x]) en := by
  subst hX hY
  obtain ⟨own2, gr2⟩ := hown.stored j (.int .u8 (M.byteOf (bitF (l ++ [x])) j : Nat))
  rw [cellL_set j _ _ (fun i hi => by rw [bitF_snoc, M.byte_ne _ _ _ _ (by omega)])] at own2
  obtain ⟨_, _, he, hgN, _⟩ := hown.form (by omega)
  cases he
  have hne : b ≠ g := by omega
  have K2 := (K.grown hown gr2).set 4 (.int .i64 ((l ++ [x]).length : Nat))
  refine ⟨K2, .slice (some ⟨g, 0, none⟩) (j + 1) cap, (hb.set_ne hne _).set 4 _, ?_, hbN, by simpa using hNs⟩
  have e : ((l ++ [x]).length + 7) / 8 = j + 1 := by simp; omega
  rw [e]
  have bt : But b b (u.setCell ⟨g, j, none⟩ (.int .u8 (M.byteOf (bitF (l ++ [x])) j : Nat))) _ := (But.refl b b _).set (a := ⟨b, 4, none⟩) (.inl rfl) (.int .i64 ((l ++ [x]).length : Nat))
  obtain ⟨h0, h1 | ⟨g', cap', cur, hv, hg, hh, h2⟩⟩ := own2
  · exact ⟨h0, .inl h1⟩
  · exact ⟨h0, .inr ⟨g', cap', cur, hv, hg, bt.blk hh (by omega) (by omega), h2⟩⟩

set_option maxRecDepth 100000 in
set_option maxHeartbeats 2000000 in
theorem add_any (b N : Nat) (L H : Int) (o : Nat) (l : List Bool) (en x : Bool) (w : World) (h : Cdr w b N L H o l en) (hl : l.length ≤ 60000) :
    Calls Try.prog 46 #[.pointer (some ⟨b, 0, none⟩), .int .i64 (x.toNat : Nat)] w fun e w' => e = .returned (.tuple #[]) ∧ Kept b 5 N w w' ∧ Cdr w' b N L H o (l ++ [x]) en := by
  obtain ⟨i0, hi0, hz0, hz1, hz2⟩ := info_parts Bits.info8
  obtain ⟨s, hb, hown, hbN, hNs⟩ := h
  have hor := or_upd l x
  have hlt := M.byteOf_lt (bitF l) (l.length / 8)
  have hor2 := or_any (M.byteOf (bitF l) (l.length / 8)) x (7 - l.length % 8) hlt (by omega)
  rw [hor] at hor2
  have hothers : ∀ j, j < l.length / 8 → M.byteOf (bitF (l ++ [x])) j = M.byteOf (bitF l) j := fun j hj => by rw [bitF_snoc, M.byte_ne _ _ _ _ (by omega)]
  have hlen : (l ++ [x]).length = l.length + 1 := by simp
  have hy1 : (x.toNat : Int) ≤ 1 := by have := Bool.toNat_le x; omega
  have c3 : w.cell? ⟨b, 3, none⟩ = some s := hb.cell rfl
  have c4 : w.cell? ⟨b, 4, none⟩ = some (.int .i64 l.length) := hb.cell rfl
  have f3 := hb.free 3
  have f4 := hb.free 4
  have lb := hb.lt
  by_cases hp : l.length % 8 = 0
  · have hz := byte_out l (l.length / 8) (by omega)
    rw [hz] at hor2
    obtain ⟨j, hj⟩ : ∃ j, l.length / 8 = j := ⟨_, rfl⟩
    have en1 : (l.length + 7) / 8 = j := by omega
    have en2 : (l.length + 1 + 7) / 8 = j + 1 := by omega
    rw [en1] at hown
    rw [hj] at hor2 hz hothers
    have hj' : Hid (l.length / 8 = j) := hj
    clear hor hlt hj
    obtain ⟨n, hn⟩ : ∃ n, n = l.length := ⟨_, rfl⟩
    rw [← hn] at c4 hor2 hp
    have k0 : (n : Int) % 8 = 0 := by omega
    have k00 : (0 : Int) ≤ n := by omega
    have k1 : n ≤ 60000 := by omega
    have k2 : j ≤ 60000 := by omega
    replace hn : Hid (n = l.length) := hn
    rw [hp] at hor2
    clear hp
    have kN : some b ≠ s.ownBlock := fun e => by
      have := (hown.lt b e.symm).1
      omega
    go_enter Try.func46, Try.ntmps46
    go_wp2_with (at_builtin; refine wpList_append_own _ rfl (.tmp 16) (.tmp 17) 41 rfl N 5 i0 (.int .u8 0) 1 1 Try.underlying41 hi0 hz0 hz1 hz2 rfl (by decide) _ _ _ rfl (hown.alloc _) ⟨w.heap.size, 0, none⟩ 1 1 [.int .u8 0] rfl rfl (World.news_of_block (cs := #[.int .u8 0]) (t := 5) (fr := (0, 0)) (heap_alloc_new w _)) (by simp [Value.oneCell']) (by unfold maxLen; omega) (by omega) (by simp; omega) ?_; intro v' w3 hown3 hgrow _; obtain ⟨g, cap, rfl, hgN, hglt⟩ := hown3.form (by omega); obtain ⟨zc, zf⟩ := far_of hgrow lb kN; have z3 := (zc 3).trans c3; have z4 := (zc 4).trans c4; have y3 := (zf 3).trans f3; have y4 := (zf 4).trans f4; clear zc zf; have hgb : g ≠ b := (by omega); obtain ⟨x0, x1⟩ := row_last hown3 (cellL_length _ _))
    go_region
    all_goals go_wp2
    all_goals go_end0
    all_goals (
      have hb3 : Blk w3 b #[.int .i64 L, .int .i64 H, .int .i64 o, s, .int .i64 l.length, .bool en] 70 := (hgrow.block b (by simp; omega) kN).trans (hb.alloc _)
      have hA : Kept b 5 N w (w.alloc (.cells #[.int .u8 0] 5)) := (Kept.refl b 5 N w).alloc _
      have K3 : Kept b 5 N w w3 := hA.grown (hown.alloc _) hgrow
      have s3 := K3.size
      rw [show [Value.int .u8 0] = [Value.int .u8 (M.byteOf (bitF l) j : Nat)] by rw [hz]; rfl, ← cellL_succ] at hown3
      have hown4 : (w3.setCell ⟨b, 3, none⟩ (.slice (some ⟨g, 0, none⟩) (j + 1) cap)).ownsRow N 5 1 (.slice (some ⟨g, 0, none⟩) (j + 1) cap) (j + 1) (cellL (j + 1) (bitF l)) := by
        have bt : But b b w3 _ := (But.refl b b w3).set (a := ⟨b, 3, none⟩) (.inl rfl) (.slice (some ⟨g, 0, none⟩) (j + 1) cap)
        obtain ⟨h0, h1 | ⟨g', cap', cur, hv, hg, hh, h2⟩⟩ := hown3
        · exact ⟨h0, .inl h1⟩
        · exact ⟨h0, .inr ⟨g', cap', cur, hv, hg, bt.blk hh (by omega) (by omega), h2⟩⟩
      obtain ⟨r1, r2⟩ := add_close (x := x) (X := bits BinOp.or IntKind.u8 0 ((x.toNat : Int) * 128)) (Y := (n : Int) + 1) (K3.set 3 (.slice (some ⟨g, 0, none⟩) (j + 1) cap)) (hb3.set 3 _) hown4 hbN (by simp; omega) hj' (by rw [← hor2]; cases x <;> rfl) (by rw [hlen, show n = l.length from hn]; omega)
      exact ⟨rfl, r1.drew, r2.drew⟩)
  · obtain ⟨j, hj⟩ : ∃ j, l.length / 8 = j := ⟨_, rfl⟩
    have en1 : (l.length + 7) / 8 = j + 1 := by omega
    rw [en1] at hown
    obtain ⟨g, cap, rfl, hgN, hglt⟩ := hown.form (by omega)
    have hgb : g ≠ b := by omega
    have x0 : w.cell? ⟨g, j, none⟩ = some (.int .u8 (M.byteOf (bitF l) j)) := (hown.cellAt j (by omega)).trans (cellL_get _ (by omega))
    have x1 := hown.frozenAt j
    rw [hj] at hor2 hlt
    obtain ⟨n, hn⟩ : ∃ n, n = l.length := ⟨_, rfl⟩
    rw [← hn] at c4 hor2 hp
    have hj' : Hid (l.length / 8 = j) := hj
    obtain ⟨p, hp1, hp2⟩ : ∃ p : Nat, (n : Int) % 8 = p ∧ n % 8 = p := ⟨n % 8, by omega, rfl⟩
    rw [hp2] at hor2
    have k0 : ¬ (p : Int) = 0 := by omega
    have k00 : (0 : Int) ≤ n := by omega
    have k1 : n ≤ 60000 := by omega
    have k2 : j ≤ 60000 := by omega
    have k5 : (0 : Int) ≤ 7 - (p : Int) := by omega
    have k6 : 7 - (p : Int) ≤ 63 := by omega
    have k7 : (7 - (p : Int)).toNat = 7 - p := by omega
    obtain ⟨z, hz, hz1⟩ : ∃ z : Nat, ((x.toNat : Nat) : Int) * 2 ^ (7 - p) = z ∧ z ≤ 128 := by
      refine ⟨x.toNat * 2 ^ (7 - p), by simp, ?_⟩
      have a1 : x.toNat ≤ 1 := Bool.toNat_le x
      have a2 : 2 ^ (7 - p) ≤ 2 ^ 7 := Nat.pow_le_pow_right (by decide) (by omega)
      have := Nat.mul_le_mul a1 a2
      omega
    obtain ⟨Y, hY, hY1⟩ : ∃ Y : Nat, M.byteOf (bitF l) j = Y ∧ Y < 256 := ⟨_, rfl, hlt⟩
    have hv : IntKind.u8.wrap (z : Int) = z := by rw [IntKind.wrap_u8']; omega
    rw [hY, hz, hv] at hor2
    rw [hY] at x0
    replace hn : Hid (n = l.length) := hn
    replace hor2 : Hid (bits BinOp.or IntKind.u8 (Y : Int) (z : Int) = ((M.byteOf (bitF (l ++ [x])) j : Nat) : Int)) := hor2
    clear hor hlt hj hp hp2 hY hothers hv
    go_enter Try.func46, Try.ntmps46
    go_wp2
    go_region
    all_goals go_wp2
    all_goals go_end0
    all_goals (
      obtain ⟨r1, r2⟩ := add_close (x := x) (X := bits BinOp.or IntKind.u8 (Y : Int) (z : Int)) (Y := (n : Int) + 1) (Kept.refl b 5 N w) hb hown hbN hNs hj' hor2 (by rw [hlen, show n = l.length from hn]; omega)
      exact ⟨rfl, r1.drew, r2.drew⟩)

theorem Cdr.cells {w : World} {b N : Nat} {L H : Int} {o : Nat} {l : List Bool} {en : Bool} (h : Cdr w b N L H o l en) :
    w.cell? ⟨b, 0, none⟩ = some (.int .i64 L) ∧ w.cell? ⟨b, 1, none⟩ = some (.int .i64 H) ∧ w.cell? ⟨b, 2, none⟩ = some (.int .i64 o) ∧ w.cell? ⟨b, 4, none⟩ = some (.int .i64 l.length) ∧ w.cell? ⟨b, 5, none⟩ = some (.bool en) ∧ ∀ i, w.frozen? ⟨b, i, none⟩ = false := by
  obtain ⟨s, hb, _⟩ := h
  exact ⟨hb.cell rfl, hb.cell rfl, hb.cell rfl, hb.cell rfl, hb.cell rfl, fun i => hb.free i⟩
theorem owns_set {w : World} {b N n : Nat} {e : TypeId} {s : Value} {xs : List Value} (h : w.ownsRow N e 1 s n xs) (hb : b < N) (i : Nat) (v : Value) : (w.setCell ⟨b, i, none⟩ v).ownsRow N e 1 s n xs := by
  have bt : But b b w _ := (But.refl b b w).set (a := ⟨b, i, none⟩) (.inl rfl) v
  obtain ⟨h0, h1 | ⟨g', cap', cur, hv, hg, hh, h2⟩⟩ := h
  · exact ⟨h0, .inl h1⟩
  · exact ⟨h0, .inr ⟨g', cap', cur, hv, hg, bt.blk hh (by omega) (by omega), h2⟩⟩
theorem Cdr.owe {w : World} {b N : Nat} {L H : Int} {o : Nat} {l : List Bool} {en : Bool} (h : Cdr w b N L H o l en) (X : Int) (o' : Nat) (hX : X = o') : Cdr (w.setCell ⟨b, 2, none⟩ (.int .i64 X)) b N L H o' l en := by
  subst hX
  obtain ⟨s, hb, hown, h1, h2⟩ := h
  exact ⟨s, hb.set 2 _, owns_set hown h1 _ _, h1, by simpa using h2⟩
theorem Cdr.low {w : World} {b N : Nat} {L H : Int} {o : Nat} {l : List Bool} {en : Bool} (h : Cdr w b N L H o l en) (X : Int) : Cdr (w.setCell ⟨b, 0, none⟩ (.int .i64 X)) b N X H o l en := by
  obtain ⟨s, hb, hown, h1, h2⟩ := h
  exact ⟨s, hb.set 0 _, owns_set hown h1 _ _, h1, by simpa using h2⟩
theorem Cdr.high {w : World} {b N : Nat} {L H : Int} {o : Nat} {l : List Bool} {en : Bool} (h : Cdr w b N L H o l en) (X : Int) : Cdr (w.setCell ⟨b, 1, none⟩ (.int .i64 X)) b N L X o l en := by
  obtain ⟨s, hb, hown, h1, h2⟩ := h
  exact ⟨s, hb.set 1 _, owns_set hown h1 _ _, h1, by simpa using h2⟩
theorem Cdr.fin {w : World} {b N : Nat} {L H : Int} {o : Nat} {l : List Bool} {en : Bool} (h : Cdr w b N L H o l en) : Cdr (w.setCell ⟨b, 5, none⟩ (.bool true)) b N L H o l true := by
  obtain ⟨s, hb, hown, h1, h2⟩ := h
  exact ⟨s, hb.set 5 _, owns_set hown h1 _ _, h1, by simpa using h2⟩

set_option maxRecDepth 100000 in
theorem tell_any (b N : Nat) (L H : Int) (o : Nat) (l : List Bool) (en x : Bool) (y : Int) (w : World) (h : Cdr w b N L H o l en) (hl : l.length + o ≤ 50000) (hy : y = (x.toNat : Nat)) :
    Calls Try.prog 34 #[.pointer (some ⟨b, 0, none⟩), .int .i64 y] w fun e w' => e = .returned (.tuple #[]) ∧ Kept b 5 N w w' ∧ Cdr w' b N L H 0 (l ++ x :: List.replicate o (!x)) en := by
  have hA := add_any b N L H o l en x w h (by omega)
  rw [← hy] at hA
  have hB := fun o l w h hl => add_any b N L H o l en (!x) w h hl
  have ey : (((!x).toNat : Nat) : Int) = 1 - y := by rw [hy]; cases x <;> rfl
  rw [ey] at hB
  have y0 : 0 ≤ y := by rw [hy]; omega
  have y1 : y ≤ 1 := by have := Bool.toNat_le x; omega
  clear ey hy
  go_enter Try.func34, Try.ntmps34
  go_wp2_with (go_at_call 46; refine hA.mono ?_; rintro e w1 ⟨rfl, K1, C1⟩)
  go_loopw [7] (fun _ wr => ∃ k : Nat, k ≤ o ∧ Kept b 5 N w wr ∧ Cdr wr b N L H (o - k) (l ++ x :: List.replicate k (!x)) en) (fun _ wr => (intOf ((wr.cell? ⟨b, 2, none⟩).getD undef)).toNat)
  case atStart => exact ⟨0, by omega, K1, C1⟩
  case round =>
    obtain ⟨k, hk, Kr, Cr⟩ := hrel
    obtain ⟨c0, c1, c2, c4, c5, fr⟩ := Cr.cells
    clear hA C1 K1
    by_cases hlt : k < o
    · have hB' := hB _ _ _ Cr (by simp; omega)
      have i1 : (0 : Int) < ((o - k : Nat) : Int) := by omega
      obtain ⟨q, hq⟩ : ∃ q, q = o - k := ⟨_, rfl⟩
      rw [← hq] at hB' i1 c2
      clear hB
      have hq' : Hid (q = o - k) := hq
      clear hq
      have q5 : q ≤ 50000 := by have : q = o - k := hq'; omega
      go_wp2_with (go_at_call 46; refine hB'.mono ?_; clear hB'; rintro e w2 ⟨rfl, K2, C2⟩; obtain ⟨d0, d1, d2, d4, d5, gr⟩ := C2.cells; have gr2 := gr 2)
      go_roundw
      case rel =>
        have e1 : l ++ x :: List.replicate (k + 1) (!x) = l ++ x :: List.replicate k (!x) ++ [!x] := by rw [List.replicate_succ']; simp
        refine ⟨k + 1, by omega, (Kr.trans K2).set 2 _, ?_⟩
        rw [e1]
        exact C2.owe _ (o - (k + 1)) (by have : q = o - k := hq'; omega)
      case measure =>
        have e2 := (C2.owe ((q : Int) - 1) (q - 1) (by omega)).cells.2.2.1
        rw [e2, c2]; simp [intOf]; omega
    · obtain rfl : k = o := by omega
      have i1 : ((k - k : Nat) : Int) = 0 := by omega
      rw [i1] at c2
      go_wp2
      go_end0
      rw [Nat.sub_self] at Cr
      exact ⟨rfl, Kr, Cr⟩

set_option maxRecDepth 100000 in
theorem settle_any (b N : Nat) (L H z : Int) (o : Nat) (l : List Bool) (en : Bool) (w : World) (h : Cdr w b N L H o l en) (hl : l.length + o ≤ 50000) (hz : z = 0 ∨ z = 32768 ∨ z = 16384) :
    Calls Try.prog 31 #[.pointer (some ⟨b, 0, none⟩), .int .i64 z] w fun e w' => e = .returned (.tuple #[]) ∧ Kept b 5 N w w' ∧ Cdr w' b N L H ((M.Cod.mk L H o l).settle z).o ((M.Cod.mk L H o l).settle z).l en := by
  rcases hz with rfl | rfl | rfl
  · have hT := tell_any b N L H o l en false 0 w h hl rfl
    go_enter Try.func31, Try.ntmps31
    go_wp2_with (go_at_call 34; refine hT.mono ?_; rintro e w1 ⟨rfl, K1, C1⟩)
    go_end0
    exact ⟨rfl, K1, C1⟩
  · have hT := tell_any b N L H o l en true 1 w h hl rfl
    go_enter Try.func31, Try.ntmps31
    go_wp2_with (go_at_call 34; refine hT.mono ?_; rintro e w1 ⟨rfl, K1, C1⟩)
    go_end0
    exact ⟨rfl, K1, C1⟩
  · obtain ⟨c0, c1, c2, c4, c5, fr⟩ := h.cells
    have fr2 := fr 2
    go_enter Try.func31, Try.ntmps31
    go_wp2
    go_end0
    exact ⟨rfl, (Kept.refl _ _ _ _).set 2 _, h.owe _ (o + 1) (by omega)⟩

set_option maxRecDepth 100000 in
set_option maxHeartbeats 1000000 in
/-- widening, with a coder's step -/
theorem widenC (b N : Nat) (c : M.Cod) (en : Bool) (w : World) (h : Cdr w b N c.L c.H c.o c.l en) (hc : c.Ok) (hl : c.D ≤ 40000) :
    Calls Try.prog 30 #[.pointer (some ⟨b, 0, none⟩), .func (.func 31) #[.pointer (some ⟨b, 0, none⟩)] #[]] w fun e w' => e = .returned (.tuple #[]) ∧ Kept b 5 N w w' ∧ Cdr w' b N (c.wid 16).L (c.wid 16).H (c.wid 16).o (c.wid 16).l en := by
  have h0 := cut_any b c.L c.H w ⟨h.cells.1, h.cells.2.1⟩ hc.low hc.le hc.high
  go_enter Try.func30, Try.ntmps30
  go_wp2_with (go_at_call 45; refine h0.mono ?_; clear h0; rintro e w1 ⟨rfl, rfl⟩)
  go_loopw [4, 5] (fun z m wr => ∃ (k j : Nat) (d : M.Cod), z = .int .i64 (M.less d.L d.H) ∧ m = .bool (M.more d.L d.H) ∧ d.Ok ∧ c.wid 16 = d.wid k ∧ k + j = 16 ∧ d.D = c.D + j ∧ 65536 ≤ d.W * 2 ^ k ∧ Kept b 5 N w1 wr ∧ Cdr wr b N d.L d.H d.o d.l en) (fun _ _ wr => 65536 - (intOf ((wr.cell? ⟨b, 1, none⟩).getD undef) - intOf ((wr.cell? ⟨b, 0, none⟩).getD undef)).toNat)
  case atStart => exact ⟨16, 0, c, rfl, rfl, hc, rfl, rfl, rfl, by have := hc.W_pos; omega, Kept.refl _ _ _ _, h⟩
  case round =>
    obtain ⟨k, j, d, rfl, rfl, hd, hwid, hkj, hD, hW, Kr, Cr⟩ := hrel
    cases hm : M.more d.L d.H with
    | true =>
      have hcs := M.less_cases hm hd.low hd.high hd.le
      have hok := hd.dbl hm
      have hsm := hd.small hm
      have hS := settle_any b N d.L d.H (M.less d.L d.H) d.o d.l en wr Cr (by unfold M.Cod.D at *; omega) (by omega)
      have hdW := M.Cod.Ok.dbl_W (c := d)
      have hdD := d.dbl_D
      have hk0 : k ≠ 0 := fun e => by subst e; rw [Int.pow_zero, Int.mul_one] at hW; omega
      obtain ⟨k', rfl⟩ : ∃ k', k = k' + 1 := ⟨k - 1, by omega⟩
      have hwid2 : c.wid 16 = d.dbl.wid k' := by rw [hwid, M.Cod.wid_more k' hm]
      have hW2 : 65536 ≤ d.dbl.W * 2 ^ k' := by rw [hdW, Int.mul_comm 2, Int.mul_assoc, Int.mul_comm 2, ← Int.pow_succ]; exact hW
      have hcut : ∀ w', Rng w' b (2 * (d.L - M.less d.L d.H)) (2 * (d.H - M.less d.L d.H) + 1) → Calls Try.prog 45 #[.pointer (some ⟨b, 0, none⟩)] w' fun e w'' => e = .returned (.tuple #[.int .i64 (M.less d.dbl.L d.dbl.H), .bool (M.more d.dbl.L d.dbl.H)]) ∧ w'' = w' :=
        fun w' hr => cut_any b d.dbl.L d.dbl.H w' hr hok.low hok.le hok.high
      have hfin : ∀ w2, Cdr w2 b N d.L d.H ((M.Cod.mk d.L d.H d.o d.l).settle (M.less d.L d.H)).o ((M.Cod.mk d.L d.H d.o d.l).settle (M.less d.L d.H)).l en → Cdr ((w2.setCell ⟨b, 0, none⟩ (.int .i64 (2 * (d.L - M.less d.L d.H)))).setCell ⟨b, 1, none⟩ (.int .i64 (2 * (d.H - M.less d.L d.H) + 1))) b N d.dbl.L d.dbl.H d.dbl.o d.dbl.l en ∧ Rng ((w2.setCell ⟨b, 0, none⟩ (.int .i64 (2 * (d.L - M.less d.L d.H)))).setCell ⟨b, 1, none⟩ (.int .i64 (2 * (d.H - M.less d.L d.H) + 1))) b (2 * (d.L - M.less d.L d.H)) (2 * (d.H - M.less d.L d.H) + 1) :=
        fun w2 C2 => ⟨(C2.low _).high _, ((C2.low _).high _).cells.1, ((C2.low _).high _).cells.2.1⟩
      have hL0 := hd.low; have hLH := hd.le; have hH := hd.high
      obtain ⟨cr0, cr1, -⟩ := Cr.cells
      obtain ⟨dd, hdd⟩ : ∃ dd, dd = d.dbl := ⟨_, rfl⟩
      rw [← hdd] at hok hdW hdD hwid2 hW2 hcut hfin
      have hddL : Hid (dd.L = 2 * (d.L - M.less d.L d.H)) := by rw [hdd]; rfl
      have hddH : Hid (dd.H = 2 * (d.H - M.less d.L d.H) + 1) := by rw [hdd]; rfl
      clear hdd hwid hW hsm
      obtain ⟨L, hL⟩ : ∃ L, L = d.L := ⟨_, rfl⟩
      obtain ⟨H, hH'⟩ : ∃ H, H = d.H := ⟨_, rfl⟩
      obtain ⟨x, hx⟩ : ∃ x, x = M.less d.L d.H := ⟨_, rfl⟩
      obtain ⟨z', hz'⟩ : ∃ z', z' = M.less dd.L dd.H := ⟨_, rfl⟩
      obtain ⟨m', hm'⟩ : ∃ m', m' = M.more dd.L dd.H := ⟨_, rfl⟩
      rw [← hz', ← hm'] at hcut
      rw [← hx] at hcut hfin hS hcs hddL hddH ⊢
      rw [← hL] at hcut hfin hS hcs hL0 hLH hddL cr0
      rw [← hH'] at hcut hfin hS hcs hLH hH hddH cr1
      replace hz' : Hid (z' = M.less dd.L dd.H) := hz'
      replace hm' : Hid (m' = M.more dd.L dd.H) := hm'
      clear hx hL hH'
      obtain ⟨so, hso⟩ : ∃ so, so = ((M.Cod.mk L H d.o d.l).settle x).o := ⟨_, rfl⟩
      obtain ⟨sl, hsl⟩ : ∃ sl, sl = ((M.Cod.mk L H d.o d.l).settle x).l := ⟨_, rfl⟩
      rw [← hso, ← hsl] at hS hfin
      clear hso hsl
      have x0 : 0 ≤ x := by omega
      have x1 : x ≤ 32768 := by omega
      have x2 : 0 ≤ L - x := by omega
      have x3 : H - x ≤ 32767 := by omega
      replace hcs : Hid ((x = 0 ∧ H < 32768) ∨ (x = 32768 ∧ 32768 ≤ L) ∨ (x = 16384 ∧ 16384 ≤ L ∧ H < 49152)) := hcs
      go_wp2_with (first
        | (go_at_call 31; refine hS.mono ?_; clear hS; rintro e w2 ⟨rfl, K2, C2⟩; obtain ⟨d0, d1, d2, d4, d5, gr⟩ := C2.cells; have gr0 := gr 0; have gr1 := gr 1; obtain ⟨C3, R3⟩ := hfin _ C2)
        | (go_at_call 45; refine (hcut _ R3).mono ?_; rintro e w4 ⟨rfl, rfl⟩))
      go_roundw
      case rel => exact ⟨k', j + 1, dd, by rw [show z' = _ from hz'], by rw [show m' = _ from hm'], hok, hwid2, by omega, by omega, hW2, ((Kr.trans K2).set 0 _).set 1 _, C3⟩
      case measure =>
        obtain ⟨r0, r1⟩ := R3
        rw [r0, r1, cr0, cr1]; simp [intOf]; omega
    | false =>
      rw [M.Cod.wid_less k hm] at hwid
      go_wp2
      go_end0
      rw [← hwid] at Cr
      exact ⟨rfl, Kr, Cr⟩

end Ari
end Go.Proofs.Ytknolfpjhfpfaaa
