/-
  The document's coder for layer 7 (psalteryref07) in memory, and contracts of its calls: NewCoder, tell, End. Conditions: the coder stands in memory as told.
-/
import Derived.Test.YtknolfpjhfpfaaaArithRefG
namespace Go.Proofs.Ytknolfpjhfpfaaa
set_option linter.unusedVariables false
open Go.RowKit
namespace Ari
open Bits (Blk But add_at wrap_id bytesL)
open Num (Ints)

/-- the cells of bits, one a cell -/
def bitC (l : List Bool) : List Value := l.map fun b => .int .i64 ((b.toNat : Nat) : Int)
theorem bitC_snoc (l : List Bool) (x : Bool) : bitC (l ++ [x]) = bitC l ++ [.int .i64 ((x.toNat : Nat) : Int)] := by simp [bitC]
/-- the document's coder in block m, its row of bits from block N on -/
def RCdr (w : World) (m N : Nat) (L W : Int) (o : Nat) (l : List Bool) (en : Bool) : Prop :=
  ∃ s, Blk w m #[.int .i64 L, .int .i64 W, .int .i64 o, .bool en, s] 40 ∧ w.ownsRow N 3 1 s l.length (bitC l) ∧ m < N ∧ N ≤ w.heap.size
theorem RCdr.drewN {w : World} {m N : Nat} {L W : Int} {o : Nat} {l : List Bool} {en : Bool} (h : RCdr w m N L W o l en) (k : Nat) : RCdr (w.drewN k) m N L W o l en := h
theorem RCdr.drew {w : World} {m N : Nat} {L W : Int} {o : Nat} {l : List Bool} {en : Bool} (h : RCdr w m N L W o l en) : RCdr w.drew m N L W o l en := h
theorem RCdr.lt {w : World} {m N : Nat} {L W : Int} {o : Nat} {l : List Bool} {en : Bool} (h : RCdr w m N L W o l en) : m < w.heap.size := by
  obtain ⟨s, hb, _⟩ := h; exact hb.lt
theorem RCdr.cells {w : World} {m N : Nat} {L W : Int} {o : Nat} {l : List Bool} {en : Bool} (h : RCdr w m N L W o l en) :
    w.cell? ⟨m, 0, none⟩ = some (.int .i64 L) ∧ w.cell? ⟨m, 1, none⟩ = some (.int .i64 W) ∧ w.cell? ⟨m, 2, none⟩ = some (.int .i64 o) ∧ w.cell? ⟨m, 3, none⟩ = some (.bool en) ∧ (∃ a c, w.cell? ⟨m, 4, none⟩ = some (.slice a l.length c)) ∧ ∀ i, w.frozen? ⟨m, i, none⟩ = false := by
  obtain ⟨s, hb, hown, _⟩ := h
  obtain ⟨a, c, rfl⟩ : ∃ a c, s = .slice a l.length c := by
    obtain ⟨_, ⟨rfl, h0⟩ | ⟨g, cap, cur, rfl, _⟩⟩ := hown
    · exact ⟨none, 0, by rw [h0]⟩
    · exact ⟨_, cap, rfl⟩
  exact ⟨hb.cell rfl, hb.cell rfl, hb.cell rfl, hb.cell rfl, ⟨a, c, hb.cell rfl⟩, fun i => hb.free i⟩
theorem RCdr.kept {w w' : World} {m N r K : Nat} {e : TypeId} {L W : Int} {o : Nat} {l : List Bool} {en : Bool} (h : RCdr w m N L W o l en) (k : Kept r e K w w') (hr : r < N) (hm : m ≠ r) (h1 : 40 ≠ e) (h2 : 3 ≠ e) : RCdr w' m N L W o l en := by
  obtain ⟨s, q1, q2, q3, q4⟩ := h
  exact ⟨s, k.blk q1 hm h1, k.owns q2 hr h2, q3, Nat.le_trans q4 k.size⟩
theorem RCdr.below {w w' : World} {m N K : Nat} {L W : Int} {o : Nat} {l : List Bool} {en : Bool} (h : RCdr w m N L W o l en) (k : Below K w w') (hK : w.heap.size ≤ K) : RCdr w' m N L W o l en := by
  obtain ⟨s, q1, q2, q3, q4⟩ := h
  refine ⟨s, Bits.Below.blk k q1 (by have := q1.lt; omega), ?_, q3, Nat.le_trans q4 k.size⟩
  obtain ⟨h0, h1 | ⟨g, cap, cur, hv, hg, hh, h2⟩⟩ := q2
  · exact ⟨h0, .inl h1⟩
  · have := (Array.getElem?_eq_some_iff.1 hh).1
    exact ⟨h0, .inr ⟨g, cap, cur, hv, hg, (k.block g (by omega)).trans hh, h2⟩⟩
theorem RCdr.low {w : World} {m N : Nat} {L W : Int} {o : Nat} {l : List Bool} {en : Bool} (h : RCdr w m N L W o l en) (X : Int) : RCdr (w.setCell ⟨m, 0, none⟩ (.int .i64 X)) m N X W o l en := by
  obtain ⟨s, hb, hown, h1, h2⟩ := h
  exact ⟨s, hb.set 0 _, owns_set hown h1 _ _, h1, by simpa using h2⟩
theorem RCdr.wide {w : World} {m N : Nat} {L W : Int} {o : Nat} {l : List Bool} {en : Bool} (h : RCdr w m N L W o l en) (X : Int) : RCdr (w.setCell ⟨m, 1, none⟩ (.int .i64 X)) m N L X o l en := by
  obtain ⟨s, hb, hown, h1, h2⟩ := h
  exact ⟨s, hb.set 1 _, owns_set hown h1 _ _, h1, by simpa using h2⟩
theorem RCdr.owe {w : World} {m N : Nat} {L W : Int} {o : Nat} {l : List Bool} {en : Bool} (h : RCdr w m N L W o l en) (X : Int) (o' : Nat) (hX : X = o') : RCdr (w.setCell ⟨m, 2, none⟩ (.int .i64 X)) m N L W o' l en := by
  subst hX
  obtain ⟨s, hb, hown, h1, h2⟩ := h
  exact ⟨s, hb.set 2 _, owns_set hown h1 _ _, h1, by simpa using h2⟩
theorem RCdr.fin {w : World} {m N : Nat} {L W : Int} {o : Nat} {l : List Bool} {en : Bool} (h : RCdr w m N L W o l en) : RCdr (w.setCell ⟨m, 3, none⟩ (.bool true)) m N L W o l true := by
  obtain ⟨s, hb, hown, h1, h2⟩ := h
  exact ⟨s, hb.set 3 _, owns_set hown h1 _ _, h1, by simpa using h2⟩

/-- a bit behind the others -/
theorem rcdr_more {w w3 : World} {m N : Nat} {L W y : Int} {o : Nat} {l : List Bool} {en x : Bool} {s v' : Value} {ob : Obj} (hb : Blk w m #[.int .i64 L, .int .i64 W, .int .i64 o, .bool en, s] 40) (hown : w.ownsRow N 3 1 s l.length (bitC l)) (hmN : m < N) (hNs : N ≤ w.heap.size)
    (hown3 : w3.ownsRow N 3 1 v' (l.length + 1) (bitC l ++ [.int .i64 y])) (hgrow : (w.alloc ob).grownBy w3 s.ownBlock) (hy : y = ((x.toNat : Nat) : Int)) :
    Kept m 3 N w (w3.setCell ⟨m, 4, none⟩ v') ∧ RCdr (w3.setCell ⟨m, 4, none⟩ v') m N L W o (l ++ [x]) en := by
  subst hy
  have kN : some m ≠ s.ownBlock := fun e => by
    have := (hown.lt m e.symm).1
    omega
  have hA : Kept m 3 N w (w.alloc ob) := (Kept.refl m 3 N w).alloc ob
  have K3 : Kept m 3 N w w3 := hA.grown (hown.alloc ob) hgrow
  have lb := hb.lt
  have hb3 : Blk w3 m #[.int .i64 L, .int .i64 W, .int .i64 o, .bool en, s] 40 := (hgrow.block m (by simp; omega) kN).trans (hb.alloc ob)
  have s3 := K3.size
  refine ⟨K3.set 4 _, v', hb3.set 4 _, ?_, hmN, by simp; omega⟩
  rw [bitC_snoc, List.length_append]
  exact owns_set hown3 hmN 4 _

theorem rNewCoder_any (w : World) : Calls Try.prog 11 #[] w fun e w' => ∃ m, e = .returned (.pointer (some ⟨m, 0, none⟩)) ∧ w.heap.size ≤ m ∧ Below w.heap.size w w' ∧ RCdr w' m (m + 1) 0 65536 0 [] false := by
  go_enter Try.func11, Try.ntmps11
  go_wp2
  go_ret
  exact ⟨_, rfl, Nat.le_refl _, (Below.refl _ w).alloc (Nat.le_refl _) _, .slice none 0 0, Blk.new _ _ _, World.ownsRow_nil _ _ _ _, by omega, by simp⟩

set_option maxRecDepth 100000 in
set_option maxHeartbeats 2000000 in
theorem rtell_any (m N : Nat) (L W : Int) (o : Nat) (l : List Bool) (en x : Bool) (y : Int) (w : World) (h : RCdr w m N L W o l en) (hl : l.length + o ≤ 50000) (hy : y = (x.toNat : Nat)) :
    Calls Try.prog 33 #[.pointer (some ⟨m, 0, none⟩), .int .i64 y] w fun e w' => e = .returned (.tuple #[]) ∧ Kept m 3 N w w' ∧ RCdr w' m N L W 0 (l ++ x :: List.replicate o (!x)) en := by
  obtain ⟨i0, hi0, hz0, hz1, hz2⟩ := info_parts Num.info64
  obtain ⟨s, hb, hown, hmN, hNs⟩ := h
  have c4 : w.cell? ⟨m, 4, none⟩ = some s := hb.cell rfl
  have c2 : w.cell? ⟨m, 2, none⟩ = some (.int .i64 o) := hb.cell rfl
  have f4 := hb.free 4
  have lb := hb.lt
  have y0 : 0 ≤ y := by rw [hy]; omega
  have y1 : y ≤ 1 := by have := Bool.toNat_le x; omega
  have kN : some m ≠ s.ownBlock := fun e => by
    have := (hown.lt m e.symm).1
    omega
  have hy' : Hid (y = ((x.toNat : Nat) : Int)) := hy
  have hl1 : l.length ≤ 50000 := by omega
  clear hy
  go_enter Try.func33, Try.ntmps33
  go_wp2_with (at_builtin; refine wpList_append_own _ rfl (.tmp 8) (.tmp 10) 29 rfl N 3 i0 (.int .i64 0) 1 8 Try.underlying29 hi0 hz0 hz1 hz2 rfl (by decide) _ _ _ rfl (hown.alloc _) ⟨w.heap.size, 0, none⟩ 1 1 [.int .i64 y] rfl rfl (World.news_of_block (cs := #[.int .i64 y]) (t := 3) (fr := (0, 0)) (heap_alloc_new w _)) (by simp [Value.oneCell']) (by unfold maxLen; omega) (by omega) (by simp; omega) ?_; intro v' w3 hown3 hgrow _; obtain ⟨g3, cap3, rfl, hg3, hl3⟩ := hown3.form (by omega); obtain ⟨zc, zf⟩ := far_of hgrow lb kN; have y4 := (zf 4).trans f4; have z4 := (zc 4).trans c4; clear zc zf)
  obtain ⟨K3, C3⟩ := rcdr_more (x := x) hb hown hmN hNs hown3 hgrow hy'
  go_loopw [14] (fun _ wr => ∃ k : Nat, k ≤ o ∧ Kept m 3 N w wr ∧ RCdr wr m N L W (o - k) (l ++ x :: List.replicate k (!x)) en) (fun _ wr => (intOf ((wr.cell? ⟨m, 2, none⟩).getD undef)).toNat)
  case atStart => exact ⟨0, by omega, K3, C3⟩
  case round =>
    clear K3 C3 hown3 hgrow y4 hb hown c4 c2 f4 kN hNs
    obtain ⟨k, hk, Kr, Cr⟩ := hrel
    have Cr' := Cr
    obtain ⟨s', hb, hown, _, hNs⟩ := Cr
    have c4 : wr.cell? ⟨m, 4, none⟩ = some s' := hb.cell rfl
    have c2 : wr.cell? ⟨m, 2, none⟩ = some (.int .i64 (o - k : Nat)) := hb.cell rfl
    have f4 := hb.free 4
    have f2 := hb.free 2
    have lb' := hb.lt
    have kN : some m ≠ s'.ownBlock := fun e => by
      have := (hown.lt m e.symm).1
      omega
    by_cases hlt : k < o
    · have i1 : (0 : Int) < ((o - k : Nat) : Int) := by omega
      have hll : (l ++ x :: List.replicate k (!x)).length ≤ 50000 := by simp; omega
      obtain ⟨q, hq⟩ : ∃ q, q = o - k := ⟨_, rfl⟩
      obtain ⟨ll, hll'⟩ : ∃ ll, ll = l ++ x :: List.replicate k (!x) := ⟨_, rfl⟩
      rw [← hll'] at hown hll
      rw [← hq] at hb i1 c2
      have q5 : q ≤ 50000 := by omega
      have hq' : Hid (q = o - k) := hq
      have hll2 : Hid (ll = l ++ x :: List.replicate k (!x)) := hll'
      clear hq hll' Cr'
      have ey : (((!x).toNat : Nat) : Int) = 1 - y := by rw [show y = _ from hy']; cases x <;> rfl
      have ey' : Hid ((((!x).toNat : Nat) : Int) = 1 - y) := ey
      clear ey
      go_wp2_with (at_builtin; refine wpList_append_own _ rfl (.tmp 23) (.tmp 26) 29 rfl N 3 i0 (.int .i64 0) 1 8 Try.underlying29 hi0 hz0 hz1 hz2 rfl (by decide) _ _ _ rfl (hown.alloc _) ⟨wr.heap.size, 0, none⟩ 1 1 [.int .i64 (1 - y)] rfl rfl (World.news_of_block (cs := #[.int .i64 (1 - y)]) (t := 3) (fr := (0, 0)) (heap_alloc_new wr _)) (by simp [Value.oneCell']) (by unfold maxLen; omega) (by omega) (by simp; omega) ?_; intro v' w3 hown3 hgrow _; obtain ⟨g3, cap3, rfl, hg3, hl3⟩ := hown3.form (by omega); obtain ⟨zc, zf⟩ := far_of hgrow lb' kN; have y4 := (zf 4).trans f4; have z4 := (zc 4).trans c4; have y2 := (zf 2).trans f2; have z2 := (zc 2).trans c2; clear zc zf)
      obtain ⟨K3, C3⟩ := rcdr_more (x := !x) hb hown hmN hNs hown3 hgrow (by rw [show (((!x).toNat : Nat) : Int) = 1 - y from ey'])
      go_roundw
      case rel =>
        have e1 : l ++ x :: List.replicate (k + 1) (!x) = ll ++ [!x] := by rw [show ll = _ from hll2, List.replicate_succ']; simp
        refine ⟨k + 1, by omega, (Kr.trans K3).set 2 _, ?_⟩
        rw [e1]
        exact C3.owe _ (o - (k + 1)) (by have : q = o - k := hq'; omega)
      case measure =>
        have e2 := (C3.owe ((q : Int) - 1) (q - 1) (by omega)).cells.2.2.1
        rw [e2, c2]; simp [intOf]; omega
    · obtain rfl : k = o := by omega
      have i1 : ((k - k : Nat) : Int) = 0 := by omega
      rw [i1] at c2
      go_wp2
      go_end0
      rw [Nat.sub_self] at Cr'
      exact ⟨rfl, Kr, Cr'⟩

set_option maxRecDepth 100000 in
theorem rEnd_any (m N : Nat) (L W : Int) (o : Nat) (l : List Bool) (en : Bool) (w : World) (h : RCdr w m N L W o l en) (hD : l.length + o ≤ 40000) :
    Calls Try.prog 17 #[.pointer (some ⟨m, 0, none⟩)] w fun e w' => e = .returned (.int .i64 (endE en)) ∧ Kept m 3 N w w' ∧ (if en then RCdr w' m N L W o l true else RCdr w' m N L W 0 ((M.Cod.mk L 0 o l).end_).l true) := by
  have h' := h
  obtain ⟨c0, c1, c2, c3, ⟨a4, k4, c4⟩, fr⟩ := RCdr.cells h
  cases en with
  | true =>
    go_enter Try.func17, Try.ntmps17
    go_wp2
    go_ret
    exact ⟨rfl, Kept.refl _ _ _ _, h'⟩
  | false =>
    have f3 := fr 3
    have f2 := fr 2
    have C2 : RCdr ((w.setCell ⟨m, 3, none⟩ (.bool true)).setCell ⟨m, 2, none⟩ (.int .i64 ((o : Int) + 1))) m N L W (o + 1) l true := (RCdr.fin h).owe _ _ (by omega)
    have oD : o ≤ 40000 := by omega
    by_cases hL : L < 16384
    · have hT := rtell_any m N L W (o + 1) l true false 0 _ C2 (by omega) rfl
      have e : ((M.Cod.mk L 0 o l).end_).l = l ++ false :: List.replicate (o + 1) (!false) := by
        unfold M.Cod.end_ M.Cod.tell; rw [decide_eq_true hL]; rfl
      rw [e]
      go_enter Try.func17, Try.ntmps17
      go_wp2_with (go_at_call 33; refine hT.mono ?_; rintro e w1 ⟨rfl, K1, C1⟩)
      go_ret
      exact ⟨rfl, (((Kept.refl _ _ _ _).set 3 _).set 2 _).trans K1, C1⟩
    · have hT := rtell_any m N L W (o + 1) l true true 1 _ C2 (by omega) rfl
      have e : ((M.Cod.mk L 0 o l).end_).l = l ++ true :: List.replicate (o + 1) (!true) := by
        unfold M.Cod.end_ M.Cod.tell; rw [decide_eq_false hL]; rfl
      rw [e]
      go_enter Try.func17, Try.ntmps17
      go_wp2_with (go_at_call 33; refine hT.mono ?_; rintro e w1 ⟨rfl, K1, C1⟩)
      go_ret
      exact ⟨rfl, (((Kept.refl _ _ _ _).set 3 _).set 2 _).trans K1, C1⟩

end Ari
end Go.Proofs.Ytknolfpjhfpfaaa
