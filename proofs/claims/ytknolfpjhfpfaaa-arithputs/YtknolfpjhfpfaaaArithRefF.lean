/-
  Contracts of the document's finder for layer 7 (psalteryref07): bit, NewFinder, Get. Conditions: the finder, its bits and the table stand in memory as told.
-/
import Derived.Test.YtknolfpjhfpfaaaArithRefA
namespace Go.Proofs.Ytknolfpjhfpfaaa
set_option linter.unusedVariables false
open Go.RowKit
namespace Ari
open Bits (Blk But add_at wrap_id bytesL)
open Num (Ints)

/-- bits in memory, a cell each, and only read -/
def RBits (w : World) (s : Value) (B : Nat → Bool) : Prop := ∃ l : List Bool, Ints w s (l.map fun b => ((b.toNat : Nat) : Int)) ∧ l.length ≤ 65536 ∧ ∀ i, B i = l.getD i false
theorem RBits.below {N : Nat} {w w' : World} {s : Value} {B : Nat → Bool} (h : RBits w s B) (u : Below N w w') (hN : w.heap.size ≤ N) : RBits w' s B := by
  obtain ⟨l, h1, h2, h3⟩ := h
  exact ⟨l, h1.below u hN, h2, h3⟩
theorem RBits.drewN {w : World} {s : Value} {B : Nat → Bool} (h : RBits w s B) (m : Nat) : RBits (w.drewN m) s B := h
theorem RBits.nil (w : World) : RBits w (.slice none 0 0) (fun _ => false) := ⟨[], Ints.nil w, by simp, fun i => by simp⟩
/-- the cells of the document's finder -/
def RF (w : World) (f : Nat) (L W V : Int) (s : Value) (n r : Nat) : Prop := Blk w f #[.int .i64 L, .int .i64 W, .int .i64 V, s, .int .i64 n, .int .i64 r] 61
theorem RF.cells {w : World} {f : Nat} {L W V : Int} {s : Value} {n r : Nat} (h : RF w f L W V s n r) :
    w.cell? ⟨f, 0, none⟩ = some (.int .i64 L) ∧ w.cell? ⟨f, 1, none⟩ = some (.int .i64 W) ∧ w.cell? ⟨f, 2, none⟩ = some (.int .i64 V) ∧ w.cell? ⟨f, 3, none⟩ = some s ∧ w.cell? ⟨f, 4, none⟩ = some (.int .i64 n) ∧ w.cell? ⟨f, 5, none⟩ = some (.int .i64 r) ∧ ∀ i, w.frozen? ⟨f, i, none⟩ = false :=
  ⟨Blk.cell h rfl, Blk.cell h rfl, Blk.cell h rfl, Blk.cell h rfl, Blk.cell h rfl, Blk.cell h rfl, fun i => Blk.free h i⟩
/-- the document's finder in block f -/
def RFndAt (w : World) (f : Nat) (s : Value) (fr : Nat) (x : M.Fnd) : Prop := RF w f x.L (x.H - x.L + 1) (x.V - x.L) s (fr + x.r) x.r

set_option maxRecDepth 100000 in
theorem rbit_any (f n r : Nat) (L W V : Int) (s : Value) (B : Nat → Bool) (w : World) (h : RF w f L W V s n r) (hs : RBits w s B) (hn : n ≤ 4000000) (hr : r ≤ 4000000) :
    Calls Try.prog 40 #[.pointer (some ⟨f, 0, none⟩)] w fun y w' => y = .returned (.int .i64 ((B n).toNat : Nat)) ∧ But f f w w' ∧ RF w' f L W V s (n + 1) (r + 1) := by
  obtain ⟨c0, c1, c2, c3, c4, c5, frz⟩ := h.cells
  obtain ⟨l, hI, hl, hB⟩ := hs
  have f4 := frz 4
  have f5 := frz 5
  obtain ⟨a, c, rfl, hc⟩ := hI.form
  rw [List.length_map] at c3
  have fin : ∀ m, RF ((((w.drewN m).setCell ⟨f, 4, none⟩ (.int .i64 ((n : Int) + 1)))).setCell ⟨f, 5, none⟩ (.int .i64 ((r : Int) + 1))) f L W V (.slice a (l.map fun b => ((b.toNat : Nat) : Int)).length c) (n + 1) (r + 1) := fun m => by
    have := ((Blk.drewN h m).set 4 (.int .i64 ((n : Int) + 1))).set 5 (.int .i64 ((r : Int) + 1))
    have e1 : ((n + 1 : Nat) : Int) = (n : Int) + 1 := by omega
    have e2 : ((r + 1 : Nat) : Int) = (r : Int) + 1 := by omega
    unfold RF
    rw [e1, e2]
    exact this
  by_cases hlt : n < l.length
  · obtain ⟨b, hb⟩ : ∃ b, l[n]? = some b := ⟨_, List.getElem?_eq_getElem hlt⟩
    have e : B n = b := by rw [hB]; simp [List.getD, hb]
    rw [e]
    obtain ⟨b0, off, rfl, hb0, hcell⟩ := hI.cell (i := n) (x := ((b.toNat : Nat) : Int)) (by rw [List.getElem?_map, hb]; rfl)
    have i1 : (n : Int) < (l.length : Int) := by omega
    have i2 : (0 : Int) ≤ n := by omega
    obtain ⟨y, hy⟩ : ∃ y, y = b.toNat := ⟨_, rfl⟩
    rw [← hy] at hcell ⊢
    clear hy hI
    go_enter Try.func40, Try.ntmps40
    go_wp2
    go_quiet (fail)
    go_wp2
    go_quiet (fail)
    go_wp2
    go_ret
    exact ⟨rfl, (((But.refl f f w).drewN _)).set (a := ⟨f, 4, none⟩) (.inl rfl) _ |>.set (a := ⟨f, 5, none⟩) (.inl rfl) _, fin _⟩
  · have e : B n = false := by rw [hB]; simp [List.getD, List.getElem?_eq_none (show l.length ≤ n by omega)]
    rw [e]
    have i1 : ¬ (n : Int) < (l.length : Int) := by omega
    go_enter Try.func40, Try.ntmps40
    go_wp2
    go_quiet (fail)
    go_wp2
    go_ret
    exact ⟨rfl, (((But.refl f f w).drewN _)).set (a := ⟨f, 4, none⟩) (.inl rfl) _ |>.set (a := ⟨f, 5, none⟩) (.inl rfl) _, fin _⟩

/-- where the document's finder begins -/
def rfrOf (n : Int) : Nat := if n < 0 then 0 else if 1048576 < n then 1048576 else n.toNat
theorem rfr_le (n : Int) : rfrOf n ≤ 1048576 := by unfold rfrOf; split; omega; split <;> omega

set_option maxRecDepth 100000 in
set_option maxHeartbeats 2000000 in
theorem rNewFinder_any (s : Value) (n : Int) (B : Nat → Bool) (w : World) (hs : RBits w s B) :
    Calls Try.prog 23 #[s, .int .i64 n] w fun y w' => ∃ f, y = .returned (.pointer (some ⟨f, 0, none⟩)) ∧ w.heap.size ≤ f ∧ Below w.heap.size w w' ∧ RFndAt w' f s (rfrOf n) (M.Fnd.new (from_ B (rfrOf n))) := by
  have hs0 := hs
  obtain ⟨l, hI, hl, hB⟩ := hs
  obtain ⟨a, c, rfl, hc⟩ := hI.form
  clear hI hB
  obtain ⟨ll, hll⟩ : ∃ ll, ll = (l.map fun b => ((b.toNat : Nat) : Int)).length := ⟨_, rfl⟩
  rw [← hll] at hs0 ⊢
  clear hll hc
  obtain ⟨fr, hfr, hfl⟩ : ∃ fr, rfrOf n = fr ∧ fr ≤ 1048576 := ⟨_, rfl, rfr_le n⟩
  rw [hfr]
  have hmm : (if n < 0 then (0 : Int) else if 1048576 < n then 1048576 else n) = fr := by
    unfold rfrOf at hfr
    split
    · next h => rw [if_pos h] at hfr; omega
    · next h =>
      rw [if_neg h] at hfr
      split
      · next h' => rw [if_pos h'] at hfr; omega
      · next h' => rw [if_neg h'] at hfr; omega
  have hnx := fun f m V wr (h : RF wr f 0 65536 V (.slice a ll c) (fr + m) m) (he : RBits wr (.slice a ll c) B) (hm : m ≤ 16) => rbit_any f (fr + m) m 0 65536 V (.slice a ll c) B wr h he (by omega) (by omega)
  have hmm0 : Hid ((if n < 0 then (0 : Int) else if 1048576 < n then 1048576 else n) = fr) := hmm
  clear hfr hmm
  rcases (by omega : n < 0 ∨ (0 ≤ n ∧ n ≤ 1048576) ∨ 1048576 < n) with hn | ⟨hn, hn'⟩ | hn
  case' inl =>
    have hfr2 : Hid ((fr : Int) = 0) := by
      have hmm : (if n < 0 then (0 : Int) else if 1048576 < n then 1048576 else n) = fr := hmm0
      rw [if_pos hn] at hmm
      exact hmm.symm
  case' inr.inl =>
    have hfr2 : Hid ((fr : Int) = n) := by
      have hmm : (if n < 0 then (0 : Int) else if 1048576 < n then 1048576 else n) = fr := hmm0
      rw [if_neg (by omega), if_neg (by omega)] at hmm
      exact hmm.symm
  case' inr.inr =>
    have hfr2 : Hid ((fr : Int) = 1048576) := by
      have hmm : (if n < 0 then (0 : Int) else if 1048576 < n then 1048576 else n) = fr := hmm0
      rw [if_neg (by omega), if_pos (by omega)] at hmm
      exact hmm.symm
    have hn0 : 0 ≤ n := by omega
  all_goals (
    clear hfl hmm0
    go_enter Try.func23, Try.ntmps23
    go_wp2
    go_loopw [6] (fun i wr => ∃ m : Nat, m ≤ 16 ∧ i = .int .i64 m ∧ Below w.heap.size w wr ∧ RF wr w.heap.size 0 65536 (M.fv (from_ B fr) 0 m) (.slice a ll c) (fr + m) m) (fun i _ => 16 - (intOf i).toNat)
    case atStart => exact ⟨0, by omega, rfl, (Below.refl _ w).alloc (Nat.le_refl _) _, by unfold RF; rw [Nat.add_zero, show (fr : Int) = _ from hfr2]; exact Blk.new _ _ _⟩
    case round =>
      obtain ⟨m, hm, rfl, belr, hF⟩ := hrel
      by_cases hlt : m < 16
      · have heR := hs0.below belr (Nat.le_refl _)
        have hx := hnx w.heap.size m _ wr.drew (by exact hF) (by exact heR) hm
        have e2 := fv_from B fr m
        have hy1 := Bool.toNat_le (B (fr + m))
        have hv1 : M.fv (from_ B fr) 0 m < 65536 := Nat.lt_of_lt_of_le (M.fv_lt _ 0 m) (Nat.pow_le_pow_right (i := m) (j := 16) (by decide) (by omega))
        obtain ⟨c0, c1, c2, c3, c4, c5, frz⟩ := hF.cells
        have h6 : ∀ w', RF w' w.heap.size 0 65536 (M.fv (from_ B fr) 0 m) (.slice a ll c) (fr + m + 1) (m + 1) → w'.cell? ⟨w.heap.size, 2, none⟩ = some (.int .i64 (M.fv (from_ B fr) 0 m)) ∧ w'.frozen? ⟨w.heap.size, 2, none⟩ = false := fun w' hw => ⟨hw.cells.2.2.1, hw.cells.2.2.2.2.2.2 2⟩
        obtain ⟨V, hV⟩ : ∃ V : Int, V = M.fv (from_ B fr) 0 m := ⟨_, rfl⟩
        obtain ⟨y, hy⟩ : ∃ y, y = (B (fr + m)).toNat := ⟨_, rfl⟩
        have V0 : 0 ≤ V := by omega
        have V1 : V ≤ 65535 := by omega
        have e3 : (M.fv (from_ B fr) 0 (m + 1) : Int) = V * 2 + y := by rw [hV, hy]; omega
        rw [← hV] at hx c2 h6
        rw [← hy] at hx hy1
        replace e3 : Hid ((M.fv (from_ B fr) 0 (m + 1) : Int) = V * 2 + y) := e3
        clear e2 hv1 hV hy hnx c0 c1 c3 c4 c5 frz
        have f2 : wr.frozen? ⟨w.heap.size, 2, none⟩ = false := Blk.free hF 2
        have i1 : (m : Int) < 16 := by omega
        have q1 : IntKind.i64.wrap (V * 2) = V * 2 := wrap_id _ (by omega) (by omega)
        have q2 : IntKind.i64.wrap (V * 2 + (y : Int)) = V * 2 + (y : Int) := wrap_id _ (by omega) (by omega)
        go_wp2
        go_region_with (go_at_call 40; refine hx.mono ?_; clear hx; rintro e w2 ⟨rfl, b2, h2⟩; obtain ⟨d2, g2⟩ := h6 _ h2)
        all_goals (
          go_wp2
          go_roundw
          case rel =>
            have bw : Below w.heap.size w w2 := belr.trans (Bits.But.below (B := w.heap.size) (w := wr) ⟨b2.os, b2.tape, b2.output, b2.size, b2.block⟩ (Nat.le_refl _) (Nat.le_refl _) belr.size)
            refine ⟨m + 1, by omega, by go_num, bw.setCell (Nat.le_refl _) _, ?_⟩
            have := Blk.set h2 2 (.int .i64 (V * 2 + (y : Int)))
            rw [← show (M.fv (from_ B fr) 0 (m + 1) : Int) = V * 2 + y from e3] at this ⊢
            exact this
          case measure => simp [intOf]; omega)
      · obtain rfl : m = 16 := by omega
        go_wp2
        go_ret
        refine ⟨_, rfl, Nat.le_refl _, belr, ?_⟩
        unfold RFndAt
        have e : (M.Fnd.new (from_ B fr)).V - (M.Fnd.new (from_ B fr)).L = (M.fv (from_ B fr) 0 16 : Nat) := by show (M.fv (from_ B fr) 0 16 : Int) - 0 = _; omega
        rw [e]
        exact hF)

end Ari
end Go.Proofs.Ytknolfpjhfpfaaa
