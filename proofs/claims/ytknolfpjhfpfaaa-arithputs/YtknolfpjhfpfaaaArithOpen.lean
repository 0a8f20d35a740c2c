/-
  Contract of arith.NewFinder. Conditions: the eye stands in memory as told.
-/
import Derived.Test.YtknolfpjhfpfaaaArithFinder
namespace Go.Proofs.Ytknolfpjhfpfaaa
set_option linter.unusedVariables false
open Go.RowKit
namespace Ari
open Bits (Blk But add_at wrap_id bytesL)
open Num (Ints)

/-- where a finder begins -/
def frOf (n : Int) : Nat := if n < 0 then 0 else if 4096 < n then 4096 else n.toNat

theorem fv_from (B : Nat → Bool) (fr m : Nat) : M.fv (from_ B fr) 0 (m + 1) = 2 * M.fv (from_ B fr) 0 m + (B (fr + m)).toNat := by
  show 2 * M.fv (from_ B fr) 0 m + (B (fr + (0 + m))).toNat = _
  rw [Nat.zero_add]

set_option maxRecDepth 100000 in
set_option maxHeartbeats 2000000 in
theorem NewFinder_any (e : Value) (n : Int) (N : Nat) (B : Nat → Bool) (w : World) (he : EyeAt w e N B) (hN : N ≤ w.heap.size) :
    Calls Try.prog 22 #[e, .int .i64 n] w fun y w' => ∃ f, y = .returned (.pointer (some ⟨f, 0, none⟩)) ∧ w.heap.size ≤ f ∧ Below w.heap.size w w' ∧ FndAt w' f e (frOf n) (M.Fnd.new (from_ B (frOf n))) := by
  obtain ⟨a, rfl⟩ := he.form
  obtain ⟨fr, hfr, hfl⟩ : ∃ fr, frOf n = fr ∧ fr ≤ 4096 := ⟨_, rfl, by unfold frOf; split; omega; split <;> omega⟩
  rw [hfr]
  have hmm : (if n < 0 then (0 : Int) else if 4096 < n then 4096 else n) = fr := by
    unfold frOf at hfr
    split
    · next h => rw [if_pos h] at hfr; omega
    · next h =>
      rw [if_neg h] at hfr
      split
      · next h' => rw [if_pos h'] at hfr; omega
      · next h' => rw [if_neg h'] at hfr; omega
  have hnx := fun f m V wr (h : FndAt wr f (.pointer a) fr ⟨0, 65535, V, m⟩) (he : EyeAt wr (.pointer a) N B) (hm : m ≤ 16) => next_any f N fr (.pointer a) ⟨0, 65535, V, m⟩ B wr h he hfl (by show m ≤ 1000000; omega)
  simp only at hnx
  have hmm0 : Hid ((if n < 0 then (0 : Int) else if 4096 < n then 4096 else n) = fr) := hmm
  clear hfr hmm
  rcases (by omega : n < 0 ∨ (0 ≤ n ∧ n ≤ 4096) ∨ 4096 < n) with hn | ⟨hn, hn'⟩ | hn
  case' inl =>
    have hfr2 : Hid ((fr : Int) = 0) := by
      have hmm : (if n < 0 then (0 : Int) else if 4096 < n then 4096 else n) = fr := hmm0
      rw [if_pos hn] at hmm
      exact hmm.symm
  case' inr.inl =>
    have hfr2 : Hid ((fr : Int) = n) := by
      have hmm : (if n < 0 then (0 : Int) else if 4096 < n then 4096 else n) = fr := hmm0
      rw [if_neg (by omega), if_neg (by omega)] at hmm
      exact hmm.symm
  case' inr.inr =>
    have hfr2 : Hid ((fr : Int) = 4096) := by
      have hmm : (if n < 0 then (0 : Int) else if 4096 < n then 4096 else n) = fr := hmm0
      rw [if_neg (by omega), if_pos (by omega)] at hmm
      exact hmm.symm
    have hn0 : 0 ≤ n := by omega
  all_goals (
    clear hfl hmm0
    go_enter Try.func22, Try.ntmps22
    go_wp2_with (go_at_call 28; refine (widest_any _).mono ?_; rintro y w1 ⟨rfl, bel⟩)
    have sz := bel.size
    go_loopw [14] (fun i wr => ∃ m : Nat, m ≤ 16 ∧ i = .int .i64 m ∧ Below w.heap.size w wr ∧ FndAt wr w1.heap.size (.pointer a) fr ⟨0, 65535, M.fv (from_ B fr) 0 m, m⟩) (fun i _ => 16 - (intOf i).toNat)
    case atStart => exact ⟨0, by omega, rfl, bel.alloc bel.size _, by unfold FndAt; rw [show (fr : Int) = _ from hfr2]; exact Blk.new _ _ _⟩
    case round =>
      obtain ⟨m, hm, rfl, belr, hF⟩ := hrel
      by_cases hlt : m < 16
      · have heR := he.below belr hN
        have hx := hnx w1.heap.size m _ wr.drew (by exact hF) (by exact heR) hm
        have e2 := fv_from B fr m
        have hy1 := Bool.toNat_le (B (fr + m))
        have hv1 : M.fv (from_ B fr) 0 m < 65536 := Nat.lt_of_lt_of_le (M.fv_lt _ 0 m) (Nat.pow_le_pow_right (i := m) (j := 16) (by decide) (by omega))
        obtain ⟨c0, c1, c3, c4, c5, c6, frz⟩ := hF.cells
        simp only at c6
        have h6 : ∀ w', FndAt w' w1.heap.size (.pointer a) fr ⟨0, 65535, M.fv (from_ B fr) 0 m, m + 1⟩ → w'.cell? ⟨w1.heap.size, 6, none⟩ = some (.int .i64 (M.fv (from_ B fr) 0 m)) ∧ w'.frozen? ⟨w1.heap.size, 6, none⟩ = false := fun w' hw => ⟨hw.cells.2.2.2.2.2.1, hw.cells.2.2.2.2.2.2 6⟩
        obtain ⟨V, hV⟩ : ∃ V : Int, V = M.fv (from_ B fr) 0 m := ⟨_, rfl⟩
        obtain ⟨y, hy⟩ : ∃ y, y = (B (fr + m)).toNat := ⟨_, rfl⟩
        have V0 : 0 ≤ V := by omega
        have V1 : V ≤ 65535 := by omega
        have e3 : (M.fv (from_ B fr) 0 (m + 1) : Int) = 2 * V + y := by rw [hV, hy]; omega
        rw [← hV] at hx c6 h6
        rw [← hy] at hx hy1
        replace e3 : Hid ((M.fv (from_ B fr) 0 (m + 1) : Int) = 2 * V + y) := e3
        clear e2 hv1 hV hy hnx c0 c1 c3 c4 c5 frz
        have f6 : wr.frozen? ⟨w1.heap.size, 6, none⟩ = false := Blk.free hF 6
        have i1 : (m : Int) < 16 := by omega
        have q1 : IntKind.i64.wrap (2 * V) = 2 * V := wrap_id _ (by omega) (by omega)
        have q2 : IntKind.i64.wrap (2 * V + (y : Int)) = 2 * V + (y : Int) := wrap_id _ (by omega) (by omega)
        go_wp2
        go_region_with (go_at_call 39; refine hx.mono ?_; clear hx; rintro e w2 ⟨rfl, b2, h2⟩; obtain ⟨d6, g6⟩ := h6 _ h2)
        all_goals (
          go_wp2
          go_roundw
          case rel =>
            have bw : Below w.heap.size w w2 := belr.trans (Bits.Below.less (Bits.But.below (B := w.heap.size) (w := wr) ⟨b2.os, b2.tape, b2.output, b2.size, b2.block⟩ sz sz (by have := belr.size; omega)) (Nat.le_refl _))
            refine ⟨m + 1, by omega, by go_num, bw.setCell (by exact sz) _, ?_⟩
            have := Blk.set h2 6 (.int .i64 (2 * V + (y : Int)))
            rw [← show (M.fv (from_ B fr) 0 (m + 1) : Int) = 2 * V + y from e3] at this ⊢
            exact this
          case measure => simp [intOf]; omega)
      · obtain rfl : m = 16 := by omega
        go_wp2
        go_ret
        exact ⟨_, rfl, sz, belr, hF⟩)

end Ari
end Go.Proofs.Ytknolfpjhfpfaaa
