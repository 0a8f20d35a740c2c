/-
  The document's answer of layer 11: formats of Lap. Conditions: none.
-/
import Derived.Test.YthmaodjipemflaaFormRef
namespace Go.Proofs.Ythmaodjipemflaa
set_option linter.unusedVariables false
open Go.RowKit
namespace Form
open Bank (Blk But)
open Poly (alloc_size)

set_option maxRecDepth 100000 in
set_option maxHeartbeats 3200000 in
theorem rLap_any (f : M.Fmt) (w : World) : Calls Try.prog 16 #[fv f] w fun e w' => Says (M.okL f) w e w' := by
  obtain ⟨O, hO⟩ : ∃ O, M.okL f = O := ⟨_, rfl⟩
  rw [hO]
  have HO : Hid (M.okL f = O) := hO
  clear hO
  obtain ⟨c, r, h, b, k, m, j, p, l, y⟩ := f
  have heq := fun wx => eq_ten ⟨c, 0, 0, b, k, m, j, p, 0, 0⟩ ⟨2, 0, 0, 0, 0, 0, 0, 0, 0, 0⟩ wx
  unfold fc at heq
  unfold fv
  dsimp only at heq ⊢
  simp only [beq_self_eq_true, Bool.and_true] at heq
  obtain ⟨z, hz⟩ : ∃ z, (c == 2 && b == 0 && k == 0 && m == 0 && j == 0 && p == 0) = z := ⟨_, rfl⟩
  rw [hz] at heq
  have hz' : z = true ↔ (c = 2 ∧ b = 0 ∧ k = 0 ∧ m = 0 ∧ j = 0 ∧ p = 0) := by rw [← hz]; simp; omega
  have hend : ∀ q : Bool, (q = true ↔ (z = true ∧ (0 ≤ r ∧ r ≤ 3) ∧ (1 ≤ h ∧ h ≤ 2) ∧ (l = 40 ∨ l = 60 ∨ l = 80 ∨ l = 120) ∧ 20 ≤ y ∧ y ≤ 120)) → (q = true ↔ O) := by
    intro q hq
    rw [hq, ← HO.out, hz']
    unfold M.okL
    dsimp only
    omega
  have HE : Hid _ := hend
  clear hz hz' hend
  have hm := fun wx => Lapd.may_any l wx
  obtain ⟨L, hL⟩ : ∃ L : Bool, L = true ↔ (l = 40 ∨ l = 60 ∨ l = 80 ∨ l = 120) := ⟨decide _, decide_eq_true_iff⟩
  have HL : Hid _ := hL
  clear hL
  cases z
  · go_enter Try.func16, Try.ntmps16
    go_wp2
    go_ret
    exact ⟨false, rfl, (bel1 _ _).alloc (bel1 _ _).size _, HE.out _ (by simp)⟩
  rcases (by omega : (r < 0) ∨ (0 ≤ r ∧ 3 < r) ∨ (0 ≤ r ∧ r ≤ 3 ∧ h < 1) ∨ (0 ≤ r ∧ r ≤ 3 ∧ 1 ≤ h ∧ 2 < h) ∨ (0 ≤ r ∧ r ≤ 3 ∧ 1 ≤ h ∧ h ≤ 2)) with t0 | ⟨t0, t1⟩ | ⟨t0, t1, t2⟩ | ⟨t0, t1, t2, t3⟩ | ⟨t0, t1, t2, t3⟩
  · go_enter Try.func16, Try.ntmps16
    go_wp2
    go_ret
    exact ⟨false, rfl, (bel1 _ _).alloc (bel1 _ _).size _, HE.out _ (by simp; omega)⟩
  · go_enter Try.func16, Try.ntmps16
    go_wp2
    go_ret
    exact ⟨false, rfl, (bel1 _ _).alloc (bel1 _ _).size _, HE.out _ (by simp; omega)⟩
  · go_enter Try.func16, Try.ntmps16
    go_wp2
    go_ret
    exact ⟨false, rfl, (bel1 _ _).alloc (bel1 _ _).size _, HE.out _ (by simp; omega)⟩
  · go_enter Try.func16, Try.ntmps16
    go_wp2
    go_ret
    exact ⟨false, rfl, (bel1 _ _).alloc (bel1 _ _).size _, HE.out _ (by simp; omega)⟩
  cases L
  · have hl : ¬ (l = 40 ∨ l = 60 ∨ l = 80 ∨ l = 120) := fun g => by have := HL.out.2 g; cases this
    have HN : Hid _ := hl
    clear hl
    go_enter Try.func16, Try.ntmps16
    go_wp2_with (go_at_call 21; refine (hm _).mono ?_; rintro e w2 ⟨q, rfl, hw, hq⟩; rw [hw]; clear hw w2; obtain rfl : q = false := Bool.eq_false_iff.2 (fun g => HN.out (hq.1 g)); clear hq)
    go_ret
    exact ⟨false, rfl, (bel1 _ _).alloc (bel1 _ _).size _, HE.out _ ⟨fun g => (by cases g), fun g => (HN.out g.2.2.2.1).elim⟩⟩
  have hl : l = 40 ∨ l = 60 ∨ l = 80 ∨ l = 120 := HL.out.1 rfl
  have HY : Hid _ := hl
  clear hl
  rcases (by omega : y < 20 ∨ (20 ≤ y ∧ 120 < y) ∨ (20 ≤ y ∧ y ≤ 120)) with t4 | ⟨t4, t5⟩ | ⟨t4, t5⟩
  · go_enter Try.func16, Try.ntmps16
    go_wp2_with (go_at_call 21; refine (hm _).mono ?_; rintro e w2 ⟨q, rfl, hw, hq⟩; rw [hw]; clear hw w2; obtain rfl : q = true := hq.2 HY.out; clear hq)
    go_ret
    exact ⟨_, rfl, (bel1 _ _).alloc (bel1 _ _).size _, HE.out _ (by have := HY.out; simp; omega)⟩
  · go_enter Try.func16, Try.ntmps16
    go_wp2_with (go_at_call 21; refine (hm _).mono ?_; rintro e w2 ⟨q, rfl, hw, hq⟩; rw [hw]; clear hw w2; obtain rfl : q = true := hq.2 HY.out; clear hq)
    go_ret
    exact ⟨_, rfl, (bel1 _ _).alloc (bel1 _ _).size _, HE.out _ (by have := HY.out; simp; omega)⟩
  · go_enter Try.func16, Try.ntmps16
    go_wp2_with (go_at_call 21; refine (hm _).mono ?_; rintro e w2 ⟨q, rfl, hw, hq⟩; rw [hw]; clear hw w2; obtain rfl : q = true := hq.2 HY.out; clear hq)
    go_ret
    exact ⟨_, rfl, (bel1 _ _).alloc (bel1 _ _).size _, HE.out _ (by have := HY.out; simp; omega)⟩

end Form
end Go.Proofs.Ythmaodjipemflaa
