/-
  The document's answer of layer 11: bits, bytes, samples. Conditions: as told at each.
-/
import Derived.Test.YthlpbekfjolenaaDoorFormTell
namespace Go.Proofs.YthlpbekfjolenaaDoor
set_option linter.unusedVariables false
open Go.RowKit
namespace Form
open Bank (Blk But)
open Poly (alloc_size)

theorem rBits_S (f : M.Fmt) (w : World) (hc : f.c = 1) (hb : f.b = 4 ∨ f.b = 8) (hh : f.h = 1 ∨ f.h = 2) (hk : f.k = 4 ∨ f.k = 8 ∨ f.k = 12 ∨ f.k = 16) (hp : 0 ≤ f.p ∧ f.p ≤ 251) :
    Calls Tryd.prog 30 #[fv f] w fun e w' => e = .returned (.int .i64 (M.bitS f)) ∧ Below w.heap.size w w' := by
  have hx := M.kp_bd hk hp
  obtain ⟨c, r, h, b, k, m, j, p, l, y⟩ := f
  unfold fv M.bitS
  dsimp only at hc hb hh hk hp hx ⊢
  subst hc
  obtain ⟨x, ex⟩ : ∃ x, k * p = x := ⟨_, rfl⟩
  rw [ex] at hx ⊢
  have b0 : 4 ≤ b ∧ b ≤ 8 := by omega
  clear hb hk hp
  by_cases hj : j = 1
  · subst hj
    rw [if_pos rfl]
    rcases hh with rfl | rfl
    · go_enter Tryd.func30, Tryd.ntmps30
      go_wp2
      refine wp_loop_rounds 2 ?_
      rw [rounds_succ]
      go_wp2
      rw [rounds_succ]
      go_wp2
      go_ret
      exact ⟨ret_int (by omega), bel1 _ _⟩
    · go_enter Tryd.func30, Tryd.ntmps30
      go_wp2
      refine wp_loop_rounds 3 ?_
      rw [rounds_succ]
      go_wp2
      rw [rounds_succ]
      go_wp2
      rw [rounds_succ]
      go_wp2
      go_ret
      exact ⟨ret_int (by omega), bel1 _ _⟩
  · have e1 : (j == 1) = false := by simpa using hj
    rw [if_neg hj]
    rcases hh with rfl | rfl
    · go_enter Tryd.func30, Tryd.ntmps30
      go_wp2
      refine wp_loop_rounds 2 ?_
      rw [rounds_succ]
      go_wp2
      rw [rounds_succ]
      go_wp2
      go_ret
      exact ⟨ret_int (by omega), bel1 _ _⟩
    · go_enter Tryd.func30, Tryd.ntmps30
      go_wp2
      refine wp_loop_rounds 3 ?_
      rw [rounds_succ]
      go_wp2
      rw [rounds_succ]
      go_wp2
      rw [rounds_succ]
      go_wp2
      go_ret
      exact ⟨ret_int (by omega), bel1 _ _⟩

theorem rBits_L (f : M.Fmt) (w : World) (hc : f.c = 2) (hy : 0 ≤ f.y ∧ f.y ≤ 121) :
    Calls Tryd.prog 30 #[fv f] w fun e w' => e = .returned (.int .i64 (8 * f.y)) ∧ Below w.heap.size w w' := by
  obtain ⟨c, r, h, b, k, m, j, p, l, y⟩ := f
  unfold fv
  dsimp only at hc hy ⊢
  subst hc
  go_enter Tryd.func30, Tryd.ntmps30
  go_wp2
  go_ret
  exact ⟨ret_int (by omega), bel1 _ _⟩

end Form
end Go.Proofs.YthlpbekfjolenaaDoor
