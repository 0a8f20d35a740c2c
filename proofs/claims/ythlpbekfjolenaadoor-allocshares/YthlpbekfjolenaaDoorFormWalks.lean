/-
  Contracts of package format's small functions and of each condition. Conditions: as told at each.
-/
import Derived.Test.YthlpbekfjolenaaDoorFormMath
import Derived.Laws.StructEq
import Derived.BigQuiet
import Derived.Deep.RegionHeld3
namespace Go.Proofs.YthlpbekfjolenaaDoor
set_option linter.unusedVariables false
open Go.RowKit
namespace Form
open Bank (Blk But)

/-- a format as a value -/
def fv (f : M.Fmt) : Value := .agg #[.int .i64 f.c, .int .i64 f.r, .int .i64 f.h, .int .i64 f.b, .int .i64 f.k, .int .i64 f.m, .int .i64 f.j, .int .i64 f.p, .int .i64 f.l, .int .i64 f.y]
/-- a format's cells -/
def fc (f : M.Fmt) : Array Value := #[.int .i64 f.c, .int .i64 f.r, .int .i64 f.h, .int .i64 f.b, .int .i64 f.k, .int .i64 f.m, .int .i64 f.j, .int .i64 f.p, .int .i64 f.l, .int .i64 f.y]

/-- an answer that tells whether C holds; what was there stands -/
def Says (C : Prop) (w : World) (e : Ending) (w' : World) : Prop := ∃ q : Bool, e = .returned (.bool q) ∧ Below w.heap.size w w' ∧ (q = true ↔ C)
def SaysW (C : Prop) (w : World) (e : Ending) (w' : World) : Prop := ∃ q : Bool, e = .returned (.bool q) ∧ w' = w ∧ (q = true ↔ C)
theorem ret_int {x y : Int} (h : x = y) : Ending.returned (.int .i64 x) = .returned (.int .i64 y) := by rw [h]

theorem bel1 (w : World) (o : Obj) : Below w.heap.size w (w.alloc o) := (Below.refl _ w).alloc (Nat.le_refl _) _

theorem within_any (x a d : Int) (w : World) : Calls Tryd.prog 40 #[.int .i64 x, .int .i64 a, .int .i64 d] w fun e w' => SaysW ((a ≤ x ∧ x ≤ d)) w e w' := by
  rcases (by omega : (a ≤ x ∧ x ≤ d) ∨ (a ≤ x ∧ ¬ x ≤ d) ∨ ¬ a ≤ x) with ⟨h1, h2⟩ | ⟨h1, h2⟩ | h1
  · go_enter Tryd.func40, Tryd.ntmps40
    go_wp2
    go_ret
    exact ⟨true, rfl, rfl, by simp; omega⟩
  · go_enter Tryd.func40, Tryd.ntmps40
    go_wp2
    go_ret
    exact ⟨false, rfl, rfl, by simp; omega⟩
  · go_enter Tryd.func40, Tryd.ntmps40
    go_wp2
    go_ret
    exact ⟨false, rfl, rfl, by simp; omega⟩

theorem hasRate_any (f : M.Fmt) (w : World) : Calls Tryd.prog 36 #[fv f] w fun e w' => Says ((0 ≤ f.r ∧ f.r ≤ 3)) w e w' := by
  obtain ⟨c, r, h, b, k, m, j, p, l, y⟩ := f
  unfold fv
  go_enter Tryd.func36, Tryd.ntmps36
  go_wp2_with (go_at_call 40; refine (within_any _ _ _ _).mono ?_; rintro e w' ⟨q, rfl, hw, hq⟩; rw [hw]; clear hw w')
  go_ret
  exact ⟨q, rfl, bel1 _ _, hq⟩

theorem hasChannels_any (f : M.Fmt) (w : World) : Calls Tryd.prog 37 #[fv f] w fun e w' => Says ((1 ≤ f.h ∧ f.h ≤ 2)) w e w' := by
  obtain ⟨c, r, h, b, k, m, j, p, l, y⟩ := f
  unfold fv
  go_enter Tryd.func37, Tryd.ntmps37
  go_wp2_with (go_at_call 40; refine (within_any _ _ _ _).mono ?_; rintro e w' ⟨q, rfl, hw, hq⟩; rw [hw]; clear hw w')
  go_ret
  exact ⟨q, rfl, bel1 _ _, hq⟩

theorem bands_any (f : M.Fmt) (w : World) : Calls Tryd.prog 38 #[fv f] w fun e w' => Says ((f.b = 4 ∨ f.b = 8)) w e w' := by
  obtain ⟨c, r, h, b, k, m, j, p, l, y⟩ := f
  unfold fv
  show Calls _ _ _ _ fun e w' => Says ((b = 4 ∨ b = 8)) w e w'
  rcases (by omega : b = 4 ∨ b = 8 ∨ (b ≠ 4 ∧ b ≠ 8)) with rfl | rfl | ⟨h1, h2⟩
  · go_enter Tryd.func38, Tryd.ntmps38
    go_wp2
    go_ret
    exact ⟨true, rfl, bel1 _ _, by simp⟩
  · go_enter Tryd.func38, Tryd.ntmps38
    go_wp2
    go_ret
    exact ⟨true, rfl, bel1 _ _, by simp⟩
  · have e1 : (b == 4) = false := by simpa using h1
    have e2 : (b == 8) = false := by simpa using h2
    go_enter Tryd.func38, Tryd.ntmps38
    go_wp2
    go_ret
    exact ⟨false, rfl, bel1 _ _, by simp; omega⟩

theorem blocks_any (f : M.Fmt) (w : World) : Calls Tryd.prog 39 #[fv f] w fun e w' => Says (((4 ≤ f.k ∧ f.k ≤ 16) ∧ f.k % 4 = 0)) w e w' := by
  obtain ⟨c, r, h, b, k, m, j, p, l, y⟩ := f
  unfold fv
  show Calls _ _ _ _ fun e w' => Says (((4 ≤ k ∧ k ≤ 16) ∧ k % 4 = 0)) w e w'
  by_cases h1 : 4 ≤ k ∧ k ≤ 16
  · obtain ⟨h2, h3⟩ := h1
    by_cases h4 : k % 4 = 0
    · go_enter Tryd.func39, Tryd.ntmps39
      go_wp2_with (go_at_call 40; refine (within_any _ _ _ _).mono ?_; rintro e w' ⟨q, rfl, hw, hq⟩; rw [hw]; clear hw w'; obtain rfl : q = true := hq.2 ⟨h2, h3⟩; clear hq)
      go_ret
      exact ⟨true, rfl, bel1 _ _, by simp; omega⟩
    · have h5 : (k % 4 == 0) = false := by simpa using h4
      go_enter Tryd.func39, Tryd.ntmps39
      go_wp2_with (go_at_call 40; refine (within_any _ _ _ _).mono ?_; rintro e w' ⟨q, rfl, hw, hq⟩; rw [hw]; clear hw w'; obtain rfl : q = true := hq.2 ⟨h2, h3⟩; clear hq)
      go_ret
      exact ⟨false, rfl, bel1 _ _, by simp; omega⟩
  · have H : Hid (¬ (4 ≤ k ∧ k ≤ 16)) := h1
    clear h1
    go_enter Tryd.func39, Tryd.ntmps39
    go_wp2_with (go_at_call 40; refine (within_any _ _ _ _).mono ?_; rintro e w' ⟨q, rfl, hw, hq⟩; rw [hw]; clear hw w'; obtain rfl : q = false := Bool.eq_false_iff.2 (fun h => H.out (hq.1 h)); clear hq)
    go_ret
    exact ⟨false, rfl, bel1 _ _, by have := H.out; simp; omega⟩

theorem method_any (f : M.Fmt) (w : World) : Calls Tryd.prog 41 #[fv f] w fun e w' => Says ((0 ≤ f.m ∧ f.m ≤ 1)) w e w' := by
  obtain ⟨c, r, h, b, k, m, j, p, l, y⟩ := f
  unfold fv
  go_enter Tryd.func41, Tryd.ntmps41
  go_wp2_with (go_at_call 40; refine (within_any _ _ _ _).mono ?_; rintro e w' ⟨q, rfl, hw, hq⟩; rw [hw]; clear hw w')
  go_ret
  exact ⟨q, rfl, bel1 _ _, hq⟩

theorem joint_any (f : M.Fmt) (w : World) : Calls Tryd.prog 42 #[fv f] w fun e w' => Says ((f.j = 0 ∨ (f.j = 1 ∧ f.h = 2))) w e w' := by
  obtain ⟨c, r, h, b, k, m, j, p, l, y⟩ := f
  unfold fv
  show Calls _ _ _ _ fun e w' => Says ((j = 0 ∨ (j = 1 ∧ h = 2))) w e w'
  rcases (by omega : j = 0 ∨ (j = 1 ∧ h = 2) ∨ (j = 1 ∧ h ≠ 2) ∨ (j ≠ 0 ∧ j ≠ 1)) with rfl | ⟨rfl, rfl⟩ | ⟨rfl, h1⟩ | ⟨h1, h2⟩
  · go_enter Tryd.func42, Tryd.ntmps42
    go_wp2
    go_ret
    exact ⟨true, rfl, bel1 _ _, by simp⟩
  · go_enter Tryd.func42, Tryd.ntmps42
    go_wp2
    go_ret
    exact ⟨true, rfl, bel1 _ _, by simp⟩
  · have e1 : (h == 2) = false := by simpa using h1
    go_enter Tryd.func42, Tryd.ntmps42
    go_wp2
    go_ret
    exact ⟨false, rfl, bel1 _ _, by simp; omega⟩
  · have e1 : (j == 0) = false := by simpa using h1
    have e2 : (j == 1) = false := by simpa using h2
    go_enter Tryd.func42, Tryd.ntmps42
    go_wp2
    go_ret
    exact ⟨false, rfl, bel1 _ _, by simp; omega⟩

theorem pool_any (f : M.Fmt) (w : World) (hb : f.b = 4 ∨ f.b = 8) (hh : 1 ≤ f.h ∧ f.h ≤ 2) : Calls Tryd.prog 43 #[fv f] w fun e w' => Says ((2 ≤ f.p ∧ f.p ≤ 16 * f.b * f.h ∧ f.p ≤ 250)) w e w' := by
  obtain ⟨c, r, h, b, k, m, j, p, l, y⟩ := f
  unfold fv
  show Calls _ _ _ _ fun e w' => Says ((2 ≤ p ∧ p ≤ 16 * b * h ∧ p ≤ 250)) w e w'
  replace hb : b = 4 ∨ b = 8 := hb
  replace hh : h = 1 ∨ h = 2 := by have : 1 ≤ h ∧ h ≤ 2 := hh; omega
  rcases hb with rfl | rfl <;> rcases hh with rfl | rfl
  all_goals (
    go_enter Tryd.func43, Tryd.ntmps43
    go_wp2_with (go_at_call 40; refine (within_any _ _ _ _).mono ?_; rintro e w' ⟨q, rfl, hw, hq⟩; rw [hw]; clear hw w')
    go_ret
    exact ⟨q, rfl, bel1 _ _, by rw [hq]; omega⟩)

theorem zeros_any (f : M.Fmt) (w : World) : Calls Tryd.prog 44 #[fv f] w fun e w' => Says ((f.l = 0 ∧ f.y = 0)) w e w' := by
  obtain ⟨c, r, h, b, k, m, j, p, l, y⟩ := f
  unfold fv
  show Calls _ _ _ _ fun e w' => Says ((l = 0 ∧ y = 0)) w e w'
  rcases (by omega : (l = 0 ∧ y = 0) ∨ (l = 0 ∧ y ≠ 0) ∨ l ≠ 0) with ⟨rfl, rfl⟩ | ⟨rfl, h1⟩ | h1
  · go_enter Tryd.func44, Tryd.ntmps44
    go_wp2
    go_ret
    exact ⟨true, rfl, bel1 _ _, by simp⟩
  · have e1 : (y == 0) = false := by simpa using h1
    go_enter Tryd.func44, Tryd.ntmps44
    go_wp2
    go_ret
    exact ⟨false, rfl, bel1 _ _, by simp; omega⟩
  · have e1 : (l == 0) = false := by simpa using h1
    go_enter Tryd.func44, Tryd.ntmps44
    go_wp2
    go_ret
    exact ⟨false, rfl, bel1 _ _, by simp; omega⟩

theorem subBits_any (f : M.Fmt) (w : World) (hb : f.b = 4 ∨ f.b = 8) (hh : f.h = 1 ∨ f.h = 2) (hk : f.k = 4 ∨ f.k = 8 ∨ f.k = 12 ∨ f.k = 16) (hp : 0 ≤ f.p ∧ f.p ≤ 251) :
    Calls Tryd.prog 54 #[fv f] w fun e w' => e = .returned (.int .i64 (M.bitS f)) ∧ Below w.heap.size w w' := by
  have hx := M.kp_bd hk hp
  obtain ⟨c, r, h, b, k, m, j, p, l, y⟩ := f
  unfold fv M.bitS
  dsimp only at hb hh hk hp hx ⊢
  obtain ⟨x, ex⟩ : ∃ x, k * p = x := ⟨_, rfl⟩
  rw [ex] at hx ⊢
  have b0 : 4 ≤ b ∧ b ≤ 8 := by omega
  clear hb hk hp
  by_cases hj : j = 1
  · subst hj
    rcases hh with rfl | rfl
    all_goals (
      go_enter Tryd.func54, Tryd.ntmps54
      go_wp2
      go_ret
      exact ⟨ret_int (by simp; try omega), bel1 _ _⟩)
  · have e1 : (j == 1) = false := by simpa using hj
    rw [if_neg hj]
    rcases hh with rfl | rfl
    all_goals (
      go_enter Tryd.func54, Tryd.ntmps54
      go_wp2
      go_ret
      exact ⟨ret_int (by simp; try omega), bel1 _ _⟩)

theorem subBytes_any (f : M.Fmt) (w : World) (hb : f.b = 4 ∨ f.b = 8) (hh : f.h = 1 ∨ f.h = 2) (hk : f.k = 4 ∨ f.k = 8 ∨ f.k = 12 ∨ f.k = 16) (hp : 0 ≤ f.p ∧ f.p ≤ 251) :
    Calls Tryd.prog 46 #[fv f] w fun e w' => e = .returned (.int .i64 ((M.bitS f + 7) / 8)) ∧ Below w.heap.size w w' := by
  have hz := M.bitS_bd hk hp hb hh
  have hc := fun wx => subBits_any f wx hb hh hk hp
  obtain ⟨z, ez⟩ : ∃ z, M.bitS f = z := ⟨_, rfl⟩
  rw [ez] at hz hc ⊢
  clear ez hb hh hk hp
  obtain ⟨c, r, h, b, k, m, j, p, l, y⟩ := f
  unfold fv at hc ⊢
  dsimp only at hc ⊢
  go_enter Tryd.func46, Tryd.ntmps46
  go_wp2_with (go_at_call 54; refine (hc _).mono ?_; rintro e w2 ⟨rfl, bel2⟩)
  go_ret
  exact ⟨ret_int (by omega), (bel1 _ _).trans (bel2.mono (bel1 _ _).size)⟩

theorem lapBytes_any (f : M.Fmt) (w : World) (hh : f.h = 1 ∨ f.h = 2) (hy : 0 ≤ f.y ∧ f.y ≤ 121) :
    Calls Tryd.prog 53 #[fv f] w fun e w' => e = .returned (.int .i64 (f.y * f.h)) ∧ Below w.heap.size w w' := by
  obtain ⟨c, r, h, b, k, m, j, p, l, y⟩ := f
  unfold fv
  dsimp only at hh hy ⊢
  rcases hh with rfl | rfl
  all_goals (
    go_enter Tryd.func53, Tryd.ntmps53
    go_wp2
    go_ret
    exact ⟨ret_int (by omega), bel1 _ _⟩)

theorem subFits_any (f : M.Fmt) (w : World) (hb : f.b = 4 ∨ f.b = 8) (hh : f.h = 1 ∨ f.h = 2) (hk : f.k = 4 ∨ f.k = 8 ∨ f.k = 12 ∨ f.k = 16) (hp : 0 ≤ f.p ∧ f.p ≤ 251) :
    Calls Tryd.prog 45 #[fv f] w fun e w' => Says ((M.bitS f + 7) / 8 ≤ 512) w e w' := by
  have hc := fun wx => subBytes_any f wx hb hh hk hp
  obtain ⟨z, ez⟩ : ∃ z, (M.bitS f + 7) / 8 = z := ⟨_, rfl⟩
  rw [ez] at hc ⊢
  clear ez hb hh hk hp
  obtain ⟨c, r, h, b, k, m, j, p, l, y⟩ := f
  unfold fv at hc ⊢
  dsimp only at hc ⊢
  go_enter Tryd.func45, Tryd.ntmps45
  go_wp2_with (go_at_call 46; refine (hc _).mono ?_; rintro e w2 ⟨rfl, bel2⟩)
  go_ret
  exact ⟨_, rfl, (bel1 _ _).trans (bel2.mono (bel1 _ _).size), by simp⟩

theorem lapFits_any (f : M.Fmt) (w : World) (hh : f.h = 1 ∨ f.h = 2) (hy : 0 ≤ f.y ∧ f.y ≤ 121) :
    Calls Tryd.prog 52 #[fv f] w fun e w' => Says (f.y * f.h ≤ 512) w e w' := by
  have hc := fun wx => lapBytes_any f wx hh hy
  obtain ⟨z, ez⟩ : ∃ z, f.y * f.h = z := ⟨_, rfl⟩
  rw [ez] at hc ⊢
  clear ez hh hy
  obtain ⟨c, r, h, b, k, m, j, p, l, y⟩ := f
  unfold fv at hc ⊢
  dsimp only at hc ⊢
  go_enter Tryd.func52, Tryd.ntmps52
  go_wp2_with (go_at_call 53; refine (hc _).mono ?_; rintro e w2 ⟨rfl, bel2⟩)
  go_ret
  exact ⟨_, rfl, (bel1 _ _).trans (bel2.mono (bel1 _ _).size), by simp⟩

theorem bytes_any (f : M.Fmt) (w : World) : Calls Tryd.prog 50 #[fv f] w fun e w' => Says ((20 ≤ f.y ∧ f.y ≤ 120)) w e w' := by
  obtain ⟨c, r, h, b, k, m, j, p, l, y⟩ := f
  unfold fv
  go_enter Tryd.func50, Tryd.ntmps50
  go_wp2_with (go_at_call 40; refine (within_any _ _ _ _).mono ?_; rintro e w' ⟨q, rfl, hw, hq⟩; rw [hw]; clear hw w')
  go_ret
  exact ⟨q, rfl, bel1 _ _, hq⟩

end Form
end Go.Proofs.YthlpbekfjolenaaDoor
