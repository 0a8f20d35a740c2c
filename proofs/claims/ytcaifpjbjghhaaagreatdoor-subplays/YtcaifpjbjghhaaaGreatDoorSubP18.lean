import Derived.Laws.StructEq
import Derived.BigQuiet
import Derived.Deep.RegionHeld3
import Derived.Test.YtcaifpjbjghhaaaGreatDoorSubP12
/-
  Contracts of package format's small functions and of each condition. Conditions: as told at each.
-/
namespace Go.Proofs.YtcaifpjbjghhaaaGreatDoor
set_option linter.unusedVariables false
open Go.RowKit
namespace Form
open Bank (Blk But)

def fv (f : M.Fmt) : Value := .agg #[.int .i64 f.c, .int .i64 f.r, .int .i64 f.h, .int .i64 f.b, .int .i64 f.k, .int .i64 f.m, .int .i64 f.j, .int .i64 f.p, .int .i64 f.l, .int .i64 f.y]
def fc (f : M.Fmt) : Array Value := #[.int .i64 f.c, .int .i64 f.r, .int .i64 f.h, .int .i64 f.b, .int .i64 f.k, .int .i64 f.m, .int .i64 f.j, .int .i64 f.p, .int .i64 f.l, .int .i64 f.y]

def Says (C : Prop) (w : World) (e : Ending) (w' : World) : Prop := ∃ q : Bool, e = .returned (.bool q) ∧ Below w.heap.size w w' ∧ (q = true ↔ C)
def SaysW (C : Prop) (w : World) (e : Ending) (w' : World) : Prop := ∃ q : Bool, e = .returned (.bool q) ∧ w' = w ∧ (q = true ↔ C)
theorem ret_int {x y : Int} (h : x = y) : Ending.returned (.int .i64 x) = .returned (.int .i64 y) := by rw [h]

theorem bel1 (w : World) (o : Obj) : Below w.heap.size w (w.alloc o) := (Below.refl _ w).alloc (Nat.le_refl _) _

theorem within_any (x a d : Int) (w : World) : Calls Tryz.prog 228 #[.int .i64 x, .int .i64 a, .int .i64 d] w fun e w' => SaysW ((a ≤ x ∧ x ≤ d)) w e w' := by
  rcases (by omega : (a ≤ x ∧ x ≤ d) ∨ (a ≤ x ∧ ¬ x ≤ d) ∨ ¬ a ≤ x) with ⟨h1, h2⟩ | ⟨h1, h2⟩ | h1
  · go_enter Tryz.func228, Tryz.ntmps228
    go_wp2
    go_ret
    exact ⟨true, rfl, rfl, by simp; omega⟩
  · go_enter Tryz.func228, Tryz.ntmps228
    go_wp2
    go_ret
    exact ⟨false, rfl, rfl, by simp; omega⟩
  · go_enter Tryz.func228, Tryz.ntmps228
    go_wp2
    go_ret
    exact ⟨false, rfl, rfl, by simp; omega⟩

theorem hasRate_any (f : M.Fmt) (w : World) : Calls Tryz.prog 224 #[fv f] w fun e w' => Says ((0 ≤ f.r ∧ f.r ≤ 3)) w e w' := by
  obtain ⟨c, r, h, b, k, m, j, p, l, y⟩ := f
  unfold fv
  go_enter Tryz.func224, Tryz.ntmps224
  go_wp2_with (go_at_call 228; refine (within_any _ _ _ _).mono ?_; rintro e w' ⟨q, rfl, hw, hq⟩; rw [hw]; clear hw w')
  go_ret
  exact ⟨q, rfl, bel1 _ _, hq⟩

theorem hasChannels_any (f : M.Fmt) (w : World) : Calls Tryz.prog 225 #[fv f] w fun e w' => Says ((1 ≤ f.h ∧ f.h ≤ 2)) w e w' := by
  obtain ⟨c, r, h, b, k, m, j, p, l, y⟩ := f
  unfold fv
  go_enter Tryz.func225, Tryz.ntmps225
  go_wp2_with (go_at_call 228; refine (within_any _ _ _ _).mono ?_; rintro e w' ⟨q, rfl, hw, hq⟩; rw [hw]; clear hw w')
  go_ret
  exact ⟨q, rfl, bel1 _ _, hq⟩

theorem bands_any (f : M.Fmt) (w : World) : Calls Tryz.prog 226 #[fv f] w fun e w' => Says ((f.b = 4 ∨ f.b = 8)) w e w' := by
  obtain ⟨c, r, h, b, k, m, j, p, l, y⟩ := f
  unfold fv
  show Calls _ _ _ _ fun e w' => Says ((b = 4 ∨ b = 8)) w e w'
  rcases (by omega : b = 4 ∨ b = 8 ∨ (b ≠ 4 ∧ b ≠ 8)) with rfl | rfl | ⟨h1, h2⟩
  · go_enter Tryz.func226, Tryz.ntmps226
    go_wp2
    go_ret
    exact ⟨true, rfl, bel1 _ _, by simp⟩
  · go_enter Tryz.func226, Tryz.ntmps226
    go_wp2
    go_ret
    exact ⟨true, rfl, bel1 _ _, by simp⟩
  · have e1 : (b == 4) = false := by simpa using h1
    have e2 : (b == 8) = false := by simpa using h2
    go_enter Tryz.func226, Tryz.ntmps226
    go_wp2
    go_ret
    exact ⟨false, rfl, bel1 _ _, by simp; omega⟩

theorem blocks_any (f : M.Fmt) (w : World) : Calls Tryz.prog 227 #[fv f] w fun e w' => Says (((4 ≤ f.k ∧ f.k ≤ 16) ∧ f.k % 4 = 0)) w e w' := by
  obtain ⟨c, r, h, b, k, m, j, p, l, y⟩ := f
  unfold fv
  show Calls _ _ _ _ fun e w' => Says (((4 ≤ k ∧ k ≤ 16) ∧ k % 4 = 0)) w e w'
  by_cases h1 : 4 ≤ k ∧ k ≤ 16
  · obtain ⟨h2, h3⟩ := h1
    by_cases h4 : k % 4 = 0
    · go_enter Tryz.func227, Tryz.ntmps227
      go_wp2_with (go_at_call 228; refine (within_any _ _ _ _).mono ?_; rintro e w' ⟨q, rfl, hw, hq⟩; rw [hw]; clear hw w'; obtain rfl : q = true := hq.2 ⟨h2, h3⟩; clear hq)
      go_ret
      exact ⟨true, rfl, bel1 _ _, by simp; omega⟩
    · have h5 : (k % 4 == 0) = false := by simpa using h4
      go_enter Tryz.func227, Tryz.ntmps227
      go_wp2_with (go_at_call 228; refine (within_any _ _ _ _).mono ?_; rintro e w' ⟨q, rfl, hw, hq⟩; rw [hw]; clear hw w'; obtain rfl : q = true := hq.2 ⟨h2, h3⟩; clear hq)
      go_ret
      exact ⟨false, rfl, bel1 _ _, by simp; omega⟩
  · have H : Hid (¬ (4 ≤ k ∧ k ≤ 16)) := h1
    clear h1
    go_enter Tryz.func227, Tryz.ntmps227
    go_wp2_with (go_at_call 228; refine (within_any _ _ _ _).mono ?_; rintro e w' ⟨q, rfl, hw, hq⟩; rw [hw]; clear hw w'; obtain rfl : q = false := Bool.eq_false_iff.2 (fun h => H.out (hq.1 h)); clear hq)
    go_ret
    exact ⟨false, rfl, bel1 _ _, by have := H.out; simp; omega⟩

theorem method_any (f : M.Fmt) (w : World) : Calls Tryz.prog 229 #[fv f] w fun e w' => Says ((0 ≤ f.m ∧ f.m ≤ 1)) w e w' := by
  obtain ⟨c, r, h, b, k, m, j, p, l, y⟩ := f
  unfold fv
  go_enter Tryz.func229, Tryz.ntmps229
  go_wp2_with (go_at_call 228; refine (within_any _ _ _ _).mono ?_; rintro e w' ⟨q, rfl, hw, hq⟩; rw [hw]; clear hw w')
  go_ret
  exact ⟨q, rfl, bel1 _ _, hq⟩

theorem joint_any (f : M.Fmt) (w : World) : Calls Tryz.prog 230 #[fv f] w fun e w' => Says ((f.j = 0 ∨ (f.j = 1 ∧ f.h = 2))) w e w' := by
  obtain ⟨c, r, h, b, k, m, j, p, l, y⟩ := f
  unfold fv
  show Calls _ _ _ _ fun e w' => Says ((j = 0 ∨ (j = 1 ∧ h = 2))) w e w'
  rcases (by omega : j = 0 ∨ (j = 1 ∧ h = 2) ∨ (j = 1 ∧ h ≠ 2) ∨ (j ≠ 0 ∧ j ≠ 1)) with rfl | ⟨rfl, rfl⟩ | ⟨rfl, h1⟩ | ⟨h1, h2⟩
  · go_enter Tryz.func230, Tryz.ntmps230
    go_wp2
    go_ret
    exact ⟨true, rfl, bel1 _ _, by simp⟩
  · go_enter Tryz.func230, Tryz.ntmps230
    go_wp2
    go_ret
    exact ⟨true, rfl, bel1 _ _, by simp⟩
  · have e1 : (h == 2) = false := by simpa using h1
    go_enter Tryz.func230, Tryz.ntmps230
    go_wp2
    go_ret
    exact ⟨false, rfl, bel1 _ _, by simp; omega⟩
  · have e1 : (j == 0) = false := by simpa using h1
    have e2 : (j == 1) = false := by simpa using h2
    go_enter Tryz.func230, Tryz.ntmps230
    go_wp2
    go_ret
    exact ⟨false, rfl, bel1 _ _, by simp; omega⟩

theorem pool_any (f : M.Fmt) (w : World) (hb : f.b = 4 ∨ f.b = 8) (hh : 1 ≤ f.h ∧ f.h ≤ 2) : Calls Tryz.prog 231 #[fv f] w fun e w' => Says ((2 ≤ f.p ∧ f.p ≤ 16 * f.b * f.h ∧ f.p ≤ 250)) w e w' := by
  obtain ⟨c, r, h, b, k, m, j, p, l, y⟩ := f
  unfold fv
  show Calls _ _ _ _ fun e w' => Says ((2 ≤ p ∧ p ≤ 16 * b * h ∧ p ≤ 250)) w e w'
  replace hb : b = 4 ∨ b = 8 := hb
  replace hh : h = 1 ∨ h = 2 := by have : 1 ≤ h ∧ h ≤ 2 := hh; omega
  rcases hb with rfl | rfl <;> rcases hh with rfl | rfl
  all_goals (
    go_enter Tryz.func231, Tryz.ntmps231
    go_wp2_with (go_at_call 228; refine (within_any _ _ _ _).mono ?_; rintro e w' ⟨q, rfl, hw, hq⟩; rw [hw]; clear hw w')
    go_ret
    exact ⟨q, rfl, bel1 _ _, by rw [hq]; omega⟩)

theorem zeros_any (f : M.Fmt) (w : World) : Calls Tryz.prog 232 #[fv f] w fun e w' => Says ((f.l = 0 ∧ f.y = 0)) w e w' := by
  obtain ⟨c, r, h, b, k, m, j, p, l, y⟩ := f
  unfold fv
  show Calls _ _ _ _ fun e w' => Says ((l = 0 ∧ y = 0)) w e w'
  rcases (by omega : (l = 0 ∧ y = 0) ∨ (l = 0 ∧ y ≠ 0) ∨ l ≠ 0) with ⟨rfl, rfl⟩ | ⟨rfl, h1⟩ | h1
  · go_enter Tryz.func232, Tryz.ntmps232
    go_wp2
    go_ret
    exact ⟨true, rfl, bel1 _ _, by simp⟩
  · have e1 : (y == 0) = false := by simpa using h1
    go_enter Tryz.func232, Tryz.ntmps232
    go_wp2
    go_ret
    exact ⟨false, rfl, bel1 _ _, by simp; omega⟩
  · have e1 : (l == 0) = false := by simpa using h1
    go_enter Tryz.func232, Tryz.ntmps232
    go_wp2
    go_ret
    exact ⟨false, rfl, bel1 _ _, by simp; omega⟩

theorem subBits_any (f : M.Fmt) (w : World) (hb : f.b = 4 ∨ f.b = 8) (hh : f.h = 1 ∨ f.h = 2) (hk : f.k = 4 ∨ f.k = 8 ∨ f.k = 12 ∨ f.k = 16) (hp : 0 ≤ f.p ∧ f.p ≤ 251) :
    Calls Tryz.prog 174 #[fv f] w fun e w' => e = .returned (.int .i64 (M.bitS f)) ∧ Below w.heap.size w w' := by
  have hx := M.kp_bd hk hp
  obtain ⟨c, r, h, b, k, m, j, p, l, y⟩ := f
  unfold fv M.bitS
  dsimp only at hb hh hk hp hx ⊢
  obtain ⟨x, ex⟩ : ∃ x, k * p = x := ⟨_, rfl⟩
  rw [ex] at hx ⊢
  have b0 : 4 ≤ b ∧ b ≤ 8 := by omega
  clear hb hk hp
  by_cases hj : j = 1
  · subst hj
    rcases hh with rfl | rfl
    all_goals (
      go_enter Tryz.func174, Tryz.ntmps174
      go_wp2
      go_ret
      exact ⟨ret_int (by simp; try omega), bel1 _ _⟩)
  · have e1 : (j == 1) = false := by simpa using hj
    rw [if_neg hj]
    rcases hh with rfl | rfl
    all_goals (
      go_enter Tryz.func174, Tryz.ntmps174
      go_wp2
      go_ret
      exact ⟨ret_int (by simp; try omega), bel1 _ _⟩)

theorem subBytes_any (f : M.Fmt) (w : World) (hb : f.b = 4 ∨ f.b = 8) (hh : f.h = 1 ∨ f.h = 2) (hk : f.k = 4 ∨ f.k = 8 ∨ f.k = 12 ∨ f.k = 16) (hp : 0 ≤ f.p ∧ f.p ≤ 251) :
    Calls Tryz.prog 129 #[fv f] w fun e w' => e = .returned (.int .i64 ((M.bitS f + 7) / 8)) ∧ Below w.heap.size w w' := by
  have hz := M.bitS_bd hk hp hb hh
  have hc := fun wx => subBits_any f wx hb hh hk hp
  obtain ⟨z, ez⟩ : ∃ z, M.bitS f = z := ⟨_, rfl⟩
  rw [ez] at hz hc ⊢
  clear ez hb hh hk hp
  obtain ⟨c, r, h, b, k, m, j, p, l, y⟩ := f
  unfold fv at hc ⊢
  dsimp only at hc ⊢
  go_enter Tryz.func129, Tryz.ntmps129
  go_wp2_with (go_at_call 174; refine (hc _).mono ?_; rintro e w2 ⟨rfl, bel2⟩)
  go_ret
  exact ⟨ret_int (by omega), (bel1 _ _).trans (bel2.mono (bel1 _ _).size)⟩

theorem lapBytes_any (f : M.Fmt) (w : World) (hh : f.h = 1 ∨ f.h = 2) (hy : 0 ≤ f.y ∧ f.y ≤ 121) :
    Calls Tryz.prog 130 #[fv f] w fun e w' => e = .returned (.int .i64 (f.y * f.h)) ∧ Below w.heap.size w w' := by
  obtain ⟨c, r, h, b, k, m, j, p, l, y⟩ := f
  unfold fv
  dsimp only at hh hy ⊢
  rcases hh with rfl | rfl
  all_goals (
    go_enter Tryz.func130, Tryz.ntmps130
    go_wp2
    go_ret
    exact ⟨ret_int (by omega), bel1 _ _⟩)

theorem subFits_any (f : M.Fmt) (w : World) (hb : f.b = 4 ∨ f.b = 8) (hh : f.h = 1 ∨ f.h = 2) (hk : f.k = 4 ∨ f.k = 8 ∨ f.k = 12 ∨ f.k = 16) (hp : 0 ≤ f.p ∧ f.p ≤ 251) :
    Calls Tryz.prog 233 #[fv f] w fun e w' => Says ((M.bitS f + 7) / 8 ≤ 512) w e w' := by
  have hc := fun wx => subBytes_any f wx hb hh hk hp
  obtain ⟨z, ez⟩ : ∃ z, (M.bitS f + 7) / 8 = z := ⟨_, rfl⟩
  rw [ez] at hc ⊢
  clear ez hb hh hk hp
  obtain ⟨c, r, h, b, k, m, j, p, l, y⟩ := f
  unfold fv at hc ⊢
  dsimp only at hc ⊢
  go_enter Tryz.func233, Tryz.ntmps233
  go_wp2_with (go_at_call 129; refine (hc _).mono ?_; rintro e w2 ⟨rfl, bel2⟩)
  go_ret
  exact ⟨_, rfl, (bel1 _ _).trans (bel2.mono (bel1 _ _).size), by simp⟩

theorem lapFits_any (f : M.Fmt) (w : World) (hh : f.h = 1 ∨ f.h = 2) (hy : 0 ≤ f.y ∧ f.y ≤ 121) :
    Calls Tryz.prog 239 #[fv f] w fun e w' => Says (f.y * f.h ≤ 512) w e w' := by
  have hc := fun wx => lapBytes_any f wx hh hy
  obtain ⟨z, ez⟩ : ∃ z, f.y * f.h = z := ⟨_, rfl⟩
  rw [ez] at hc ⊢
  clear ez hh hy
  obtain ⟨c, r, h, b, k, m, j, p, l, y⟩ := f
  unfold fv at hc ⊢
  dsimp only at hc ⊢
  go_enter Tryz.func239, Tryz.ntmps239
  go_wp2_with (go_at_call 130; refine (hc _).mono ?_; rintro e w2 ⟨rfl, bel2⟩)
  go_ret
  exact ⟨_, rfl, (bel1 _ _).trans (bel2.mono (bel1 _ _).size), by simp⟩

theorem bytes_any (f : M.Fmt) (w : World) : Calls Tryz.prog 237 #[fv f] w fun e w' => Says ((20 ≤ f.y ∧ f.y ≤ 120)) w e w' := by
  obtain ⟨c, r, h, b, k, m, j, p, l, y⟩ := f
  unfold fv
  go_enter Tryz.func237, Tryz.ntmps237
  go_wp2_with (go_at_call 228; refine (within_any _ _ _ _).mono ?_; rintro e w' ⟨q, rfl, hw, hq⟩; rw [hw]; clear hw w')
  go_ret
  exact ⟨q, rfl, bel1 _ _, hq⟩

end Form
end Go.Proofs.YtcaifpjbjghhaaaGreatDoor

/-
  The two conditions that go by lists and by '=='; the lists of conditions. Conditions: as told at each.
-/
namespace Go.Proofs.YtcaifpjbjghhaaaGreatDoor
set_option linter.unusedVariables false
open Go.RowKit
namespace Form
open Bank (Blk But)

theorem of_drew {B : Nat} {w w' : World} (h : Below B w.drew w') : Below B w w' := ⟨h.os, h.tape, h.output, h.size, h.block⟩

theorem eq_int (d : Nat) (a c : Int) (w : World) : (Op.equalIn (d + 1) 3 (.int .i64 a) (.int .i64 c)).run Tryz.prog w = .ok (a == c) w := by
  simp [Op.equalIn, run_underlying Tryz.underlying3]
theorem pt0 (f : M.Fmt) (w : World) : (part 3 (fc f) 0).run Tryz.prog w = .ok (.int .i64 f.c) w := by
  simp [go_sem, fc]
theorem pt1 (f : M.Fmt) (w : World) : (part 3 (fc f) 1).run Tryz.prog w = .ok (.int .i64 f.r) w := by
  simp [go_sem, fc]
theorem pt2 (f : M.Fmt) (w : World) : (part 3 (fc f) 2).run Tryz.prog w = .ok (.int .i64 f.h) w := by
  simp [go_sem, fc]
theorem pt3 (f : M.Fmt) (w : World) : (part 3 (fc f) 3).run Tryz.prog w = .ok (.int .i64 f.b) w := by
  simp [go_sem, fc]
theorem pt4 (f : M.Fmt) (w : World) : (part 3 (fc f) 4).run Tryz.prog w = .ok (.int .i64 f.k) w := by
  simp [go_sem, fc]
theorem pt5 (f : M.Fmt) (w : World) : (part 3 (fc f) 5).run Tryz.prog w = .ok (.int .i64 f.m) w := by
  simp [go_sem, fc]
theorem pt6 (f : M.Fmt) (w : World) : (part 3 (fc f) 6).run Tryz.prog w = .ok (.int .i64 f.j) w := by
  simp [go_sem, fc]
theorem pt7 (f : M.Fmt) (w : World) : (part 3 (fc f) 7).run Tryz.prog w = .ok (.int .i64 f.p) w := by
  simp [go_sem, fc]
theorem pt8 (f : M.Fmt) (w : World) : (part 3 (fc f) 8).run Tryz.prog w = .ok (.int .i64 f.l) w := by
  simp [go_sem, fc]
theorem pt9 (f : M.Fmt) (w : World) : (part 3 (fc f) 9).run Tryz.prog w = .ok (.int .i64 f.y) w := by
  simp [go_sem, fc]
theorem eq_ten (f g : M.Fmt) (w : World) : (binOp .eql 23 (.agg (fc f)) (.agg (fc g))).run Tryz.prog w = .ok (.bool (f.c == g.c && f.r == g.r && f.h == g.h && f.b == g.b && f.k == g.k && f.m == g.m && f.j == g.j && f.p == g.p && f.l == g.l && f.y == g.y)) w := by
  have hs := run_equalIn_struct (P := Tryz.prog) (w := w) 9999 23 (fc f) (fc g) (by rw [Tryz.underlying23]; simp [Program.fieldsOf, Tryz.underlying23]) (by kernel_rfl)
  have he : (Op.equal 23 (.agg (fc f)) (.agg (fc g))).run Tryz.prog w = (Op.equalIn 10000 23 (.agg (fc f)) (.agg (fc g))).run Tryz.prog w := by
    simp [Op.equal, Op.maxDepth]
  rw [show (9999 + 1 : Nat) = 10000 from rfl] at hs
  rw [hs] at he
  clear hs
  simp only [Program.fieldsOf, Tryz.underlying23] at he
  simp only [binOp, Sem.run_bind, he]
  have h1 := fun a c => eq_int 9998 a c w
  rw [show (9998 + 1 : Nat) = 9999 from rfl] at h1
  simp only [Op.eqFields, pt0, pt1, pt2, pt3, pt4, pt5, pt6, pt7, pt8, pt9, h1, Sem.run_bind, Sem.run_ite, Result.andThen_ok]
  by_cases k0 : f.c = g.c
  · by_cases k1 : f.r = g.r
    · by_cases k2 : f.h = g.h
      · by_cases k3 : f.b = g.b
        · by_cases k4 : f.k = g.k
          · by_cases k5 : f.m = g.m
            · by_cases k6 : f.j = g.j
              · by_cases k7 : f.p = g.p
                · by_cases k8 : f.l = g.l
                  · by_cases k9 : f.y = g.y <;> simp [k0, k1, k2, k3, k4, k5, k6, k7, k8, k9]
                  · simp [k0, k1, k2, k3, k4, k5, k6, k7, k8]
                · simp [k0, k1, k2, k3, k4, k5, k6, k7]
              · simp [k0, k1, k2, k3, k4, k5, k6]
            · simp [k0, k1, k2, k3, k4, k5]
          · simp [k0, k1, k2, k3, k4]
        · simp [k0, k1, k2, k3]
      · simp [k0, k1, k2]
    · simp [k0, k1]
  · simp [k0]

theorem only_any (f : M.Fmt) (w : World) : Calls Tryz.prog 238 #[fv f] w fun e w' => Says (f.c = 2 ∧ f.b = 0 ∧ f.k = 0 ∧ f.m = 0 ∧ f.j = 0 ∧ f.p = 0) w e w' := by
  obtain ⟨c, r, h, b, k, m, j, p, l, y⟩ := f
  have heq := fun wx => eq_ten ⟨c, r, h, b, k, m, j, p, l, y⟩ ⟨2, r, h, 0, 0, 0, 0, 0, l, y⟩ wx
  unfold fc at heq
  unfold fv
  dsimp only at heq ⊢
  simp only [beq_self_eq_true, Bool.and_true] at heq
  obtain ⟨z, hz⟩ : ∃ z, (c == 2 && b == 0 && k == 0 && m == 0 && j == 0 && p == 0) = z := ⟨_, rfl⟩
  rw [hz] at heq
  have HZ : Hid _ := hz
  clear hz
  go_enter Tryz.func238, Tryz.ntmps238
  go_wp2
  go_ret
  refine ⟨z, rfl, bel1 _ _, ?_⟩
  rw [← HZ.out]
  simp
  omega

theorem length_any (f : M.Fmt) (w : World) : Calls Tryz.prog 234 #[fv f] w fun e w' => Says (f.l = 40 ∨ f.l = 60 ∨ f.l = 80 ∨ f.l = 120) w e w' := by
  obtain ⟨c, r, h, b, k, m, j, p, l, y⟩ := f
  unfold fv
  dsimp only
  go_enter Tryz.func234, Tryz.ntmps234
  go_wp2
  obtain ⟨W, hW⟩ : ∃ W, W = w.alloc (.cells #[.int .i64 c, .int .i64 r, .int .i64 h, .int .i64 b, .int .i64 k, .int .i64 m, .int .i64 j, .int .i64 p, .int .i64 l, .int .i64 y] 23) := ⟨_, rfl⟩
  rw [← hW]
  have belW : Below w.heap.size w W := by rw [hW]; exact bel1 _ _
  have hbox : Blk W w.heap.size (fc ⟨c, r, h, b, k, m, j, p, l, y⟩) 23 := by rw [hW]; exact Blk.new _ _ _
  have c8 : W.cell? ⟨w.heap.size, 8, none⟩ = some (.int .i64 l) := hbox.cell rfl
  have lW : w.heap.size < W.drew.heap.size := hbox.lt
  clear hbox hW
  go_region_held3 (fun w' => w'.cell? ⟨w.heap.size, 8, none⟩ = some (.int .i64 l))
    (first | go_keep | exact k2)
    (first
      | (go_at_call 236; refine (Lapd.Lengths_any _).mono ?_; rintro e w2 ⟨rfl, hb2, bel2, -⟩; have k2 := (bel2.cell lW).trans c8)
      | (go_at_call 235; refine (Lapd.Contains_any _ _ _ hb2).mono ?_; rintro e w3 ⟨q, rfl, rfl, hq⟩))
  all_goals (
    go_wp2
    go_ret
    exact ⟨q, rfl, belW.trans ((of_drew bel2).mono belW.size), hq⟩)

end Form
end Go.Proofs.YtcaifpjbjghhaaaGreatDoor

