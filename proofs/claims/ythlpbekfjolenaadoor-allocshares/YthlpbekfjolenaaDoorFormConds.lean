/-
  The two conditions that go by lists and by '=='; the lists of conditions. Conditions: as told at each.
-/
import Derived.Test.YthlpbekfjolenaaDoorFormWalks
namespace Go.Proofs.YthlpbekfjolenaaDoor
set_option linter.unusedVariables false
open Go.RowKit
namespace Form
open Bank (Blk But)

theorem of_drew {B : Nat} {w w' : World} (h : Below B w.drew w') : Below B w w' := ⟨h.os, h.tape, h.output, h.size, h.block⟩

theorem eq_int (d : Nat) (a c : Int) (w : World) : (Op.equalIn (d + 1) 3 (.int .i64 a) (.int .i64 c)).run Tryd.prog w = .ok (a == c) w := by
  simp [Op.equalIn, run_underlying Tryd.underlying3]
theorem pt0 (f : M.Fmt) (w : World) : (part 3 (fc f) 0).run Tryd.prog w = .ok (.int .i64 f.c) w := by
  simp [go_sem, fc]
theorem pt1 (f : M.Fmt) (w : World) : (part 3 (fc f) 1).run Tryd.prog w = .ok (.int .i64 f.r) w := by
  simp [go_sem, fc]
theorem pt2 (f : M.Fmt) (w : World) : (part 3 (fc f) 2).run Tryd.prog w = .ok (.int .i64 f.h) w := by
  simp [go_sem, fc]
theorem pt3 (f : M.Fmt) (w : World) : (part 3 (fc f) 3).run Tryd.prog w = .ok (.int .i64 f.b) w := by
  simp [go_sem, fc]
theorem pt4 (f : M.Fmt) (w : World) : (part 3 (fc f) 4).run Tryd.prog w = .ok (.int .i64 f.k) w := by
  simp [go_sem, fc]
theorem pt5 (f : M.Fmt) (w : World) : (part 3 (fc f) 5).run Tryd.prog w = .ok (.int .i64 f.m) w := by
  simp [go_sem, fc]
theorem pt6 (f : M.Fmt) (w : World) : (part 3 (fc f) 6).run Tryd.prog w = .ok (.int .i64 f.j) w := by
  simp [go_sem, fc]
theorem pt7 (f : M.Fmt) (w : World) : (part 3 (fc f) 7).run Tryd.prog w = .ok (.int .i64 f.p) w := by
  simp [go_sem, fc]
theorem pt8 (f : M.Fmt) (w : World) : (part 3 (fc f) 8).run Tryd.prog w = .ok (.int .i64 f.l) w := by
  simp [go_sem, fc]
theorem pt9 (f : M.Fmt) (w : World) : (part 3 (fc f) 9).run Tryd.prog w = .ok (.int .i64 f.y) w := by
  simp [go_sem, fc]
/-- two formats compared -/
theorem eq_ten (f g : M.Fmt) (w : World) : (binOp .eql 23 (.agg (fc f)) (.agg (fc g))).run Tryd.prog w = .ok (.bool (f.c == g.c && f.r == g.r && f.h == g.h && f.b == g.b && f.k == g.k && f.m == g.m && f.j == g.j && f.p == g.p && f.l == g.l && f.y == g.y)) w := by
  have hs := run_equalIn_struct (P := Tryd.prog) (w := w) 9999 23 (fc f) (fc g) (by rw [Tryd.underlying23]; simp [Program.fieldsOf, Tryd.underlying23]) (by kernel_rfl)
  have he : (Op.equal 23 (.agg (fc f)) (.agg (fc g))).run Tryd.prog w = (Op.equalIn 10000 23 (.agg (fc f)) (.agg (fc g))).run Tryd.prog w := by
    simp [Op.equal, Op.maxDepth]
  rw [show (9999 + 1 : Nat) = 10000 from rfl] at hs
  rw [hs] at he
  clear hs
  simp only [Program.fieldsOf, Tryd.underlying23] at he
  simp only [binOp, Sem.run_bind, he]
  have h1 := fun a c => eq_int 9998 a c w
  rw [show (9998 + 1 : Nat) = 9999 from rfl] at h1
  simp only [Op.eqFields, pt0, pt1, pt2, pt3, pt4, pt5, pt6, pt7, pt8, pt9, h1, Sem.run_bind, Sem.run_ite, Result.andThen_ok]
  by_cases k0 : f.c = g.c
  · by_cases k1 : f.r = g.r
    · by_cases k2 : f.h = g.h
      · by_cases k3 : f.b = g.b
        · by_cases k4 : f.k = g.k
          · by_cases k5 : f.m = g.m
            · by_cases k6 : f.j = g.j
              · by_cases k7 : f.p = g.p
                · by_cases k8 : f.l = g.l
                  · by_cases k9 : f.y = g.y <;> simp [k0, k1, k2, k3, k4, k5, k6, k7, k8, k9]
                  · simp [k0, k1, k2, k3, k4, k5, k6, k7, k8]
                · simp [k0, k1, k2, k3, k4, k5, k6, k7]
              · simp [k0, k1, k2, k3, k4, k5, k6]
            · simp [k0, k1, k2, k3, k4, k5]
          · simp [k0, k1, k2, k3, k4]
        · simp [k0, k1, k2, k3]
      · simp [k0, k1, k2]
    · simp [k0, k1]
  · simp [k0]

theorem only_any (f : M.Fmt) (w : World) : Calls Tryd.prog 51 #[fv f] w fun e w' => Says (f.c = 2 ∧ f.b = 0 ∧ f.k = 0 ∧ f.m = 0 ∧ f.j = 0 ∧ f.p = 0) w e w' := by
  obtain ⟨c, r, h, b, k, m, j, p, l, y⟩ := f
  have heq := fun wx => eq_ten ⟨c, r, h, b, k, m, j, p, l, y⟩ ⟨2, r, h, 0, 0, 0, 0, 0, l, y⟩ wx
  unfold fc at heq
  unfold fv
  dsimp only at heq ⊢
  simp only [beq_self_eq_true, Bool.and_true] at heq
  obtain ⟨z, hz⟩ : ∃ z, (c == 2 && b == 0 && k == 0 && m == 0 && j == 0 && p == 0) = z := ⟨_, rfl⟩
  rw [hz] at heq
  have HZ : Hid _ := hz
  clear hz
  go_enter Tryd.func51, Tryd.ntmps51
  go_wp2
  go_ret
  refine ⟨z, rfl, bel1 _ _, ?_⟩
  rw [← HZ.out]
  simp
  omega

theorem length_any (f : M.Fmt) (w : World) : Calls Tryd.prog 47 #[fv f] w fun e w' => Says (f.l = 40 ∨ f.l = 60 ∨ f.l = 80 ∨ f.l = 120) w e w' := by
  obtain ⟨c, r, h, b, k, m, j, p, l, y⟩ := f
  unfold fv
  dsimp only
  go_enter Tryd.func47, Tryd.ntmps47
  go_wp2
  obtain ⟨W, hW⟩ : ∃ W, W = w.alloc (.cells #[.int .i64 c, .int .i64 r, .int .i64 h, .int .i64 b, .int .i64 k, .int .i64 m, .int .i64 j, .int .i64 p, .int .i64 l, .int .i64 y] 23) := ⟨_, rfl⟩
  rw [← hW]
  have belW : Below w.heap.size w W := by rw [hW]; exact bel1 _ _
  have hbox : Blk W w.heap.size (fc ⟨c, r, h, b, k, m, j, p, l, y⟩) 23 := by rw [hW]; exact Blk.new _ _ _
  have c8 : W.cell? ⟨w.heap.size, 8, none⟩ = some (.int .i64 l) := hbox.cell rfl
  have lW : w.heap.size < W.drew.heap.size := hbox.lt
  clear hbox hW
  go_region_held3 (fun w' => w'.cell? ⟨w.heap.size, 8, none⟩ = some (.int .i64 l))
    (first | go_keep | exact k2)
    (first
      | (go_at_call 49; refine (Lapd.Lengths_any _).mono ?_; rintro e w2 ⟨rfl, hb2, bel2, -⟩; have k2 := (bel2.cell lW).trans c8)
      | (go_at_call 48; refine (Lapd.Contains_any _ _ _ hb2).mono ?_; rintro e w3 ⟨q, rfl, rfl, hq⟩))
  all_goals (
    go_wp2
    go_ret
    exact ⟨q, rfl, belW.trans ((of_drew bel2).mono belW.size), hq⟩)

end Form
end Go.Proofs.YthlpbekfjolenaaDoor
