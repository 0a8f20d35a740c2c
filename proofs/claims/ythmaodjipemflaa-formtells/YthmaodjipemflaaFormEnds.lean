/-
  The walk of the law FormEnds. Conditions: none.
-/
import Derived.Test.YthmaodjipemflaaFormAlive
import Derived.Deep.DeepCutAuto
namespace Go.Proofs.Ythmaodjipemflaa
set_option linter.unusedVariables false
open Go.RowKit
namespace Form
open Bank (Blk But)
open Poly (alloc_size)

/-- what the law's first call leaves -/
theorem start_any (f : M.Fmt) (w : World) : Calls Try.prog 6 #[] (w.alloc (.cells (fc f) 23)) fun e w2 => e = .returned (.bool true) ∧ Blk w2 w.heap.size (fc f) 23 ∧ Below w.heap.size w w2 := by
  refine (alive_any _).mono ?_
  rintro e w2 ⟨rfl, bel⟩
  exact ⟨rfl, (box_behind bel).1, (box_behind bel).2⟩
/-- a copy of the boxed format in a box of its own -/
theorem copy_box {w w6 : World} {f : M.Fmt} (hb : Blk w6 w.heap.size (fc f) 23) (bel : Below w.heap.size w w6) (W : World) (hW : W = w6.alloc (.cells (fc f) 23)) :
    Blk W w.heap.size (fc f) 23 ∧ Blk W w6.heap.size (fc f) 23 ∧ Below w.heap.size w W ∧ w.heap.size < w6.heap.size := by
  subst hW
  exact ⟨hb.alloc _, Blk.new _ _ _, bel.alloc bel.size _, hb.lt⟩

/-- one call on the boxed format: its answer is v -/
def Ans (w : World) (f : M.Fmt) (v : Int) (e : Ending) (w' : World) : Prop := e = .returned (.int .i64 v) ∧ Blk w' w.heap.size (fc f) 23 ∧ Below w.heap.size w w'
theorem call_any {K : FuncId} {f g : M.Fmt} {v : Int} {w wx : World} (h : Calls Try.prog K #[fv g] wx fun e w' => e = .returned (.int .i64 v) ∧ Below wx.heap.size wx w') (hb : Blk wx w.heap.size (fc f) 23) (bel : Below w.heap.size w wx) : Calls Try.prog K #[fv g] wx (Ans w f v) := by
  refine h.mono ?_
  rintro e w' ⟨rfl, b⟩
  exact ⟨rfl, box_next b hb, bel.trans (b.mono bel.size)⟩

theorem FormEnds_no (f : M.Fmt) (w : World) (hno : ¬ M.okF f) : Calls Try.prog 4 #[fv f] w fun e w' => e = .returned (.bool true) ∧ Below w.heap.size w w' := by
  have hs := start_any f w
  have hc := fun wx hb bel => call_any (w := w) (f := f) (Check_no f wx hno) hb bel
  clear hno
  obtain ⟨c, r, h, b, k, m, j, p, l, y⟩ := f
  unfold fc at hs
  unfold fv at hc ⊢
  dsimp only at hs hc ⊢
  go_enter Try.func4, Try.ntmps4
  go_wp2_with (first
    | (go_at_call 6; refine hs.mono ?_; clear hs; rintro e w2 ⟨rfl, hb2, bel2⟩; have xs := box_cells (f := ⟨c, r, h, b, k, m, j, p, l, y⟩) hb2; dsimp only at xs; obtain ⟨x0, x1, x2, x3, x4, x5, x6, x7, x8, x9⟩ := xs; replace hc := hc _ hb2 bel2; clear hb2)
    | (go_at_call 8; refine hc.mono ?_; clear hc; rintro e w3 ⟨rfl, -, bel3⟩))
  go_ret
  exact ⟨rfl, bel3⟩

set_option maxRecDepth 100000 in
set_option maxHeartbeats 3200000 in
theorem FormEnds_ok (f : M.Fmt) (w : World) (hok : M.okF f) : Calls Try.prog 4 #[fv f] w fun e w' => e = .returned (.bool true) ∧ Below w.heap.size w w' := by
  have hs := start_any f w
  have hc := fun wx hb bel => call_any (w := w) (f := f) (Check_ok f wx hok) hb bel
  have hsa := fun wx hb bel => call_any (w := w) (f := f) (Samples_ok f wx hok) hb bel
  have hpa := fun wx hb bel => call_any (w := w) (f := f) (Payload_ok f wx hok) hb bel
  have hbi := fun wx hb bel => call_any (w := w) (f := f) (Bits_ok f wx hok) hb bel
  obtain ⟨n0, n1, p0, p1, hbp⟩ := M.ends hok
  have hmore : M.okF (M.more f) → M.pay f ≤ M.pay (M.more f) := M.more_pay hok
  have hcp : (f.c = 1 ∧ 0 ≤ f.p ∧ f.p ≤ 250 ∧ f.y = 0) ∨ (f.c = 2 ∧ f.p = 0 ∧ 0 ≤ f.y ∧ f.y ≤ 120) := by
    rcases hok with h | h
    · exact .inl ⟨h.1, by have := h.2.2.2.2.2.2.2.1; omega, h.2.2.2.2.2.2.2.2.2.1, h.2.2.2.2.2.2.2.2.2.2.2.1⟩
    · exact .inr ⟨h.1, h.2.2.2.1.2.2.2.2, by have := h.2.2.2.2.2.1; omega, h.2.2.2.2.2.2⟩
  obtain ⟨g, hg⟩ : ∃ g, M.more f = g := ⟨_, rfl⟩
  rw [hg] at hmore
  have HG : Hid (M.more f = g) := hg
  clear hg
  clear hok
  generalize M.sam f = N at *
  generalize M.pay f = Q at *
  generalize M.bitF f = T at *
  have HM : Hid _ := hmore
  have HCP : Hid _ := hcp
  clear hmore hcp
  obtain ⟨c, r, h, b, k, m, j, p, l, y⟩ := f
  unfold fc at hs
  unfold fv at hc hsa hpa hbi ⊢
  dsimp only at hs hc hsa hpa hbi ⊢
  go_enter Try.func4, Try.ntmps4
  go_wp2_with (first
    | (go_at_call 6; refine hs.mono ?_; clear hs; rintro e w2 ⟨rfl, hb2, bel2⟩; have xs := box_cells (f := ⟨c, r, h, b, k, m, j, p, l, y⟩) hb2; dsimp only at xs; obtain ⟨x0, x1, x2, x3, x4, x5, x6, x7, x8, x9⟩ := xs; replace hc := hc _ hb2 bel2; clear hb2)
    | (go_at_call 8; refine hc.mono ?_; clear hc; rintro e w3 ⟨rfl, hb3, bel3⟩; have ys := box_cells (f := ⟨c, r, h, b, k, m, j, p, l, y⟩) hb3; dsimp only at ys; have hsa' := hsa w3.drew hb3 (Poly.below_drew bel3); clear hsa))
  go_region_held3 (fun w' => w'.cell? ⟨w.heap.size, 0, none⟩ = some (.int .i64 c) ∧ w'.cell? ⟨w.heap.size, 1, none⟩ = some (.int .i64 r) ∧ w'.cell? ⟨w.heap.size, 2, none⟩ = some (.int .i64 h) ∧ w'.cell? ⟨w.heap.size, 3, none⟩ = some (.int .i64 b) ∧ w'.cell? ⟨w.heap.size, 4, none⟩ = some (.int .i64 k) ∧ w'.cell? ⟨w.heap.size, 5, none⟩ = some (.int .i64 m) ∧ w'.cell? ⟨w.heap.size, 6, none⟩ = some (.int .i64 j) ∧ w'.cell? ⟨w.heap.size, 7, none⟩ = some (.int .i64 p) ∧ w'.cell? ⟨w.heap.size, 8, none⟩ = some (.int .i64 l) ∧ w'.cell? ⟨w.heap.size, 9, none⟩ = some (.int .i64 y))
    (first | go_keep | exact ys | exact ys4 | exact ys5)
    (first
      | (go_at_call 9; refine hsa'.mono ?_; clear hsa'; rintro e w4 ⟨rfl, hb4, bel4⟩; have ys4 := box_cells (f := ⟨c, r, h, b, k, m, j, p, l, y⟩) hb4; dsimp only at ys4; have hpa' := hpa w4 hb4 bel4; clear hpa)
      | (go_at_call 11; refine hpa'.mono ?_; clear hpa'; rintro e w5 ⟨rfl, hb5, bel5⟩; have ys5 := box_cells (f := ⟨c, r, h, b, k, m, j, p, l, y⟩) hb5; dsimp only at ys5))
  obtain ⟨z0, z1, z2, z3, z4, z5, z6, z7, z8, z9⟩ := ys5
  have hbi' := hbi w5 hb5 bel5
  clear hbi hb3 hb4 hb5 bel2 bel3 bel4 bel5 x0 x1 x2 x3 x4 x5 x6 x7 x8 x9 ys ys4
  go_upto_region 9 with (first
    | (go_at_call 10; refine hbi'.mono ?_; clear hbi'; rintro e w6 ⟨rfl, hb6, bel6⟩; have ys6 := box_cells (f := ⟨c, r, h, b, k, m, j, p, l, y⟩) hb6; dsimp only at ys6; obtain ⟨v0, v1, v2, v3, v4, v5, v6, v7, v8, v9⟩ := ys6; have HB6 : Hid _ := hb6; clear hb6))
  obtain ⟨W, hW⟩ : ∃ W, W = w6.alloc (.cells #[.int .i64 c, .int .i64 r, .int .i64 h, .int .i64 b, .int .i64 k, .int .i64 m, .int .i64 j, .int .i64 p, .int .i64 l, .int .i64 y] 23) := ⟨_, rfl⟩
  rw [← hW]
  obtain ⟨hbW, hgW, belW, hlt⟩ := copy_box (f := ⟨c, r, h, b, k, m, j, p, l, y⟩) HB6.out bel6 W hW
  clear hW bel6 HB6 v0 v1 v2 v3 v4 v5 v6 v7 v8 v9
  generalize w6.heap.size = G at *
  have ne1 : ¬ w.heap.size = G := by omega
  have ne2 : ¬ G = w.heap.size := by omega
  have hxs := box_cells hbW
  have hgs := box_cells hgW
  dsimp only at hxs hgs
  obtain ⟨x0, -, -, -, -, -, -, x7, -, x9⟩ := hxs
  obtain ⟨g0, g1, g2, g3, g4, g5, g6, g7, g8, g9⟩ := hgs
  have fr7 := hgW.free 7
  have fr9 := hgW.free 9
  have HGW : Hid _ := hgW
  have HLE : Hid (w.heap.size ≤ G) := Nat.le_of_lt hlt
  clear hbW hgW hlt n0 n1 hbp
  by_cases hmo : M.okF g
  · have hcm := fun wx => Check_ok g wx hmo
    have hpm := fun wx => Payload_ok g wx hmo
    have hQR := HM.out hmo
    generalize M.pay g = R at *
    clear hmo
    rcases HCP.out with ⟨e1, e2, e3, e4⟩ | ⟨e1, e2, e3, e4⟩
    · obtain rfl : g = ⟨1, r, h, b, k, m, j, p + 1, l, 0⟩ := by rw [← HG.out]; unfold M.more; simp [e1]
      unfold fv at hcm hpm
      dsimp only at hcm hpm
      subst e1 e4
      go_upto_region 14 with fail
      obtain ⟨X, hX⟩ : ∃ X, X = ((W.setCell ⟨G, 7, none⟩ (.int .i64 (p + 1))).setCell ⟨G, 9, none⟩ (.int .i64 1)).setCell ⟨G, 9, none⟩ (.int .i64 0) := ⟨_, rfl⟩
      rw [← hX]
      have hbX : Blk X G (fc ⟨1, r, h, b, k, m, j, p + 1, l, 0⟩) 23 := by rw [hX]; exact Blk.set (Blk.set (Blk.set HGW.out 7 _) 9 _) 9 _
      have belX : Below w.heap.size w X := by rw [hX]; exact ((belW.setCell HLE.out _).setCell HLE.out _).setCell HLE.out _
      clear hX x0 x7 x9 g0 g1 g2 g3 g4 g5 g6 g7 g8 g9 fr7 fr9 belW
      have ks := box_cells hbX
      dsimp only at ks
      obtain ⟨k0, k1, k2, k3, k4, k5, k6, k7, k8, k9⟩ := ks
      have HBX : Hid _ := hbX
      clear hbX
      go_wp2_with (first
        | (go_at_call 8; refine (hcm _).mono ?_; clear hcm; rintro e w7 ⟨rfl, bel7⟩; have hb7 := box_next bel7 HBX.out; have bel8 := belX.trans (bel7.mono belX.size); clear bel7; have ts := box_cells hb7; dsimp only at ts; obtain ⟨t0, t1, t2, t3, t4, t5, t6, t7, t8, t9⟩ := ts; clear hb7)
        | (go_at_call 11; refine (hpm _).mono ?_; clear hpm; rintro e w9 ⟨rfl, bel9⟩))
      go_ret
      exact ⟨rfl, bel8.trans (bel9.mono bel8.size)⟩
    · obtain rfl : g = ⟨2, r, h, b, k, m, j, 0, l, y + 1⟩ := by rw [← HG.out]; unfold M.more; simp [e1]
      unfold fv at hcm hpm
      dsimp only at hcm hpm
      subst e1 e2
      go_upto_region 14 with fail
      obtain ⟨X, hX⟩ : ∃ X, X = ((W.setCell ⟨G, 7, none⟩ (.int .i64 1)).setCell ⟨G, 9, none⟩ (.int .i64 (y + 1))).setCell ⟨G, 7, none⟩ (.int .i64 0) := ⟨_, rfl⟩
      rw [← hX]
      have hbX : Blk X G (fc ⟨2, r, h, b, k, m, j, 0, l, y + 1⟩) 23 := by rw [hX]; exact Blk.set (Blk.set (Blk.set HGW.out 7 _) 9 _) 7 _
      have belX : Below w.heap.size w X := by rw [hX]; exact ((belW.setCell HLE.out _).setCell HLE.out _).setCell HLE.out _
      clear hX x0 x7 x9 g0 g1 g2 g3 g4 g5 g6 g7 g8 g9 fr7 fr9 belW
      have ks := box_cells hbX
      dsimp only at ks
      obtain ⟨k0, k1, k2, k3, k4, k5, k6, k7, k8, k9⟩ := ks
      have HBX : Hid _ := hbX
      clear hbX
      go_wp2_with (first
        | (go_at_call 8; refine (hcm _).mono ?_; clear hcm; rintro e w7 ⟨rfl, bel7⟩; have hb7 := box_next bel7 HBX.out; have bel8 := belX.trans (bel7.mono belX.size); clear bel7; have ts := box_cells hb7; dsimp only at ts; obtain ⟨t0, t1, t2, t3, t4, t5, t6, t7, t8, t9⟩ := ts; clear hb7)
        | (go_at_call 11; refine (hpm _).mono ?_; clear hpm; rintro e w9 ⟨rfl, bel9⟩))
      go_ret
      exact ⟨rfl, bel8.trans (bel9.mono bel8.size)⟩
  · have hcm := fun wx => Check_no g wx hmo
    clear hmo
    rcases HCP.out with ⟨e1, e2, e3, e4⟩ | ⟨e1, e2, e3, e4⟩
    · obtain rfl : g = ⟨1, r, h, b, k, m, j, p + 1, l, 0⟩ := by rw [← HG.out]; unfold M.more; simp [e1]
      unfold fv at hcm
      dsimp only at hcm
      subst e1 e4
      go_upto_region 14 with fail
      obtain ⟨X, hX⟩ : ∃ X, X = ((W.setCell ⟨G, 7, none⟩ (.int .i64 (p + 1))).setCell ⟨G, 9, none⟩ (.int .i64 1)).setCell ⟨G, 9, none⟩ (.int .i64 0) := ⟨_, rfl⟩
      rw [← hX]
      have hbX : Blk X G (fc ⟨1, r, h, b, k, m, j, p + 1, l, 0⟩) 23 := by rw [hX]; exact Blk.set (Blk.set (Blk.set HGW.out 7 _) 9 _) 9 _
      have belX : Below w.heap.size w X := by rw [hX]; exact ((belW.setCell HLE.out _).setCell HLE.out _).setCell HLE.out _
      clear hX x0 x7 x9 g0 g1 g2 g3 g4 g5 g6 g7 g8 g9 fr7 fr9 belW
      have ks := box_cells hbX
      dsimp only at ks
      obtain ⟨k0, k1, k2, k3, k4, k5, k6, k7, k8, k9⟩ := ks
      have HBX : Hid _ := hbX
      clear hbX
      go_wp2_with (first
        | (go_at_call 8; refine (hcm _).mono ?_; clear hcm; rintro e w7 ⟨rfl, bel7⟩))
      go_ret
      exact ⟨rfl, belX.trans (bel7.mono belX.size)⟩
    · obtain rfl : g = ⟨2, r, h, b, k, m, j, 0, l, y + 1⟩ := by rw [← HG.out]; unfold M.more; simp [e1]
      unfold fv at hcm
      dsimp only at hcm
      subst e1 e2
      go_upto_region 14 with fail
      obtain ⟨X, hX⟩ : ∃ X, X = ((W.setCell ⟨G, 7, none⟩ (.int .i64 1)).setCell ⟨G, 9, none⟩ (.int .i64 (y + 1))).setCell ⟨G, 7, none⟩ (.int .i64 0) := ⟨_, rfl⟩
      rw [← hX]
      have hbX : Blk X G (fc ⟨2, r, h, b, k, m, j, 0, l, y + 1⟩) 23 := by rw [hX]; exact Blk.set (Blk.set (Blk.set HGW.out 7 _) 9 _) 7 _
      have belX : Below w.heap.size w X := by rw [hX]; exact ((belW.setCell HLE.out _).setCell HLE.out _).setCell HLE.out _
      clear hX x0 x7 x9 g0 g1 g2 g3 g4 g5 g6 g7 g8 g9 fr7 fr9 belW
      have ks := box_cells hbX
      dsimp only at ks
      obtain ⟨k0, k1, k2, k3, k4, k5, k6, k7, k8, k9⟩ := ks
      have HBX : Hid _ := hbX
      clear hbX
      go_wp2_with (first
        | (go_at_call 8; refine (hcm _).mono ?_; clear hcm; rintro e w7 ⟨rfl, bel7⟩))
      go_ret
      exact ⟨rfl, belX.trans (bel7.mono belX.size)⟩

theorem FormEnds_walk (f : M.Fmt) (w : World) : Calls Try.prog 4 #[fv f] w fun e w' => e = .returned (.bool true) ∧ Below w.heap.size w w' :=
  (Classical.em (M.okF f)).elim (FormEnds_ok f w) (FormEnds_no f w)

end Form
end Go.Proofs.Ythmaodjipemflaa
