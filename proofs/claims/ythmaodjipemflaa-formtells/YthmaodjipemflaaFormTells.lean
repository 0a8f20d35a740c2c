/-
  The walk of the law FormTells. Conditions: none.
-/
import Derived.Test.YthmaodjipemflaaFormSub
import Derived.Test.YthmaodjipemflaaFormLap
import Derived.Test.YthmaodjipemflaaFormEnds
namespace Go.Proofs.Ythmaodjipemflaa
set_option linter.unusedVariables false
open Go.RowKit
namespace Form
open Bank (Blk But)
open Poly (alloc_size)

/-- the document's Check: is it a format? -/
theorem rCheck_yes (f : M.Fmt) (w : World) (ho : M.okF f) : Calls Try.prog 7 #[fv f] w fun e w' => e = .returned (.bool true) ∧ Below w.heap.size w w' := by
  have h1 := fun wx => rSub_any f wx
  have h2 := fun wx => rLap_any f wx
  by_cases hS : M.okS f
  · have HS : Hid (M.okS f) := hS
    clear hS h2 ho
    generalize M.okS f = O at *
    obtain ⟨c, r, h, b, k, m, j, p, l, y⟩ := f
    unfold fv at h1 ⊢
    dsimp only at h1 ⊢
    go_enter Try.func7, Try.ntmps7
    go_wp2_with (first
      | (go_at_call 15; refine (h1 _).mono ?_; clear h1; rintro e w2 ⟨q, rfl, bel2, hq⟩; obtain rfl : q = true := hq.2 HS.out; clear hq; obtain ⟨hb2, belw⟩ := box_behind (f := ⟨c, r, h, b, k, m, j, p, l, y⟩) bel2; clear bel2 hb2))
    go_ret
    exact ⟨rfl, belw⟩
  · have HS : Hid (¬ M.okS f) := hS
    have HL : Hid (M.okL f) := ho.resolve_left hS
    clear hS ho
    generalize M.okS f = O at *
    generalize M.okL f = L at *
    obtain ⟨c, r, h, b, k, m, j, p, l, y⟩ := f
    unfold fv at h1 h2 ⊢
    dsimp only at h1 h2 ⊢
    go_enter Try.func7, Try.ntmps7
    go_wp2_with (first
      | (go_at_call 15; refine (h1 _).mono ?_; clear h1; rintro e w2 ⟨q, rfl, bel2, hq⟩; obtain rfl : q = false := Bool.eq_false_iff.2 (fun g => HS.out (hq.1 g)); clear hq; obtain ⟨hb2, belw⟩ := box_behind (f := ⟨c, r, h, b, k, m, j, p, l, y⟩) bel2; clear bel2; have xs := box_cells hb2; dsimp only at xs; obtain ⟨x0, x1, x2, x3, x4, x5, x6, x7, x8, x9⟩ := xs; clear hb2)
      | (go_at_call 16; refine (h2 _).mono ?_; clear h2; rintro e w3 ⟨q, rfl, bel3, hq⟩; obtain rfl : q = true := hq.2 HL.out; clear hq))
    go_ret
    exact ⟨rfl, belw.trans (bel3.mono belw.size)⟩
theorem rCheck_no (f : M.Fmt) (w : World) (ho : ¬ M.okF f) : Calls Try.prog 7 #[fv f] w fun e w' => e = .returned (.bool false) ∧ Below w.heap.size w w' := by
  have h1 := fun wx => rSub_any f wx
  have h2 := fun wx => rLap_any f wx
  have HS : Hid (¬ M.okS f) := fun h => ho (.inl h)
  have HL : Hid (¬ M.okL f) := fun h => ho (.inr h)
  clear ho
  generalize M.okS f = O at *
  generalize M.okL f = L at *
  obtain ⟨c, r, h, b, k, m, j, p, l, y⟩ := f
  unfold fv at h1 h2 ⊢
  dsimp only at h1 h2 ⊢
  go_enter Try.func7, Try.ntmps7
  go_wp2_with (first
    | (go_at_call 15; refine (h1 _).mono ?_; clear h1; rintro e w2 ⟨q, rfl, bel2, hq⟩; obtain rfl : q = false := Bool.eq_false_iff.2 (fun g => HS.out (hq.1 g)); clear hq; obtain ⟨hb2, belw⟩ := box_behind (f := ⟨c, r, h, b, k, m, j, p, l, y⟩) bel2; clear bel2; have xs := box_cells hb2; dsimp only at xs; obtain ⟨x0, x1, x2, x3, x4, x5, x6, x7, x8, x9⟩ := xs; clear hb2)
    | (go_at_call 16; refine (h2 _).mono ?_; clear h2; rintro e w3 ⟨q, rfl, bel3, hq⟩; obtain rfl : q = false := Bool.eq_false_iff.2 (fun g => HL.out (hq.1 g)); clear hq))
  go_ret
  exact ⟨rfl, belw.trans (bel3.mono belw.size)⟩

theorem rSamples_ok (f : M.Fmt) (w : World) (h : M.okF f) : Calls Try.prog 12 #[fv f] w fun e w' => e = .returned (.int .i64 (M.sam f)) ∧ Below w.heap.size w w' := by
  rcases h with h | h
  · have e : M.sam f = f.b * f.k := if_pos h.1
    have := M.ends (.inl h)
    rw [e]
    rw [e] at this
    exact rSamples_S f w h.1 (by omega)
  · rw [show M.sam f = f.l from if_neg (by have := h.1; omega)]
    exact rSamples_L f w h.1
theorem rBits_ok (f : M.Fmt) (w : World) (h : M.okF f) : Calls Try.prog 13 #[fv f] w fun e w' => e = .returned (.int .i64 (M.bitF f)) ∧ Below w.heap.size w w' := by
  rcases h with h | h
  · rw [show M.bitF f = M.bitS f from if_pos h.1]
    obtain ⟨h1, -, hh, hb, hk, -, -, hp0, -, hp1, -⟩ := h
    exact rBits_S f w h1 hb hh hk (by omega)
  · rw [show M.bitF f = 8 * f.y from if_neg (by have := h.1; omega)]
    obtain ⟨h1, -, hh, -, -, hy0, hy1⟩ := h
    exact rBits_L f w h1 (by omega)
theorem rPayload_ok (f : M.Fmt) (w : World) (h : M.okF f) : Calls Try.prog 14 #[fv f] w fun e w' => e = .returned (.int .i64 (M.pay f)) ∧ Below w.heap.size w w' := by
  rcases h with h | h
  · rw [show M.pay f = (M.bitS f + 7) / 8 from if_pos h.1]
    obtain ⟨h1, -, hh, hb, hk, -, -, hp0, -, hp1, -⟩ := h
    exact rPayload_S f w h1 hb hh hk (by omega)
  · rw [show M.pay f = f.y * f.h from if_neg (by have := h.1; omega)]
    obtain ⟨h1, -, hh, -, -, hy0, hy1⟩ := h
    exact rPayload_L f w h1 hh (by omega)

/-- one call on the boxed format that answers yes or no -/
theorem callB_any {K : FuncId} {f g : M.Fmt} {v : Bool} {w wx : World} (h : Calls Try.prog K #[fv g] wx fun e w' => e = .returned (.bool v) ∧ Below wx.heap.size wx w') (hb : Blk wx w.heap.size (fc f) 23) (bel : Below w.heap.size w wx) : Calls Try.prog K #[fv g] wx fun e w' => e = .returned (.bool v) ∧ Blk w' w.heap.size (fc f) 23 ∧ Below w.heap.size w w' := by
  refine h.mono ?_
  rintro e w' ⟨rfl, b⟩
  exact ⟨rfl, box_next b hb, bel.trans (b.mono bel.size)⟩

theorem FormTells_no (f : M.Fmt) (w : World) (hyp : ¬ M.okF f) : Calls Try.prog 3 #[fv f] w fun e w' => e = .returned (.bool true) ∧ Below w.heap.size w w' := by
  have hs := start_any f w
  have h1 := fun wx hb bel => callB_any (w := w) (f := f) (rCheck_no f wx hyp) hb bel
  have h2 := fun wx hb bel => call_any (w := w) (f := f) (Check_no f wx hyp) hb bel
  have h3 := fun wx hb bel => call_any (w := w) (f := f) (Samples_no f wx hyp) hb bel
  have h4 := fun wx hb bel => call_any (w := w) (f := f) (Bits_no f wx hyp) hb bel
  have h5 := fun wx hb bel => call_any (w := w) (f := f) (Payload_no f wx hyp) hb bel
  clear hyp
  obtain ⟨c, r, h, b, k, m, j, p, l, y⟩ := f
  unfold fc at hs
  unfold fv at h1 h2 h3 h4 h5 ⊢
  dsimp only at hs h1 h2 h3 h4 h5 ⊢
  go_enter Try.func3, Try.ntmps3
  go_wp2_with (first
    | (go_at_call 6; refine hs.mono ?_; clear hs; rintro e w1 ⟨rfl, hb1, bel1'⟩; have xs1 := box_cells (f := ⟨c, r, h, b, k, m, j, p, l, y⟩) hb1; dsimp only at xs1; obtain ⟨a10, a11, a12, a13, a14, a15, a16, a17, a18, a19⟩ := xs1; replace h1 := h1 _ hb1 bel1'; clear hb1 bel1')
    | (go_at_call 7; refine h1.mono ?_; clear h1; rintro e w2 ⟨rfl, hb2, bel2⟩; have xs2 := box_cells (f := ⟨c, r, h, b, k, m, j, p, l, y⟩) hb2; dsimp only at xs2; obtain ⟨a20, a21, a22, a23, a24, a25, a26, a27, a28, a29⟩ := xs2; replace h2 := h2 _ hb2 bel2; clear hb2 bel2)
    | (go_at_call 8; refine h2.mono ?_; clear h2; rintro e w3 ⟨rfl, hb3, bel3⟩; have xs3 := box_cells (f := ⟨c, r, h, b, k, m, j, p, l, y⟩) hb3; dsimp only at xs3; obtain ⟨a30, a31, a32, a33, a34, a35, a36, a37, a38, a39⟩ := xs3; replace h3 := h3 _ hb3 bel3; clear hb3 bel3)
    | (go_at_call 9; refine h3.mono ?_; clear h3; rintro e w4 ⟨rfl, hb4, bel4⟩; have xs4 := box_cells (f := ⟨c, r, h, b, k, m, j, p, l, y⟩) hb4; dsimp only at xs4; obtain ⟨a40, a41, a42, a43, a44, a45, a46, a47, a48, a49⟩ := xs4; replace h4 := h4 _ hb4 bel4; clear hb4 bel4)
    | (go_at_call 10; refine h4.mono ?_; clear h4; rintro e w5 ⟨rfl, hb5, bel5⟩; have xs5 := box_cells (f := ⟨c, r, h, b, k, m, j, p, l, y⟩) hb5; dsimp only at xs5; obtain ⟨a50, a51, a52, a53, a54, a55, a56, a57, a58, a59⟩ := xs5; replace h5 := h5 _ hb5 bel5; clear hb5 bel5)
    | (go_at_call 11; refine h5.mono ?_; clear h5; rintro e w6 ⟨rfl, hb6, bel6⟩; have xs6 := box_cells (f := ⟨c, r, h, b, k, m, j, p, l, y⟩) hb6; dsimp only at xs6; obtain ⟨a60, a61, a62, a63, a64, a65, a66, a67, a68, a69⟩ := xs6))
  go_ret
  exact ⟨rfl, bel6⟩

set_option maxRecDepth 100000 in
set_option maxHeartbeats 3200000 in
theorem FormTells_ok (f : M.Fmt) (w : World) (hyp : M.okF f) : Calls Try.prog 3 #[fv f] w fun e w' => e = .returned (.bool true) ∧ Below w.heap.size w w' := by
  have hs := start_any f w
  have h1 := fun wx hb bel => callB_any (w := w) (f := f) (rCheck_yes f wx hyp) hb bel
  have h2 := fun wx hb bel => call_any (w := w) (f := f) (Check_ok f wx hyp) hb bel
  have h3 := fun wx hb bel => call_any (w := w) (f := f) (Samples_ok f wx hyp) hb bel
  have h4 := fun wx hb bel => call_any (w := w) (f := f) (rSamples_ok f wx hyp) hb bel
  have h5 := fun wx hb bel => call_any (w := w) (f := f) (Bits_ok f wx hyp) hb bel
  have h6 := fun wx hb bel => call_any (w := w) (f := f) (rBits_ok f wx hyp) hb bel
  have h7 := fun wx hb bel => call_any (w := w) (f := f) (Payload_ok f wx hyp) hb bel
  have h8 := fun wx hb bel => call_any (w := w) (f := f) (rPayload_ok f wx hyp) hb bel
  clear hyp
  generalize M.sam f = N at *
  generalize M.pay f = Q at *
  generalize M.bitF f = T at *
  obtain ⟨c, r, h, b, k, m, j, p, l, y⟩ := f
  unfold fc at hs
  unfold fv at h1 h2 h3 h4 h5 h6 h7 h8 ⊢
  dsimp only at hs h1 h2 h3 h4 h5 h6 h7 h8 ⊢
  go_enter Try.func3, Try.ntmps3
  go_wp2_with (first
    | (go_at_call 6; refine hs.mono ?_; clear hs; rintro e w1 ⟨rfl, hb1, bel1'⟩; have xs1 := box_cells (f := ⟨c, r, h, b, k, m, j, p, l, y⟩) hb1; dsimp only at xs1; obtain ⟨a10, a11, a12, a13, a14, a15, a16, a17, a18, a19⟩ := xs1; replace h1 := h1 _ hb1 bel1'; clear hb1 bel1')
    | (go_at_call 7; refine h1.mono ?_; clear h1; rintro e w2 ⟨rfl, hb2, bel2⟩; have xs2 := box_cells (f := ⟨c, r, h, b, k, m, j, p, l, y⟩) hb2; dsimp only at xs2; clear a10 a11 a12 a13 a14 a15 a16 a17 a18 a19; replace h2 := h2 w2.drew hb2 (Poly.below_drew bel2)))
  go_region_held3 (fun w' => w'.cell? ⟨w.heap.size, 0, none⟩ = some (.int .i64 c) ∧ w'.cell? ⟨w.heap.size, 1, none⟩ = some (.int .i64 r) ∧ w'.cell? ⟨w.heap.size, 2, none⟩ = some (.int .i64 h) ∧ w'.cell? ⟨w.heap.size, 3, none⟩ = some (.int .i64 b) ∧ w'.cell? ⟨w.heap.size, 4, none⟩ = some (.int .i64 k) ∧ w'.cell? ⟨w.heap.size, 5, none⟩ = some (.int .i64 m) ∧ w'.cell? ⟨w.heap.size, 6, none⟩ = some (.int .i64 j) ∧ w'.cell? ⟨w.heap.size, 7, none⟩ = some (.int .i64 p) ∧ w'.cell? ⟨w.heap.size, 8, none⟩ = some (.int .i64 l) ∧ w'.cell? ⟨w.heap.size, 9, none⟩ = some (.int .i64 y))
    (first | go_keep | exact xs2 | exact xs3 | exact xs4 | exact xs5 | exact xs6 | exact xs7 | exact xs8 | exact xs9)
    (first
      | (go_at_call 8; refine h2.mono ?_; clear h2; rintro e w3 ⟨rfl, hb3, bel3⟩; have xs3 := box_cells (f := ⟨c, r, h, b, k, m, j, p, l, y⟩) hb3; dsimp only at xs3; replace h3 := h3 _ hb3 bel3; clear hb3 bel3 xs2)
      | (go_at_call 9; refine h3.mono ?_; clear h3; rintro e w4 ⟨rfl, hb4, bel4⟩; have xs4 := box_cells (f := ⟨c, r, h, b, k, m, j, p, l, y⟩) hb4; dsimp only at xs4; replace h4 := h4 _ hb4 bel4; clear hb4 bel4 xs3)
      | (go_at_call 12; refine h4.mono ?_; clear h4; rintro e w5 ⟨rfl, hb5, bel5⟩; have xs5 := box_cells (f := ⟨c, r, h, b, k, m, j, p, l, y⟩) hb5; dsimp only at xs5; replace h5 := h5 _ hb5 bel5; clear hb5 bel5 xs4)
      | (go_at_call 10; refine h5.mono ?_; clear h5; rintro e w6 ⟨rfl, hb6, bel6⟩; have xs6 := box_cells (f := ⟨c, r, h, b, k, m, j, p, l, y⟩) hb6; dsimp only at xs6; replace h6 := h6 _ hb6 bel6; clear hb6 bel6 xs5)
      | (go_at_call 13; refine h6.mono ?_; clear h6; rintro e w7 ⟨rfl, hb7, bel7⟩; have xs7 := box_cells (f := ⟨c, r, h, b, k, m, j, p, l, y⟩) hb7; dsimp only at xs7; replace h7 := h7 _ hb7 bel7; clear hb7 bel7 xs6)
      | (go_at_call 11; refine h7.mono ?_; clear h7; rintro e w8 ⟨rfl, hb8, bel8⟩; have xs8 := box_cells (f := ⟨c, r, h, b, k, m, j, p, l, y⟩) hb8; dsimp only at xs8; replace h8 := h8 _ hb8 bel8; clear hb8 bel8 xs7)
      | (go_at_call 14; refine h8.mono ?_; clear h8; rintro e w9 ⟨rfl, hb9, bel9⟩; have xs9 := box_cells (f := ⟨c, r, h, b, k, m, j, p, l, y⟩) hb9; dsimp only at xs9))
  all_goals go_wp2
  all_goals go_ret
  all_goals exact ⟨rfl, bel9⟩

theorem FormTells_walk (f : M.Fmt) (w : World) : Calls Try.prog 3 #[fv f] w fun e w' => e = .returned (.bool true) ∧ Below w.heap.size w w' :=
  (Classical.em (M.okF f)).elim (FormTells_ok f w) (FormTells_no f w)

end Form
end Go.Proofs.Ythmaodjipemflaa
