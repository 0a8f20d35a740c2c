/-
  The law AllocShares: its walk. Conditions: the offsets stand as their initialisers lay them.
-/
import Derived.Test.YthlpbekfjolenaaDoorAllocLaw
namespace Go.Proofs.YthlpbekfjolenaaDoor
set_option linter.unusedVariables false
open Go.RowKit
namespace Alloc
open Bank (Blk But)
open Poly (alloc_size enc enc_get cell_keep below_drew)
open _root_.Go.Proofs.YthlpbekfjolenaaDoor.Form (fv fc bel1 blk_below box_cells of_drew box_behind)

set_option maxHeartbeats 4000000 in
theorem AllocShares_walk (f : M.Fmt) (vs : Value) (zss : List (List Int)) (W : World) (hT : Tabs W) (hZ : Poly.Rows .i64 0 W.heap.size W vs zss) :
    Calls Tryd.prog 3 #[fv f, vs] W fun e w' => e = .returned (.bool true) ∧ Below W.heap.size W w' := by
  obtain ⟨W0, hW0⟩ : ∃ W0, W0 = W.alloc (.cells (fc f) 23) := ⟨_, rfl⟩
  have b0 : Below W.heap.size W W0 := by rw [hW0]; exact bel1 _ _
  have s0 : W0.heap.size = W.heap.size + 1 := by rw [hW0, alloc_size]
  have bx : Blk W0 W.heap.size (fc f) 23 := by rw [hW0]; exact Blk.new _ _ _
  -- what stands in every world behind the first
  have HB : Hid (∀ wx, Below W0.heap.size W0 wx → Below W.heap.size W wx ∧ Blk wx W.heap.size (fc f) 23 ∧ Tabs wx ∧ Poly.Rows .i64 0 wx.heap.size wx vs zss) := fun wx h => by
    have h1 : Below W.heap.size W wx := b0.trans (h.mono (by omega))
    exact ⟨h1, blk_below h bx (by omega), hT.below h1 (Nat.le_refl _), (hZ.below h1 (Nat.le_refl _)).mono (Nat.le_refl _) h1.size⟩
  have hal : Calls Tryd.prog 4 #[] W0 fun e w' => e = .returned (.bool true) ∧ Below W0.heap.size W0 w' := alive_any W0 (hT.below b0 (Nat.le_refl _))
  have hfa : ∀ wx, Below W0.heap.size W0 wx → Calls Tryd.prog 5 #[vs] wx fun e w' => Yes (FarP zss) wx e w' := fun wx h => Far_any vs zss wx (HB.out wx h).2.2.2
  have HFa : Hid _ := hfa
  obtain ⟨ax, cx, hvs, _⟩ := hZ.form
  have hvs' := hvs
  clear b0 s0 bx hT hZ hfa
  by_cases hfar : FarP zss
  · have HFar : Hid (FarP zss) := hfar
    clear hfar
    obtain ⟨c_, r_, h_, b_, k_, m_, j_, p_, l_, y_⟩ := f
    unfold fv
    unfold fc at hW0
    dsimp only at hW0 ⊢
    subst hW0
    subst hvs
    go_enter Tryd.func3, Tryd.ntmps3
    go_wp2_with (first
      | (go_at_call 4; refine hal.mono ?_; clear hal; rintro e w1 ⟨rfl, b1⟩; have B1 : Hid _ := b1; clear b1)
      | (go_at_call 5; refine (HFa.out _ B1.out).mono ?_; clear HFa; intro e w2 hq; obtain ⟨rfl, hw⟩ := Yes.yes hq HFar.out; rw [hw]; clear hw hq w2))
    go_ret
    exact ⟨rfl, (HB.out _ B1.out).1⟩
  · have HFar : Hid (¬ FarP zss) := hfar
    clear hfar
    rcases good_or f zss with ⟨E, hE⟩ | ⟨C, B, r, hG⟩
    · have hN : ∀ wx, Below W0.heap.size W0 wx → Calls Tryd.prog 6 #[fv f, vs] wx fun e w' => e = .returned (.tuple #[.slice none 0 0, .int .i64 E]) ∧ Below wx.heap.size wx w' := fun wx h => Needs_err E f vs zss wx hE (HB.out wx h).2.2.2
      have hS : ∀ wx, Below W0.heap.size W0 wx → Calls Tryd.prog 7 #[fv f, vs] wx fun e w' => e = .returned (.tuple #[.slice none 0 0, .int .i64 E]) ∧ Below wx.heap.size wx w' := fun wx h => Share_err E f vs zss wx hE (HB.out wx h).2.2.2
      have hM : ∀ wx, Below W0.heap.size W0 wx → Calls Tryd.prog 8 #[fv f, vs] wx fun e w' => e = .returned (.int .i64 E) ∧ Below wx.heap.size wx w' := fun wx h => rMay_err E f vs zss wx hE (HB.out wx h).2.2.2
      have hEv := hE.val
      have HN : Hid _ := hN
      have HS : Hid _ := hS
      have HM : Hid _ := hM
      clear hN hS hM hE
      obtain ⟨c_, r_, h_, b_, k_, m_, j_, p_, l_, y_⟩ := f
      unfold fv at HN HS HM ⊢
      unfold fc at hW0 HB
      dsimp only at hW0 HB HN HS HM ⊢
      subst hW0
      subst hvs
      rcases hEv with rfl | rfl
      all_goals (
        go_enter Tryd.func3, Tryd.ntmps3
        go_wp2_with (first
          | (go_at_call 4; refine hal.mono ?_; clear hal; rintro e w1 ⟨rfl, b1⟩; have xs := box_cells (f := ⟨c_, r_, h_, b_, k_, m_, j_, p_, l_, y_⟩) (HB.out w1 b1).2.1; dsimp only at xs; obtain ⟨x0, x1, x2, x3, x4, x5, x6, x7, x8, x9⟩ := xs; have B1 : Hid _ := b1; clear b1)
          | (go_at_call 5; refine (HFa.out _ B1.out).mono ?_; clear HFa; intro e w2 hq; obtain ⟨rfl, hw⟩ := Yes.no hq HFar.out; rw [hw]; clear hw hq w2)
          | (go_at_call 6; refine (HN.out _ B1.out).mono ?_; clear HN x0 x1 x2 x3 x4 x5 x6 x7 x8 x9; rintro e w2 ⟨rfl, b2⟩; have B2 : Hid _ := B1.out.trans (b2.mono B1.out.size); clear b2; have xs := box_cells (f := ⟨c_, r_, h_, b_, k_, m_, j_, p_, l_, y_⟩) (HB.out w2 B2.out).2.1; dsimp only at xs; obtain ⟨x0, x1, x2, x3, x4, x5, x6, x7, x8, x9⟩ := xs)
          | (go_at_call 7; refine (HS.out _ B2.out).mono ?_; clear HS x0 x1 x2 x3 x4 x5 x6 x7 x8 x9; rintro e w3 ⟨rfl, b3⟩; have B3 : Hid _ := B2.out.trans (b3.mono B2.out.size); clear b3; have xs := box_cells (f := ⟨c_, r_, h_, b_, k_, m_, j_, p_, l_, y_⟩) (HB.out w3 B3.out).2.1; dsimp only at xs; obtain ⟨x0, x1, x2, x3, x4, x5, x6, x7, x8, x9⟩ := xs)
          | (go_at_call 8; refine (HM.out _ B3.out).mono ?_; clear HM x0 x1 x2 x3 x4 x5 x6 x7 x8 x9; rintro e w4 ⟨rfl, b4⟩; have B4 : Hid _ := B3.out.trans (b4.mono B3.out.size); clear b4))
        go_ret
        exact ⟨rfl, (HB.out _ B4.out).1⟩)
    · obtain ⟨sl, hl, hs⟩ := hG.lst
      have hN : ∀ wx, Below W0.heap.size W0 wx → Calls Tryd.prog 6 #[fv f, vs] wx fun e w' => Grids wx C B (M.nd f.m C B r zss) e w' := fun wx h => Needs_ok f vs zss C B r wx (HB.out wx h).2.2.1 hG (HB.out wx h).2.2.2
      have hS : ∀ wx, Below W0.heap.size W0 wx → Calls Tryd.prog 7 #[fv f, vs] wx fun e w' => Grids wx C B (M.shr (M.nd f.m C B r zss) (B * C) f.p sl) e w' := fun wx h => Share_ok f vs zss C B r wx (HB.out wx h).2.2.1 hG (HB.out wx h).2.2.2 hl hs
      have hM : ∀ wx, Below W0.heap.size W0 wx → Calls Tryd.prog 8 #[fv f, vs] wx fun e w' => e = .returned (.int .i64 0) ∧ Below wx.heap.size wx w' := fun wx h => rMay_ok f vs zss C B r wx hG (HB.out wx h).2.2.2
      have hRN : ∀ wx, Below W0.heap.size W0 wx → Calls Tryd.prog 10 #[fv f, vs] wx fun e w' => Lst wx (B * C) (M.nd f.m C B r zss) e w' := fun wx h => rNeeds_ok f vs zss C B r wx hG (HB.out wx h).2.2.2
      have hRS : ∀ wx, Below W0.heap.size W0 wx → Calls Tryd.prog 11 #[fv f, vs] wx fun e w' => Lst wx (B * C) (M.shr (M.nd f.m C B r zss) (B * C) f.p sl) e w' := fun wx h => rShare_ok f vs zss C B r wx hG (HB.out wx h).2.2.2 hl hs
      have c12 : C = 1 ∨ C = 2 := by have := hG.c2; omega
      have b48 := hG.b8
      have hSm : ∀ (a b off c : Nat) (F : Nat → Int) (w : World), Grid a C B F w → (∀ j, j < B * C → w.cell? ⟨b, off + j, none⟩ = some (.int .i64 (F j))) → b < w.heap.size → Calls Tryd.prog 9 #[.slice (some ⟨a, 0, none⟩) C C, .slice (some ⟨b, off, none⟩) (B * C) c] w fun e w' => e = .returned (.bool true) ∧ Below w.heap.size w w' := fun a b off c F w h hx hb => same_any a C B b off c F w h c12 b48 hx hb
      have hC := hG.hC
      have HN : Hid _ := hN
      have HS : Hid _ := hS
      have HM : Hid _ := hM
      have HRN : Hid _ := hRN
      have HRS : Hid _ := hRS
      have HSm : Hid _ := hSm
      clear hN hS hM hRN hRS hSm hG hl hs c12 b48
      generalize M.shr (M.nd f.m C B r zss) (B * C) f.p sl = Sh at *
      generalize M.nd f.m C B r zss = n at *
      obtain ⟨c_, r_, h_, b_, k_, m_, j_, p_, l_, y_⟩ := f
      obtain rfl : h_ = C := hC
      unfold fv at HN HS HM HRN HRS ⊢
      unfold fc at hW0 HB
      dsimp only at hW0 HB HN HS HM HRN HRS ⊢
      subst hW0
      subst hvs
      generalize B * C = N at *
      go_enter Tryd.func3, Tryd.ntmps3
      go_wp2_with (first
        | (go_at_call 4; refine hal.mono ?_; clear hal; rintro e w1 ⟨rfl, b1⟩; have xs := box_cells (f := ⟨c_, r_, C, b_, k_, m_, j_, p_, l_, y_⟩) (HB.out w1 b1).2.1; dsimp only at xs; obtain ⟨x0, x1, x2, x3, x4, x5, x6, x7, x8, x9⟩ := xs; have B1 : Hid _ := b1; clear b1)
        | (go_at_call 5; refine (HFa.out _ B1.out).mono ?_; clear HFa; intro e w2 hq; obtain ⟨rfl, hw⟩ := Yes.no hq HFar.out; rw [hw]; clear hw hq w2)
        | (go_at_call 6; refine (HN.out _ B1.out).mono ?_; clear HN x0 x1 x2 x3 x4 x5 x6 x7 x8 x9; rintro e w2 ⟨a1, ha1, rfl, b2, g2⟩; have B2 : Hid _ := B1.out.trans (b2.mono B1.out.size); have G2 : Hid _ := g2; clear b2 g2 ha1; have xs := box_cells (f := ⟨c_, r_, C, b_, k_, m_, j_, p_, l_, y_⟩) (HB.out w2 B2.out).2.1; dsimp only at xs; obtain ⟨x0, x1, x2, x3, x4, x5, x6, x7, x8, x9⟩ := xs)
        | (go_at_call 7; refine (HS.out _ B2.out).mono ?_; clear HS x0 x1 x2 x3 x4 x5 x6 x7 x8 x9; rintro e w3 ⟨a2, ha2, rfl, b3, g3⟩; have B3 : Hid _ := B2.out.trans (b3.mono B2.out.size); have G3 : Hid _ := g3; have G23 : Hid _ := Grid.grow G2.out b3; clear b3 g3 ha2 G2; have xs := box_cells (f := ⟨c_, r_, C, b_, k_, m_, j_, p_, l_, y_⟩) (HB.out w3 B3.out).2.1; dsimp only at xs; obtain ⟨x0, x1, x2, x3, x4, x5, x6, x7, x8, x9⟩ := xs)
        | (go_at_call 8; refine (HM.out _ B3.out).mono ?_; clear HM x0 x1 x2 x3 x4 x5 x6 x7 x8 x9; rintro e w4 ⟨rfl, b4⟩; have B4 : Hid _ := B3.out.trans (b4.mono B3.out.size); have G34 : Hid _ := Grid.grow G3.out b4; have G24 : Hid _ := Grid.grow G23.out b4; clear b4 G3 G23; have xs := box_cells (f := ⟨c_, r_, C, b_, k_, m_, j_, p_, l_, y_⟩) (HB.out w4 B4.out).2.1; dsimp only at xs; obtain ⟨x0, x1, x2, x3, x4, x5, x6, x7, x8, x9⟩ := xs)
        | (go_at_call 10; refine (HRN.out _ B4.out).mono ?_; clear HRN x0 x1 x2 x3 x4 x5 x6 x7 x8 x9; rintro e w5 ⟨q5, o5, c5, rfl, l5, u5, z5, b5⟩; have B5 : Hid _ := B4.out.trans (b5.mono B4.out.size); have G35 : Hid _ := Grid.grow G34.out b5; have G25 : Hid _ := Grid.grow G24.out b5; have Z5 : Hid _ := z5; have U5 : Hid _ := u5; clear b5 G34 G24 z5 u5 l5)
        | (go_at_call 9; refine (HSm.out a1 q5 o5 c5 n w5 G25.out Z5.out U5.out).mono ?_; clear G25 Z5 U5; rintro e w6 ⟨rfl, b6⟩; have B6 : Hid _ := B5.out.trans (b6.mono B5.out.size); have G36 : Hid _ := Grid.grow G35.out b6; clear b6 G35; have xs := box_cells (f := ⟨c_, r_, C, b_, k_, m_, j_, p_, l_, y_⟩) (HB.out w6 B6.out).2.1; dsimp only at xs; obtain ⟨x0, x1, x2, x3, x4, x5, x6, x7, x8, x9⟩ := xs)
        | (go_at_call 11; refine (HRS.out _ B6.out).mono ?_; clear HRS x0 x1 x2 x3 x4 x5 x6 x7 x8 x9; rintro e w7 ⟨q7, o7, c7, rfl, l7, u7, z7, b7⟩; have B7 : Hid _ := B6.out.trans (b7.mono B6.out.size); have G37 : Hid _ := Grid.grow G36.out b7; have Z7 : Hid _ := z7; have U7 : Hid _ := u7; clear b7 G36 z7 u7 l7)
        | (go_at_call 9; refine (HSm.out a2 q7 o7 c7 Sh w7 G37.out Z7.out U7.out).mono ?_; clear HSm G37 Z7 U7; rintro e w8 ⟨rfl, b8⟩; have B8 : Hid _ := B7.out.trans (b8.mono B7.out.size); clear b8))
      go_ret
      exact ⟨rfl, (HB.out _ B8.out).1⟩

end Alloc
end Go.Proofs.YthlpbekfjolenaaDoor
