/-
  Contracts of package alloc: Share of scales that are some of a format. Conditions: as told at each; the offsets stand as their initialisers lay them.
-/
import Derived.Test.YthlpbekfjolenaaDoorAllocTell
namespace Go.Proofs.YthlpbekfjolenaaDoor
set_option linter.unusedVariables false
open Go.RowKit
namespace Alloc
open Bank (Blk But)
open Poly (alloc_size enc cell_keep below_drew)
open _root_.Go.Proofs.YthlpbekfjolenaaDoor.Form (fv fc bel1 blk_below box_cells of_drew box_behind)

set_option maxHeartbeats 2000000 in
theorem Share_ok (f : M.Fmt) (vs : Value) (zss : List (List Int)) (C B r : Nat) (w : World) (hT : Tabs w) (h : Good f zss C B r) (hZ : Poly.Rows .i64 0 w.heap.size w vs zss) {sl : Int} (hl : M.lst (M.nd f.m C B r zss) (B * C) f.p sl) (hs : -21 < sl ∧ sl ≤ 16) :
    Calls Tryd.prog 7 #[fv f, vs] w fun e w' => Grids w C B (M.shr (M.nd f.m C B r zss) (B * C) f.p sl) e w' := by
  have hZ1 : Poly.Rows .i64 0 (w.alloc (.cells (fc f) 23)).heap.size (w.alloc (.cells (fc f) 23)) vs zss := by rw [alloc_size]; exact (hZ.below (bel1 w _) (Nat.le_refl _)).mono (Nat.le_refl _) (by omega)
  have hr := refuse_ok f vs zss C B r (w.alloc (.cells (fc f) 23)) h hZ1
  have hT1 : Tabs (w.alloc (.cells (fc f) 23)) := hT.below (bel1 _ _) (Nat.le_refl _)
  have hn : ∀ w2, Below (w.alloc (.cells (fc f) 23)).heap.size (w.alloc (.cells (fc f) 23)) w2 → Calls Tryd.prog 13 #[fv f, vs] w2 fun e w' => e = .returned (.slice (some ⟨w2.heap.size + 3, 0, none⟩) C C) ∧ Below w2.heap.size w2 w' ∧ Grid (w2.heap.size + 3) C B (M.nd f.m C B r zss) w' :=
    fun w2 hb => needsOf_any f vs zss C B r w2 (hT1.below hb (Nat.le_refl _)) ((hZ1.below hb (Nat.le_refl _)).mono (Nat.le_refl _) hb.size) h.len h.sca h.b8 h.hC h.hB h.hr h.r3 h.ok.2.2.2.2.2.1 h.c2.2
  have hbl := fun wx => blank_any f C B wx h.hC h.hB h.c2.2 (by have := h.b8; omega)
  have nb := M.nd_bd (m := f.m) (C := C) (r := r) h.sca
  have np := h.np
  have c2 := h.c2.2
  have b8 : B ≤ 8 := by have := h.b8; omega
  have hC := h.hC
  have hB := h.hB
  obtain ⟨ax, cx, rfl, _⟩ := hZ.form
  have HN : Hid _ := hn
  clear h hZ hn hT hT1 hZ1
  generalize M.nd f.m C B r zss = n at *
  have fb := M.fin_bd n (B * C) f.p sl
  have ft := M.fin_tot hl
  have tb := M.tot_bd n (B * C) (M.fin n (B * C) f.p sl)
  have x1b := M.sg_bd true n (M.fin n (B * C) f.p sl) f.p (M.b0 n (B * C) f.p sl) (M.x0 n (B * C) f.p sl) ⟨tb.1, ft⟩ (B * C)
  have HFall : Hid (∀ (a d g : Nat) (wx : World), Shr w g f a d C B n (fun _ => 0) 0 0 wx → Calls Tryd.prog 15 #[.pointer (some ⟨g, 0, none⟩)] wx fun e w' => e = .returned (.tuple #[]) ∧ Shr w g f a d C B n (fun _ => 0) (M.fin n (B * C) f.p sl) (M.x0 n (B * C) f.p sl) w') :=
    fun a d g wx h => fall_any wx h hC hB rfl nb c2 b8 rfl (by omega) (by omega) hl hs.1
  have HGive : Hid (∀ (a d g : Nat) (wx : World), Shr w g f a d C B n (fun _ => 0) (M.fin n (B * C) f.p sl) (M.x0 n (B * C) f.p sl) wx → Calls Tryd.prog 16 #[.pointer (some ⟨g, 0, none⟩)] wx fun e w' => e = .returned (.tuple #[]) ∧ Shr w g f a d C B n (M.b0 n (B * C) f.p sl) (M.fin n (B * C) f.p sl) (M.x0 n (B * C) f.p sl) w') :=
    fun a d g wx h => give_any wx h hC hB nb c2 b8 (by omega)
  have HF1 : Hid (∀ (a d g : Nat) (wx : World), Shr w g f a d C B n (M.b0 n (B * C) f.p sl) (M.fin n (B * C) f.p sl) (M.x0 n (B * C) f.p sl) wx → Calls Tryd.prog 17 #[.pointer (some ⟨g, 0, none⟩), .bool true] wx fun e w' => e = .returned (.tuple #[]) ∧ Shr w g f a d C B n (M.b1 n (B * C) f.p sl) (M.fin n (B * C) f.p sl) (M.x1 n (B * C) f.p sl) w') :=
    fun a d g wx h => fill_any wx true h hC hB nb (M.b0_bd _ _ _ _) ⟨tb.1, ft⟩ (by omega) c2 b8 (by omega)
  have HF2 : Hid (∀ (a d g : Nat) (wx : World), Shr w g f a d C B n (M.b1 n (B * C) f.p sl) (M.fin n (B * C) f.p sl) (M.x1 n (B * C) f.p sl) wx → Calls Tryd.prog 17 #[.pointer (some ⟨g, 0, none⟩), .bool false] wx fun e w' => e = .returned (.tuple #[]) ∧ Grid d C B (M.shr n (B * C) f.p sl) w' ∧ Below w.heap.size w w' ∧ w'.cell? ⟨g, 11, none⟩ = some (.slice (some ⟨d, 0, none⟩) C C)) :=
    fun a d g wx h => (fill_any wx false h hC hB nb (M.b1_bd _ _ _ _) x1b (by omega) c2 b8 (by omega)).mono fun e w' h => ⟨h.1, h.2.bts, h.2.bel, h.2.obj.cell rfl⟩
  clear fb ft tb x1b nb np c2 b8 hl hs
  generalize M.fin n (B * C) f.p sl = F0 at *
  generalize M.x0 n (B * C) f.p sl = X0 at *
  generalize M.x1 n (B * C) f.p sl = X1 at *
  generalize M.b0 n (B * C) f.p sl = B0 at *
  generalize M.b1 n (B * C) f.p sl = B1 at *
  generalize M.shr n (B * C) f.p sl = B2 at *
  have HShr : Hid (∀ (w2 w3 w4 : World), Below w.heap.size w w2 → Below w2.heap.size w2 w3 → Grid (w2.heap.size + 3) C B n w3 → Below w3.heap.size w3 w4 → Grid (w3.heap.size + 1) C B (fun _ => 0) w4 → w4.heap.size = w3.heap.size + 2 + C →
      Shr w w4.heap.size f (w2.heap.size + 3) (w3.heap.size + 1) C B n (fun _ => 0) 0 0 (w4.alloc (.cells (sc f (w2.heap.size + 3) (w3.heap.size + 1) C 0 0) 40))) := by
    intro w2 w3 w4 b2 b3 g3 b4 g4 s4
    have s2 := b2.size
    have l3 := g3.lt
    have b24 : Below w.heap.size w w4 := (b2.trans (b3.mono s2)).trans (b4.mono (by have := b3.size; omega))
    exact ⟨b24.alloc b24.size _, Blk.new w4 _ _, (g3.grow b4).grow (bel1 _ _), g4.grow (bel1 _ _), by omega, by omega, by omega⟩
  clear hC hB
  obtain ⟨c_, r_, h_, b_, k_, m_, j_, p_, l_, y_⟩ := f
  unfold fv at hr HN hbl ⊢
  unfold fc at hr HN
  unfold sc at HShr
  dsimp only at hr HN hbl HShr ⊢
  have HBl : Hid _ := hbl
  clear hbl
  go_enter Tryd.func7, Tryd.ntmps7
  go_wp2_with (go_at_call 12; refine hr.mono ?_; clear hr; rintro e w2 ⟨rfl, b2⟩; have bx := box_behind (f := ⟨c_, r_, h_, b_, k_, m_, j_, p_, l_, y_⟩) b2; have xs := box_cells bx.1; dsimp only at xs; have HXs : Hid _ := xs; obtain ⟨x0, x1, x2, x3, x4, x5, x6, x7, x8, x9⟩ := xs; have BX : Hid _ := bx; clear bx; have HBw : Hid _ := b2; clear b2)
  go_region_held3 (fun wx => wx.cell? ⟨w.heap.size, 0, none⟩ = some (.int .i64 c_) ∧ wx.cell? ⟨w.heap.size, 1, none⟩ = some (.int .i64 r_) ∧ wx.cell? ⟨w.heap.size, 2, none⟩ = some (.int .i64 h_) ∧ wx.cell? ⟨w.heap.size, 3, none⟩ = some (.int .i64 b_) ∧ wx.cell? ⟨w.heap.size, 4, none⟩ = some (.int .i64 k_) ∧ wx.cell? ⟨w.heap.size, 5, none⟩ = some (.int .i64 m_) ∧ wx.cell? ⟨w.heap.size, 6, none⟩ = some (.int .i64 j_) ∧ wx.cell? ⟨w.heap.size, 7, none⟩ = some (.int .i64 p_) ∧ wx.cell? ⟨w.heap.size, 8, none⟩ = some (.int .i64 l_) ∧ wx.cell? ⟨w.heap.size, 9, none⟩ = some (.int .i64 y_))
    (first | exact HXs.out | exact HYs.out | exact HYs2.out | exact box_cells (f := ⟨c_, r_, h_, b_, k_, m_, j_, p_, l_, y_⟩) (Bank.Blk.alloc HBk.out _))
    (first
      | (go_at_call 13; refine (HN.out w2.drew HBw.out.drew).mono ?_; clear HN; rintro e w3 ⟨rfl, b3, g3⟩; have G3 : Hid (Grid (w2.heap.size + 3) C B n w3) := g3; have C3 : Hid (Below w2.heap.size w2 w3) := of_drew b3; clear b3 g3; have ys := box_cells (blk_below C3.out BX.out.1 BX.out.1.lt); dsimp only at ys; have HYs : Hid _ := ys; clear ys)
      | (go_at_call 14; refine (HBl.out _).mono ?_; clear HBl; rintro e w4 ⟨rfl, b4, g4, s4⟩; have G4 : Hid _ := g4; have C4 : Hid (Below w3.heap.size w3 w4) := b4; have S4 : Hid (w4.heap.size = w3.heap.size + 2 + C) := s4; clear b4 g4 s4; have ys := box_cells (blk_below C4.out (blk_below C3.out BX.out.1 BX.out.1.lt) (Nat.lt_of_lt_of_le BX.out.1.lt C3.out.size)); dsimp only at ys; have HYs2 : Hid _ := ys; clear ys; have HBk : Hid (Blk w4 w.heap.size (fc ⟨c_, r_, h_, b_, k_, m_, j_, p_, l_, y_⟩) 23) := blk_below C4.out (blk_below C3.out BX.out.1 BX.out.1.lt) (Nat.lt_of_lt_of_le BX.out.1.lt C3.out.size)))
  all_goals (

    go_wp2_with (first
      | (go_at_call 15; refine (HFall.out _ _ _ _ (HShr.out w2 w3 w4 BX.out.2 C3.out G3.out C4.out G4.out S4.out)).mono ?_; clear HFall; rintro e w5 ⟨rfl, h5⟩; have H5 : Hid _ := h5; clear h5)
      | (go_at_call 16; refine (HGive.out _ _ _ _ H5.out).mono ?_; clear HGive; rintro e w6 ⟨rfl, h6⟩; have H6 : Hid _ := h6; clear h6)
      | (go_at_call 17; refine (HF1.out _ _ _ _ H6.out).mono ?_; clear HF1; rintro e w7 ⟨rfl, h7⟩; have H7 : Hid _ := h7; clear h7)
      | (go_at_call 17; refine (HF2.out _ _ _ _ H7.out).mono ?_; clear HF2; rintro e w8 ⟨rfl, h8, q8, k8⟩; have H8 : Hid _ := h8; have Q8 : Hid (Below w.heap.size w w8) := q8; clear h8 q8))
    go_ret2
    exact ⟨w3.heap.size + 1, by have := BX.out.2.size; have := C3.out.size; omega, rfl, Q8.out, H8.out⟩)

end Alloc
end Go.Proofs.YthlpbekfjolenaaDoor
