/-
  Contracts of package alloc: Needs and Share. Conditions: as told at each; the offsets stand as their initialisers lay them.
-/
import Derived.Test.YthlpbekfjolenaaDoorAllocAsk
namespace Go.Proofs.YthlpbekfjolenaaDoor
set_option linter.unusedVariables false
open Go.RowKit
namespace Alloc
open Bank (Blk But)
open Poly (alloc_size enc cell_keep below_drew)
open _root_.Go.Proofs.YthlpbekfjolenaaDoor.Form (fv fc bel1 blk_below box_cells of_drew box_behind)

/-- what scales are refused with -/
def Errs (E : Int) (f : M.Fmt) (zss : List (List Int)) : Prop := (¬ M.okS f ∧ E = 110) ∨ (M.okS f ∧ ¬ ((zss.length : Int) = f.h ∧ M.okZ f.b.toNat zss) ∧ E = 1)
/-- scales that are some of a format -/
structure Good (f : M.Fmt) (zss : List (List Int)) (C B r : Nat) : Prop where
  ok : M.okS f
  hC : f.h = C
  hB : f.b = B
  hr : f.r = r
  len : zss.length = C
  sca : M.okZ B zss
theorem good_or (f : M.Fmt) (zss : List (List Int)) : (∃ E, Errs E f zss) ∨ ∃ C B r, Good f zss C B r := by
  by_cases h : M.okS f
  · have h1 := h.2.1; have h2 := h.2.2.1; have h3 := h.2.2.2.1
    by_cases hz : (zss.length : Int) = f.h ∧ M.okZ f.b.toNat zss
    · exact .inr ⟨f.h.toNat, f.b.toNat, f.r.toNat, ⟨h, by omega, by omega, by omega, by have := hz.1; omega, hz.2⟩⟩
    · exact .inl ⟨1, .inr ⟨h, hz, rfl⟩⟩
  · exact .inl ⟨110, .inl ⟨h, rfl⟩⟩
theorem Good.c2 {f : M.Fmt} {zss : List (List Int)} {C B r : Nat} (h : Good f zss C B r) : 1 ≤ C ∧ C ≤ 2 := by have := h.ok.2.2.1; have := h.hC; omega
theorem Good.b8 {f : M.Fmt} {zss : List (List Int)} {C B r : Nat} (h : Good f zss C B r) : B = 4 ∨ B = 8 := by have := h.ok.2.2.2.1; have := h.hB; omega
theorem Good.r3 {f : M.Fmt} {zss : List (List Int)} {C B r : Nat} (h : Good f zss C B r) : r ≤ 3 := by have := h.ok.2.1; have := h.hr; omega

theorem refuse_ok (f : M.Fmt) (vs : Value) (zss : List (List Int)) (C B r : Nat) (w : World) (h : Good f zss C B r) (hZ : Poly.Rows .i64 0 w.heap.size w vs zss) :
    Calls Tryd.prog 12 #[fv f, vs] w fun e w' => e = .returned (.int .i64 0) ∧ Below w.heap.size w w' := by
  refine (refuse_rest f vs zss C B w h.ok h.hC h.hB hZ).mono ?_
  rintro e w' ⟨hb, ⟨he, _⟩ | ⟨_, hn⟩⟩
  · exact ⟨he, hb⟩
  · exact absurd ⟨h.len, h.sca⟩ hn
theorem refuse_err (E : Int) (f : M.Fmt) (vs : Value) (zss : List (List Int)) (w : World) (h : Errs E f zss) (hZ : Poly.Rows .i64 0 w.heap.size w vs zss) :
    Calls Tryd.prog 12 #[fv f, vs] w fun e w' => e = .returned (.int .i64 E) ∧ Below w.heap.size w w' := by
  rcases h with ⟨h, rfl⟩ | ⟨h, hn, rfl⟩
  · exact refuse_form f vs w h
  · have h2 := h.2.2.1; have h3 := h.2.2.2.1
    refine (refuse_rest f vs zss f.h.toNat f.b.toNat w h (by omega) (by omega) hZ).mono ?_
    rintro e w' ⟨hb, ⟨_, h1⟩ | ⟨he, _⟩⟩
    · exact absurd ⟨by have := h1.1; omega, h1.2⟩ hn
    · exact ⟨he, hb⟩
theorem Errs.val {E : Int} {f : M.Fmt} {zss : List (List Int)} (h : Errs E f zss) : E = 110 ∨ E = 1 := by
  rcases h with ⟨_, h⟩ | ⟨_, _, h⟩
  · exact .inl h
  · exact .inr h

theorem Needs_err (E : Int) (f : M.Fmt) (vs : Value) (zss : List (List Int)) (w : World) (h : Errs E f zss) (hZ : Poly.Rows .i64 0 w.heap.size w vs zss) :
    Calls Tryd.prog 6 #[fv f, vs] w fun e w' => e = .returned (.tuple #[.slice none 0 0, .int .i64 E]) ∧ Below w.heap.size w w' := by
  have hr := refuse_err E f vs zss (w.alloc (.cells (fc f) 23)) h (by rw [alloc_size]; exact (hZ.below (bel1 w _) (Nat.le_refl _)).mono (Nat.le_refl _) (by omega))
  have hE := h.val
  obtain ⟨a, c, rfl, _⟩ := hZ.form
  clear h hZ
  obtain ⟨c_, r_, h_, b_, k_, m_, j_, p_, l_, y_⟩ := f
  unfold fv at hr ⊢
  unfold fc at hr
  dsimp only at hr ⊢
  rcases hE with rfl | rfl
  all_goals (
    go_enter Tryd.func6, Tryd.ntmps6
    go_wp2_with (go_at_call 12; refine hr.mono ?_; clear hr; rintro e w2 ⟨rfl, b2⟩; have B2 : Hid _ := b2; clear b2)
    go_ret2
    exact ⟨rfl, (box_behind (f := ⟨c_, r_, h_, b_, k_, m_, j_, p_, l_, y_⟩) B2.out).2⟩)

theorem Share_err (E : Int) (f : M.Fmt) (vs : Value) (zss : List (List Int)) (w : World) (h : Errs E f zss) (hZ : Poly.Rows .i64 0 w.heap.size w vs zss) :
    Calls Tryd.prog 7 #[fv f, vs] w fun e w' => e = .returned (.tuple #[.slice none 0 0, .int .i64 E]) ∧ Below w.heap.size w w' := by
  have hr := refuse_err E f vs zss (w.alloc (.cells (fc f) 23)) h (by rw [alloc_size]; exact (hZ.below (bel1 w _) (Nat.le_refl _)).mono (Nat.le_refl _) (by omega))
  have hE := h.val
  obtain ⟨a, c, rfl, _⟩ := hZ.form
  clear h hZ
  obtain ⟨c_, r_, h_, b_, k_, m_, j_, p_, l_, y_⟩ := f
  unfold fv at hr ⊢
  unfold fc at hr
  dsimp only at hr ⊢
  rcases hE with rfl | rfl
  all_goals (
    go_enter Tryd.func7, Tryd.ntmps7
    go_wp2_with (go_at_call 12; refine hr.mono ?_; clear hr; rintro e w2 ⟨rfl, b2⟩; have B2 : Hid _ := b2; clear b2)
    go_ret2
    exact ⟨rfl, (box_behind (f := ⟨c_, r_, h_, b_, k_, m_, j_, p_, l_, y_⟩) B2.out).2⟩)

/-- an answer that tells F of C channels and B bands, in new memory -/
def Grids (W : World) (C B : Nat) (F : Nat → Int) (e : Ending) (w' : World) : Prop := ∃ a, W.heap.size ≤ a ∧ e = .returned (.tuple #[.slice (some ⟨a, 0, none⟩) C C, .int .i64 0]) ∧ Below W.heap.size W w' ∧ Grid a C B F w'

theorem Needs_ok (f : M.Fmt) (vs : Value) (zss : List (List Int)) (C B r : Nat) (w : World) (hT : Tabs w) (h : Good f zss C B r) (hZ : Poly.Rows .i64 0 w.heap.size w vs zss) :
    Calls Tryd.prog 6 #[fv f, vs] w fun e w' => Grids w C B (M.nd f.m C B r zss) e w' := by
  have hZ1 : Poly.Rows .i64 0 (w.alloc (.cells (fc f) 23)).heap.size (w.alloc (.cells (fc f) 23)) vs zss := by rw [alloc_size]; exact (hZ.below (bel1 w _) (Nat.le_refl _)).mono (Nat.le_refl _) (by omega)
  have hr := refuse_ok f vs zss C B r (w.alloc (.cells (fc f) 23)) h hZ1
  have hT1 : Tabs (w.alloc (.cells (fc f) 23)) := hT.below (bel1 _ _) (Nat.le_refl _)
  have hn : ∀ w2, Below (w.alloc (.cells (fc f) 23)).heap.size (w.alloc (.cells (fc f) 23)) w2 → Calls Tryd.prog 13 #[fv f, vs] w2 fun e w' => e = .returned (.slice (some ⟨w2.heap.size + 3, 0, none⟩) C C) ∧ Below w2.heap.size w2 w' ∧ Grid (w2.heap.size + 3) C B (M.nd f.m C B r zss) w' :=
    fun w2 hb => needsOf_any f vs zss C B r w2 (hT1.below hb (Nat.le_refl _)) ((hZ1.below hb (Nat.le_refl _)).mono (Nat.le_refl _) hb.size) h.len h.sca h.b8 h.hC h.hB h.hr h.r3 h.ok.2.2.2.2.2.1 h.c2.2
  obtain ⟨a, c, rfl, _⟩ := hZ.form
  have HN : Hid _ := hn
  clear h hZ hn hT hT1 hZ1
  generalize M.nd f.m C B r zss = n at *
  obtain ⟨c_, r_, h_, b_, k_, m_, j_, p_, l_, y_⟩ := f
  unfold fv at hr HN ⊢
  unfold fc at hr HN
  dsimp only at hr HN ⊢
  go_enter Tryd.func6, Tryd.ntmps6
  go_wp2_with (first
    | (go_at_call 12; refine hr.mono ?_; clear hr; rintro e w2 ⟨rfl, b2⟩; have xs := box_cells (box_behind (f := ⟨c_, r_, h_, b_, k_, m_, j_, p_, l_, y_⟩) b2).1; dsimp only at xs; obtain ⟨x0, x1, x2, x3, x4, x5, x6, x7, x8, x9⟩ := xs; have B2 : Hid _ := b2; clear b2)
    | (go_at_call 13; refine (HN.out w2 B2.out).mono ?_; clear HN; rintro e w3 ⟨rfl, b3, g3⟩; have B3 : Hid (Below w2.heap.size w2 w3) := b3; have G3 : Hid (Grid (w2.heap.size + 3) C B n w3) := g3; clear b3 g3))
  go_ret2
  have bb := (box_behind (f := ⟨c_, r_, h_, b_, k_, m_, j_, p_, l_, y_⟩) B2.out).2
  exact ⟨w2.heap.size + 3, by have := bb.size; omega, rfl, bb.trans (B3.out.mono bb.size), G3.out⟩

theorem Good.np {f : M.Fmt} {zss : List (List Int)} {C B r : Nat} (h : Good f zss C B r) : 2 ≤ f.p ∧ f.p ≤ 16 * ((B * C : Nat) : Int) ∧ f.p ≤ 250 := by
  obtain ⟨_, _, _, _, _, _, _, h1, h2, h3, _⟩ := h.ok
  have hC := h.hC; have hB := h.hB
  refine ⟨h1, ?_, h3⟩
  rw [hC, hB] at h2
  rw [Int.natCast_mul, ← Int.mul_assoc]; exact h2
/-- the last slice of good scales -/
theorem Good.lst {f : M.Fmt} {zss : List (List Int)} {C B r : Nat} (h : Good f zss C B r) : ∃ sl, M.lst (M.nd f.m C B r zss) (B * C) f.p sl ∧ -21 < sl ∧ sl ≤ 16 := by
  have hn := M.nd_bd (m := f.m) (C := C) (r := r) h.sca
  have hp := h.np
  have mb := M.mx_bd (M.nd f.m C B r zss) (B * C) (fun j _ => (hn j).2)
  have ht := M.mx_top (M.nd f.m C B r zss) (B * C) (M.mx (M.nd f.m C B r zss) (B * C) + 1) (by omega)
  obtain ⟨s, h1, h2, h3⟩ := M.lst_is (fun j _ => (hn j).1) (by omega) hp.2.1 _ (by rw [ht]; omega)
  exact ⟨s, h1, h2, by omega⟩

end Alloc
end Go.Proofs.YthlpbekfjolenaaDoor
