/-
  The law AllocShares: its example, its walk. Conditions: the offsets stand as their initialisers lay them.
-/
import Derived.Test.YthlpbekfjolenaaDoorAllocLaws
namespace Go.Proofs.YthlpbekfjolenaaDoor
set_option linter.unusedVariables false
open Go.RowKit
namespace Alloc
open Bank (Blk But)
open Poly (alloc_size enc enc_get cell_keep below_drew)
open _root_.Go.Proofs.YthlpbekfjolenaaDoor.Form (fv fc bel1 blk_below box_cells of_drew box_behind)

/-- the chapter's example -/
abbrev fEx : M.Fmt := ⟨1, 0, 1, 4, 4, 1, 0, 8, 0, 0⟩
abbrev zEx : List (List Int) := [[3, 0, 0, 0]]
theorem okEx : M.okS fEx := by unfold M.okS; decide
theorem goodEx : Good fEx zEx 1 4 0 := ⟨okEx, rfl, rfl, rfl, rfl, by unfold M.okZ; decide⟩
theorem lstEx : M.lst (M.nd 1 1 4 0 zEx) (4 * 1) 8 (-1) := by unfold M.lst; decide
theorem shrEx : M.shr (M.nd 1 1 4 0 zEx) (4 * 1) 8 (-1) 0 = 6 ∧ M.shr (M.nd 1 1 4 0 zEx) (4 * 1) 8 (-1) 1 = 2 ∧ M.shr (M.nd 1 1 4 0 zEx) (4 * 1) 8 (-1) 2 = 0 := by decide
theorem errEx : Errs 1 fEx [] := .inr ⟨okEx, by simp, rfl⟩
theorem rowsEx (w : World) : Poly.Rows .i64 0 (w.heap.size + 2) ((w.alloc (.cells #[.int .i64 3, .int .i64 0, .int .i64 0, .int .i64 0] 3)).alloc (.cells #[.slice (some ⟨w.heap.size, 0, none⟩) 4 4] 32)) (.slice (some ⟨w.heap.size + 1, 0, none⟩) 1 1) zEx := by
  have q0 : Blk ((w.alloc (.cells #[.int .i64 3, .int .i64 0, .int .i64 0, .int .i64 0] 3)).alloc (.cells #[.slice (some ⟨w.heap.size, 0, none⟩) 4 4] 32)) w.heap.size #[.int .i64 3, .int .i64 0, .int .i64 0, .int .i64 0] 3 := (Blk.new w _ _).alloc _
  have q1 : Blk ((w.alloc (.cells #[.int .i64 3, .int .i64 0, .int .i64 0, .int .i64 0] 3)).alloc (.cells #[.slice (some ⟨w.heap.size, 0, none⟩) 4 4] 32)) (w.heap.size + 1) #[.slice (some ⟨w.heap.size, 0, none⟩) 4 4] 32 := by
    rw [← alloc_size w (.cells #[.int .i64 3, .int .i64 0, .int .i64 0, .int .i64 0] 3)]; exact Blk.new _ _ _
  refine ⟨_, 1, rfl, Nat.le_refl _, .inr ⟨w.heap.size + 1, 0, rfl, Nat.zero_le _, by omega, fun i hi => ?_⟩⟩
  obtain rfl : i = 0 := by simp at hi; omega
  refine ⟨_, q1.cell rfl, _, 4, rfl, Nat.le_refl _, by decide, .inr ⟨w.heap.size, 0, rfl, Nat.zero_le _, by omega, fun j hj => ?_⟩⟩
  rcases (by simp at hj; omega : j = 0 ∨ j = 1 ∨ j = 2 ∨ j = 3) with rfl | rfl | rfl | rfl
  all_goals exact q0.cell rfl

set_option maxHeartbeats 1000000 in
theorem alive_any (w : World) (hT : Tabs w) : Calls Tryd.prog 4 #[] w fun e w' => e = .returned (.bool true) ∧ Below w.heap.size w w' := by
  obtain ⟨W1, hW1⟩ : ∃ W1, W1 = w.alloc (.cells (fc fEx) 23) := ⟨_, rfl⟩
  obtain ⟨W3, hW3⟩ : ∃ W3, W3 = (W1.alloc (.cells #[.int .i64 3, .int .i64 0, .int .i64 0, .int .i64 0] 3)).alloc (.cells #[.slice (some ⟨W1.heap.size, 0, none⟩) 4 4] 32) := ⟨_, rfl⟩
  have s1 : W1.heap.size = w.heap.size + 1 := by rw [hW1, alloc_size]
  have s3 : W3.heap.size = W1.heap.size + 2 := by rw [hW3, alloc_size, alloc_size]
  have b1 : Below w.heap.size w W1 := by rw [hW1]; exact bel1 _ _
  have b3 : Below W1.heap.size W1 W3 := by rw [hW3]; exact (bel1 _ _).alloc (bel1 _ _).size _
  have bx : Blk W1 w.heap.size (fc fEx) 23 := by rw [hW1]; exact Blk.new _ _ _
  have hr : Poly.Rows .i64 0 W3.heap.size W3 (.slice (some ⟨W1.heap.size + 1, 0, none⟩) 1 1) zEx := by rw [s3, hW3]; exact rowsEx W1
  have hsh := Share_ok fEx _ zEx 1 4 0 W3 ((hT.below b1 (Nat.le_refl _)).below b3 (Nat.le_refl _)) goodEx hr (sl := -1) lstEx (by omega)
  have her := fun wx => Share_err 1 fEx (.slice none 0 0) [] wx errEx ⟨none, 0, rfl, Nat.le_refl _, .inl rfl⟩
  have HB : Hid (∀ w4, Below W3.heap.size W3 w4 → Below w.heap.size w w4 ∧ Blk w4 w.heap.size (fc fEx) 23) := fun w4 h => by
    have h4 : Below W1.heap.size W1 w4 := b3.trans (h.mono (by omega))
    exact ⟨b1.trans (h4.mono (by omega)), blk_below h4 bx (by omega)⟩
  have hE : Hid (∀ a wx, Grid a 1 4 (M.shr (M.nd 1 1 4 0 zEx) (4 * 1) 8 (-1)) wx → wx.cell? ⟨a, 0, none⟩ = some (.slice (some ⟨a + 1, 0, none⟩) 4 4) ∧ wx.cell? ⟨a + 1, 0, none⟩ = some (.int .i64 6) ∧ wx.cell? ⟨a + 1, 1, none⟩ = some (.int .i64 2) ∧ wx.cell? ⟨a + 1, 2, none⟩ = some (.int .i64 0)) := fun a wx h => by
    obtain ⟨e0, e1, e2⟩ := shrEx
    have h0 := h.at (c := 0) (b := 0) (by omega) (by omega)
    have h1 := h.at (c := 0) (b := 1) (by omega) (by omega)
    have h2 := h.at (c := 0) (b := 2) (by omega) (by omega)
    rw [show 0 * 1 + 0 = 0 from rfl, e0] at h0
    rw [show 1 * 1 + 0 = 1 from rfl, e1] at h1
    rw [show 2 * 1 + 0 = 2 from rfl, e2] at h2
    exact ⟨h.at_head (by omega), h0, h1, h2⟩
  clear b1 b3 bx hr s3 hT
  change Calls _ _ #[fv fEx, _] _ fun e w' => Grids W3 1 4 (M.shr (M.nd 1 1 4 0 zEx) (4 * 1) 8 (-1)) e w' at hsh
  generalize M.shr (M.nd 1 1 4 0 zEx) (4 * 1) 8 (-1) = S at *
  have HW : Hid (W1.heap.size = w.heap.size + 1) := s1
  rw [s1] at hsh hW3
  clear s1
  subst hW3
  subst hW1
  unfold fv at hsh her
  unfold fc at hsh HB
  dsimp only [fEx] at hsh her HB
  go_enter Tryd.func4, Tryd.ntmps4
  go_wp2_with (first
    | (go_at_call 7; refine hsh.mono ?_; clear hsh; rintro e w4 ⟨a, ha, rfl, b4, g4⟩; have xs := box_cells (f := fEx) (HB.out w4 b4).2; dsimp only [fEx] at xs; obtain ⟨x0, x1, x2, x3, x4, x5, x6, x7, x8, x9⟩ := xs; have B4 : Hid (Below w.heap.size w w4) := (HB.out w4 b4).1; have G4 : Hid _ := g4; clear b4 g4 HB ha)
    | (go_at_call 7; refine (her _).mono ?_; clear her; rintro e w5 ⟨rfl, b5⟩; obtain ⟨y0, y1, y2, y3⟩ := hE.out a w5 (Grid.grow G4.out b5); have B5 : Hid _ := b5; clear b5 hE G4))
  go_ret
  exact ⟨rfl, B4.out.trans (B5.out.mono B4.out.size)⟩

end Alloc
end Go.Proofs.YthlpbekfjolenaaDoor
