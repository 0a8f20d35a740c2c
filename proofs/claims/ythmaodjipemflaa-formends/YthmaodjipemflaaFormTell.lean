/-
  Samples, Payload, Bits: of a format what the chapter says, of anything else 0. Conditions: none.
-/
import Derived.Test.YthmaodjipemflaaFormCheck
namespace Go.Proofs.Ythmaodjipemflaa
set_option linter.unusedVariables false
open Go.RowKit
namespace Form
open Bank (Blk But)
open Poly (alloc_size)

theorem Check_ok (f : M.Fmt) (w : World) (h : M.okF f) : Calls Try.prog 8 #[fv f] w fun e w' => e = .returned (.int .i64 0) ∧ Below w.heap.size w w' := by
  refine (Check_any f w).mono ?_
  rintro e w' ⟨q, rfl, hb, hq⟩
  obtain rfl : q = true := hq.2 h
  exact ⟨rfl, hb⟩
theorem Check_no (f : M.Fmt) (w : World) (h : ¬ M.okF f) : Calls Try.prog 8 #[fv f] w fun e w' => e = .returned (.int .i64 110) ∧ Below w.heap.size w w' := by
  refine (Check_any f w).mono ?_
  rintro e w' ⟨q, rfl, hb, hq⟩
  obtain rfl : q = false := Bool.eq_false_iff.2 (fun h' => h (hq.1 h'))
  exact ⟨rfl, hb⟩

/-- the cells of a box that holds a format -/
theorem box_cells {w : World} {g : Nat} {f : M.Fmt} (h : Blk w g (fc f) 23) : w.cell? ⟨g, 0, none⟩ = some (.int .i64 f.c) ∧ w.cell? ⟨g, 1, none⟩ = some (.int .i64 f.r) ∧ w.cell? ⟨g, 2, none⟩ = some (.int .i64 f.h) ∧ w.cell? ⟨g, 3, none⟩ = some (.int .i64 f.b) ∧ w.cell? ⟨g, 4, none⟩ = some (.int .i64 f.k) ∧
    w.cell? ⟨g, 5, none⟩ = some (.int .i64 f.m) ∧ w.cell? ⟨g, 6, none⟩ = some (.int .i64 f.j) ∧ w.cell? ⟨g, 7, none⟩ = some (.int .i64 f.p) ∧ w.cell? ⟨g, 8, none⟩ = some (.int .i64 f.l) ∧ w.cell? ⟨g, 9, none⟩ = some (.int .i64 f.y) :=
  ⟨h.cell rfl, h.cell rfl, h.cell rfl, h.cell rfl, h.cell rfl, h.cell rfl, h.cell rfl, h.cell rfl, h.cell rfl, h.cell rfl⟩
/-- a call behind the box leaves the box -/
theorem box_behind {w w2 : World} {f : M.Fmt} (h : Below (w.alloc (.cells (fc f) 23)).heap.size (w.alloc (.cells (fc f) 23)) w2) : Blk w2 w.heap.size (fc f) 23 ∧ Below w.heap.size w w2 :=
  ⟨blk_below h (Blk.new _ _ _) (by simp), (bel1 _ _).trans (h.mono (bel1 _ _).size)⟩

theorem Samples_no (f : M.Fmt) (w : World) (h : ¬ M.okF f) : Calls Try.prog 9 #[fv f] w fun e w' => e = .returned (.int .i64 0) ∧ Below w.heap.size w w' := by
  have hc := fun wx => Check_no f wx h
  clear h
  obtain ⟨c, r, h, b, k, m, j, p, l, y⟩ := f
  unfold fv at hc ⊢
  dsimp only at hc ⊢
  go_enter Try.func9, Try.ntmps9
  go_wp2_with (go_at_call 8; refine (hc _).mono ?_; rintro e w2 ⟨rfl, bel2⟩)
  go_ret
  exact ⟨rfl, (bel1 _ _).trans (bel2.mono (bel1 _ _).size)⟩

theorem Payload_no (f : M.Fmt) (w : World) (h : ¬ M.okF f) : Calls Try.prog 11 #[fv f] w fun e w' => e = .returned (.int .i64 0) ∧ Below w.heap.size w w' := by
  have hc := fun wx => Check_no f wx h
  clear h
  obtain ⟨c, r, h, b, k, m, j, p, l, y⟩ := f
  unfold fv at hc ⊢
  dsimp only at hc ⊢
  go_enter Try.func11, Try.ntmps11
  go_wp2_with (go_at_call 8; refine (hc _).mono ?_; rintro e w2 ⟨rfl, bel2⟩)
  go_ret
  exact ⟨rfl, (bel1 _ _).trans (bel2.mono (bel1 _ _).size)⟩

theorem Bits_no (f : M.Fmt) (w : World) (h : ¬ M.okF f) : Calls Try.prog 10 #[fv f] w fun e w' => e = .returned (.int .i64 0) ∧ Below w.heap.size w w' := by
  have hc := fun wx => Check_no f wx h
  clear h
  obtain ⟨c, r, h, b, k, m, j, p, l, y⟩ := f
  unfold fv at hc ⊢
  dsimp only at hc ⊢
  go_enter Try.func10, Try.ntmps10
  go_wp2_with (go_at_call 8; refine (hc _).mono ?_; rintro e w2 ⟨rfl, bel2⟩)
  go_ret
  exact ⟨rfl, (bel1 _ _).trans (bel2.mono (bel1 _ _).size)⟩

theorem Samples_S (f : M.Fmt) (w : World) (h : M.okS f) : Calls Try.prog 9 #[fv f] w fun e w' => e = .returned (.int .i64 (f.b * f.k)) ∧ Below w.heap.size w w' := by
  have hc := fun wx => Check_ok f wx (.inl h)
  obtain ⟨h1, -, hh, hb, hk, -, -, hp0, -, hp1, -⟩ := id h
  have hx : 0 ≤ f.b * f.k ∧ f.b * f.k ≤ 128 := by rcases hb with h | h <;> rcases hk with h2 | h2 | h2 | h2 <;> rw [h, h2] <;> omega
  clear hb hk hh
  clear h
  obtain ⟨c, r, h, b, k, m, j, p, l, y⟩ := f
  unfold fv at hc ⊢
  dsimp only at hc h1 hx ⊢
  subst h1
  go_enter Try.func9, Try.ntmps9
  go_wp2_with (first
    | (go_at_call 8; refine (hc _).mono ?_; rintro e w2 ⟨rfl, bel2⟩; obtain ⟨hb2, belw⟩ := box_behind (f := ⟨1, r, h, b, k, m, j, p, l, y⟩) bel2; clear bel2; have xs := box_cells hb2; dsimp only at xs; obtain ⟨x0, x1, x2, x3, x4, x5, x6, x7, x8, x9⟩ := xs; clear hb2; clear hc))
  go_ret
  exact ⟨rfl, belw⟩

theorem Samples_L (f : M.Fmt) (w : World) (h : M.okL f) : Calls Try.prog 9 #[fv f] w fun e w' => e = .returned (.int .i64 (f.l)) ∧ Below w.heap.size w w' := by
  have hc := fun wx => Check_ok f wx (.inr h)
  obtain ⟨h1, -, hh, -, -, hy0, hy1⟩ := id h
  clear h
  obtain ⟨c, r, h, b, k, m, j, p, l, y⟩ := f
  unfold fv at hc ⊢
  dsimp only at hc h1 hy0 ⊢
  subst h1
  go_enter Try.func9, Try.ntmps9
  go_wp2_with (first
    | (go_at_call 8; refine (hc _).mono ?_; rintro e w2 ⟨rfl, bel2⟩; obtain ⟨hb2, belw⟩ := box_behind (f := ⟨2, r, h, b, k, m, j, p, l, y⟩) bel2; clear bel2; have xs := box_cells hb2; dsimp only at xs; obtain ⟨x0, x1, x2, x3, x4, x5, x6, x7, x8, x9⟩ := xs; clear hb2; clear hc))
  go_ret
  exact ⟨rfl, belw⟩

theorem Samples_ok (f : M.Fmt) (w : World) (h : M.okF f) : Calls Try.prog 9 #[fv f] w fun e w' => e = .returned (.int .i64 (M.sam f)) ∧ Below w.heap.size w w' := by
  rcases h with h | h
  · rw [show M.sam f = f.b * f.k from if_pos h.1]
    exact Samples_S f w h
  · rw [show M.sam f = f.l from if_neg (by have := h.1; omega)]
    exact Samples_L f w h

theorem Payload_S (f : M.Fmt) (w : World) (h : M.okS f) : Calls Try.prog 11 #[fv f] w fun e w' => e = .returned (.int .i64 ((M.bitS f + 7) / 8)) ∧ Below w.heap.size w w' := by
  have hc := fun wx => Check_ok f wx (.inl h)
  obtain ⟨h1, -, hh, hb, hk, -, -, hp0, -, hp1, -⟩ := id h
  have hd := fun wx => subBytes_any f wx hb hh hk (by omega)
  generalize (M.bitS f + 7) / 8 = V at *
  clear hb hk hh
  clear h
  obtain ⟨c, r, h, b, k, m, j, p, l, y⟩ := f
  unfold fv at hc ⊢
  dsimp only at hc h1 hd ⊢
  subst h1
  go_enter Try.func11, Try.ntmps11
  go_wp2_with (first
    | (go_at_call 8; refine (hc _).mono ?_; rintro e w2 ⟨rfl, bel2⟩; obtain ⟨hb2, belw⟩ := box_behind (f := ⟨1, r, h, b, k, m, j, p, l, y⟩) bel2; clear bel2; have xs := box_cells hb2; dsimp only at xs; obtain ⟨x0, x1, x2, x3, x4, x5, x6, x7, x8, x9⟩ := xs; clear hb2; clear hc)
    | (go_at_call 19; refine (hd _).mono ?_; rintro e w3 ⟨rfl, bel3⟩))
  go_ret
  exact ⟨rfl, belw.trans (bel3.mono belw.size)⟩

theorem Payload_L (f : M.Fmt) (w : World) (h : M.okL f) : Calls Try.prog 11 #[fv f] w fun e w' => e = .returned (.int .i64 (f.y * f.h)) ∧ Below w.heap.size w w' := by
  have hc := fun wx => Check_ok f wx (.inr h)
  obtain ⟨h1, -, hh, -, -, hy0, hy1⟩ := id h
  have hd := fun wx => lapBytes_any f wx hh (by omega)
  generalize f.y * f.h = V at *
  clear hh
  clear h
  obtain ⟨c, r, h, b, k, m, j, p, l, y⟩ := f
  unfold fv at hc ⊢
  dsimp only at hc h1 hd ⊢
  subst h1
  go_enter Try.func11, Try.ntmps11
  go_wp2_with (first
    | (go_at_call 8; refine (hc _).mono ?_; rintro e w2 ⟨rfl, bel2⟩; obtain ⟨hb2, belw⟩ := box_behind (f := ⟨2, r, h, b, k, m, j, p, l, y⟩) bel2; clear bel2; have xs := box_cells hb2; dsimp only at xs; obtain ⟨x0, x1, x2, x3, x4, x5, x6, x7, x8, x9⟩ := xs; clear hb2; clear hc)
    | (go_at_call 20; refine (hd _).mono ?_; rintro e w3 ⟨rfl, bel3⟩))
  go_ret
  exact ⟨rfl, belw.trans (bel3.mono belw.size)⟩

theorem Payload_ok (f : M.Fmt) (w : World) (h : M.okF f) : Calls Try.prog 11 #[fv f] w fun e w' => e = .returned (.int .i64 (M.pay f)) ∧ Below w.heap.size w w' := by
  rcases h with h | h
  · rw [show M.pay f = (M.bitS f + 7) / 8 from if_pos h.1]
    exact Payload_S f w h
  · rw [show M.pay f = f.y * f.h from if_neg (by have := h.1; omega)]
    exact Payload_L f w h

theorem Bits_S (f : M.Fmt) (w : World) (h : M.okS f) : Calls Try.prog 10 #[fv f] w fun e w' => e = .returned (.int .i64 (M.bitS f)) ∧ Below w.heap.size w w' := by
  have hc := fun wx => Check_ok f wx (.inl h)
  obtain ⟨h1, -, hh, hb, hk, -, -, hp0, -, hp1, -⟩ := id h
  have hd := fun wx => subBits_any f wx hb hh hk (by omega)
  generalize M.bitS f = V at *
  clear hb hk hh
  clear h
  obtain ⟨c, r, h, b, k, m, j, p, l, y⟩ := f
  unfold fv at hc ⊢
  dsimp only at hc h1 hd ⊢
  subst h1
  go_enter Try.func10, Try.ntmps10
  go_wp2_with (first
    | (go_at_call 8; refine (hc _).mono ?_; rintro e w2 ⟨rfl, bel2⟩; obtain ⟨hb2, belw⟩ := box_behind (f := ⟨1, r, h, b, k, m, j, p, l, y⟩) bel2; clear bel2; have xs := box_cells hb2; dsimp only at xs; obtain ⟨x0, x1, x2, x3, x4, x5, x6, x7, x8, x9⟩ := xs; clear hb2; clear hc)
    | (go_at_call 18; refine (hd _).mono ?_; rintro e w3 ⟨rfl, bel3⟩))
  go_ret
  exact ⟨rfl, belw.trans (bel3.mono belw.size)⟩

theorem Bits_L (f : M.Fmt) (w : World) (h : M.okL f) : Calls Try.prog 10 #[fv f] w fun e w' => e = .returned (.int .i64 (8 * f.y)) ∧ Below w.heap.size w w' := by
  have hc := fun wx => Check_ok f wx (.inr h)
  obtain ⟨h1, -, hh, -, -, hy0, hy1⟩ := id h
  clear h
  obtain ⟨c, r, h, b, k, m, j, p, l, y⟩ := f
  unfold fv at hc ⊢
  dsimp only at hc h1 hy0 hy1 ⊢
  subst h1
  go_enter Try.func10, Try.ntmps10
  go_wp2_with (first
    | (go_at_call 8; refine (hc _).mono ?_; rintro e w2 ⟨rfl, bel2⟩; obtain ⟨hb2, belw⟩ := box_behind (f := ⟨2, r, h, b, k, m, j, p, l, y⟩) bel2; clear bel2; have xs := box_cells hb2; dsimp only at xs; obtain ⟨x0, x1, x2, x3, x4, x5, x6, x7, x8, x9⟩ := xs; clear hb2; clear hc))
  go_ret
  exact ⟨rfl, belw⟩

theorem Bits_ok (f : M.Fmt) (w : World) (h : M.okF f) : Calls Try.prog 10 #[fv f] w fun e w' => e = .returned (.int .i64 (M.bitF f)) ∧ Below w.heap.size w w' := by
  rcases h with h | h
  · rw [show M.bitF f = M.bitS f from if_pos h.1]
    exact Bits_S f w h
  · rw [show M.bitF f = 8 * f.y from if_neg (by have := h.1; omega)]
    exact Bits_L f w h

end Form
end Go.Proofs.Ythmaodjipemflaa
