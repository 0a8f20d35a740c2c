import Derived.Test.YtcaifpjbjghhaaaGreatDoorSubA37
/-
  Contract of Parse, the walk. Conditions: as told at each.
-/
namespace Go.Proofs.YtcaifpjbjghhaaaGreatDoor
set_option linter.unusedVariables false
open Go.RowKit Go.Shelf
namespace Sub
open Bank (Blk)
open Byt (Given)
open Poly (Reads cell_keep alloc_size)
open _root_.Go.Proofs.YtcaifpjbjghhaaaGreatDoor.Form (fv fc bel1 Says box_cells box_behind blk_below of_drew)

/-- the box of an answer, no list in it -/
def nil3 : Array Value := #[.slice none 0 0, .slice none 0 0, .slice none 0 0]
/-- an answer's box is filled, and told -/
theorem ans_box {w W1 F : World} {a b c x y z : Value} (hb : Below w.heap.size w W1) (hk : Below W1.heap.size W1 F) (hs : W1.heap.size = w.heap.size + 2) (h : Blk F (w.heap.size + 1) #[a, b, c] 33) :
    Below w.heap.size w (((F.setCell ⟨w.heap.size + 1, 0, none⟩ x).setCell ⟨w.heap.size + 1, 1, none⟩ y).setCell ⟨w.heap.size + 1, 2, none⟩ z) ∧
    (((F.setCell ⟨w.heap.size + 1, 0, none⟩ x).setCell ⟨w.heap.size + 1, 1, none⟩ y).setCell ⟨w.heap.size + 1, 2, none⟩ z).cell? ⟨w.heap.size + 1, 0, none⟩ = some x ∧ (((F.setCell ⟨w.heap.size + 1, 0, none⟩ x).setCell ⟨w.heap.size + 1, 1, none⟩ y).setCell ⟨w.heap.size + 1, 2, none⟩ z).cell? ⟨w.heap.size + 1, 1, none⟩ = some y ∧ (((F.setCell ⟨w.heap.size + 1, 0, none⟩ x).setCell ⟨w.heap.size + 1, 1, none⟩ y).setCell ⟨w.heap.size + 1, 2, none⟩ z).cell? ⟨w.heap.size + 1, 2, none⟩ = some z := by
  have g : Blk (((F.setCell ⟨w.heap.size + 1, 0, none⟩ x).setCell ⟨w.heap.size + 1, 1, none⟩ y).setCell ⟨w.heap.size + 1, 2, none⟩ z) (w.heap.size + 1) #[x, y, z] 33 := ((h.set 0 x).set 1 y).set 2 z
  refine ⟨?_, g.cell rfl, g.cell rfl, g.cell rfl⟩
  have h1 := hb.trans (hk.mono hb.size)
  exact ((h1.trans (set_below (by show w.heap.size ≤ w.heap.size + 1; omega) x)).trans (set_below (by show w.heap.size ≤ w.heap.size + 1; omega) y)).trans (set_below (by show w.heap.size ≤ w.heap.size + 1; omega) z)

theorem Got.less {aj az ac E B C N lo lo' : Nat} {pf : Nat → Nat} {m : Nb} {w : World} (h : Got aj az ac E B C N pf m lo w) (hl : lo' ≤ lo) : Got aj az ac E B C N pf m lo' w := ⟨h.ap, h.made, by have := h.lo; omega, h.hi⟩

set_option maxRecDepth 100000 in
set_option maxHeartbeats 1000000 in
theorem Parse_form (f : M.Fmt) (vb : Value) (hv : ∃ a l c, vb = .slice a l c) (w : World) (h : ¬ M.okS f) : Calls Tryz.prog 24 #[fv f, vb] w fun e w' => e = .returned (.tuple #[nilP, .int .i64 110]) ∧ Below w.heap.size w w' := by
  obtain ⟨va, vl, vc, rfl⟩ := hv
  obtain ⟨W1, hW1⟩ : ∃ W1, (w.alloc (.cells (fc f) 23)).alloc (.cells #[.slice none 0 0, .slice none 0 0, .slice none 0 0] 33) = W1 := ⟨_, rfl⟩
  have bel : Below w.heap.size w W1 := by rw [← hW1]; exact (bel1 _ _).alloc (bel1 _ _).size _
  have hs1 : W1.heap.size = w.heap.size + 2 := by rw [← hW1]; simp
  have hf1 : Blk W1 w.heap.size (fc f) 23 := by rw [← hW1]; exact (Blk.new w _ _).alloc _
  have hp1 : Blk W1 (w.heap.size + 1) #[.slice none 0 0, .slice none 0 0, .slice none 0 0] 33 := by
    rw [← hW1]
    have := Blk.new (w.alloc (.cells (fc f) 23)) #[.slice none 0 0, .slice none 0 0, .slice none 0 0] 33
    rw [alloc_size] at this
    exact this
  obtain ⟨x0, x1, x2, x3, x4, x5, x6, x7, x8, x9⟩ := box_cells hf1
  have h1 : Calls Tryz.prog 42 #[fv f] W1 fun e w' => e = .returned (.bool false) ∧ Below W1.heap.size W1 w' := (isSub_any f W1).mono fun e w' ⟨q, he, hb, hq⟩ => ⟨by rw [he, Bool.eq_false_iff.2 fun e => h (hq.1 e)], hb⟩
  have HA : Hid (∀ wx, Below W1.heap.size W1 wx → Blk wx (w.heap.size + 1) #[.slice none 0 0, .slice none 0 0, .slice none 0 0] 33) := fun wx hb => blk_below hb hp1 hp1.lt
  have HB : Hid (Below w.heap.size w W1) := bel
  clear bel hf1 hp1 h
  unfold nilP pa
  obtain ⟨c_, r_, h_, b_, k_, m_, j_, p_, l_, y_⟩ := f
  unfold fv at h1 ⊢
  unfold fc at hW1
  dsimp only at h1 hW1 x0 x1 x2 x3 x4 x5 x6 x7 x8 x9 ⊢
  go_enter Tryz.func24, Tryz.ntmps24
  go_wp2_with (go_at_call 42; refine h1.mono ?_; clear h1; rintro e w2 ⟨rfl, b2⟩; have k := HA.out w2 b2; have t0 := k.cell (o := 0) (v := .slice none 0 0) rfl; have t1 := k.cell (o := 1) (v := .slice none 0 0) rfl; have t2 := k.cell (o := 2) (v := .slice none 0 0) rfl; have f0 := k.free 0; have f1 := k.free 1; have f2 := k.free 2; have B2 : Hid (Below W1.heap.size W1 w2) := b2; clear b2 k)
  obtain ⟨bb, d0, d1, d2⟩ := ans_box (x := .slice none 0 0) (y := .slice none 0 0) (z := .slice none 0 0) HB.out B2.out hs1 (HA.out w2 B2.out)
  refine bodyPost_ret (v := .tuple #[.agg #[.slice none 0 0, .slice none 0 0, .slice none 0 0], .int .i64 110]) (by simp [results, Tryz.results24, go_sem, d0, d1, d2]) rfl ?_
  exact ⟨rfl, bb⟩

set_option maxRecDepth 100000 in
set_option maxHeartbeats 1000000 in
theorem Parse_len (f : M.Fmt) (va : Option Addr) (vl vc : Nat) (w : World) (h : M.okS f) (hl : ¬ ((vl : Int) = M.pay f)) (hl2 : vl ≤ 9223372036854775807) : Calls Tryz.prog 24 #[fv f, .slice va vl vc] w fun e w' => e = .returned (.tuple #[nilP, .int .i64 140]) ∧ Below w.heap.size w w' := by
  obtain ⟨W1, hW1⟩ : ∃ W1, (w.alloc (.cells (fc f) 23)).alloc (.cells #[.slice none 0 0, .slice none 0 0, .slice none 0 0] 33) = W1 := ⟨_, rfl⟩
  have bel : Below w.heap.size w W1 := by rw [← hW1]; exact (bel1 _ _).alloc (bel1 _ _).size _
  have hs1 : W1.heap.size = w.heap.size + 2 := by rw [← hW1]; simp
  have hf1 : Blk W1 w.heap.size (fc f) 23 := by rw [← hW1]; exact (Blk.new w _ _).alloc _
  have hp1 : Blk W1 (w.heap.size + 1) #[.slice none 0 0, .slice none 0 0, .slice none 0 0] 33 := by
    rw [← hW1]
    have := Blk.new (w.alloc (.cells (fc f) 23)) #[.slice none 0 0, .slice none 0 0, .slice none 0 0] 33
    rw [alloc_size] at this
    exact this
  obtain ⟨x0, x1, x2, x3, x4, x5, x6, x7, x8, x9⟩ := box_cells hf1
  have h1 : Calls Tryz.prog 42 #[fv f] W1 fun e w' => e = .returned (.bool true) ∧ Below W1.heap.size W1 w' := (isSub_any f W1).mono fun e w' ⟨q, he, hb, hq⟩ => ⟨by rw [he, hq.2 h], hb⟩
  have h2 : ∀ wx, Below W1.heap.size W1 wx → Calls Tryz.prog 69 #[fv f] wx fun e w' => e = .returned (.int .i64 (M.pay f)) ∧ Below W1.heap.size W1 w' := fun wx hb => (Form.Payload_ok f wx (.inl h)).mono fun e w' ⟨he, hb'⟩ => ⟨he, hb.trans (hb'.mono hb.size)⟩
  have H2 : Hid _ := h2
  have HX : Hid (Blk W1 w.heap.size (fc f) 23) := hf1
  have t9 : ((vl : Int) == M.pay f) = false := by simpa using hl
  have t10 : ((vl : Int) != M.pay f) = true := by simpa using hl
  generalize M.pay f = PY at *
  have HA : Hid (∀ wx, Below W1.heap.size W1 wx → Blk wx (w.heap.size + 1) #[.slice none 0 0, .slice none 0 0, .slice none 0 0] 33) := fun wx hb => blk_below hb hp1 hp1.lt
  have HB : Hid (Below w.heap.size w W1) := bel
  clear bel hf1 hp1 h h2 hl
  unfold nilP pa
  obtain ⟨c_, r_, h_, b_, k_, m_, j_, p_, l_, y_⟩ := f
  unfold fv at h1 H2 ⊢
  unfold fc at hW1
  unfold fc at HX
  dsimp only at h1 H2 HX hW1 x0 x1 x2 x3 x4 x5 x6 x7 x8 x9 ⊢
  go_enter Tryz.func24, Tryz.ntmps24
  go_wp2_with (first
    | (go_at_call 42; refine h1.mono ?_; clear h1; rintro e w2 ⟨rfl, b2⟩; have k := HA.out w2 b2; have t0 := k.cell (o := 0) (v := .slice none 0 0) rfl; have t1 := k.cell (o := 1) (v := .slice none 0 0) rfl; have t2 := k.cell (o := 2) (v := .slice none 0 0) rfl; have f0 := k.free 0; have f1 := k.free 1; have f2 := k.free 2; have h2 := H2.out w2 b2; clear H2; clear x0 x1 x2 x3 x4 x5 x6 x7 x8 x9; obtain ⟨x0, x1, x2, x3, x4, x5, x6, x7, x8, x9⟩ := box_cells (f := ⟨c_, r_, h_, b_, k_, m_, j_, p_, l_, y_⟩) (blk_below b2 HX.out (Blk.lt HX.out)); clear b2 k)
    | (go_at_call 69; refine h2.mono ?_; clear h2; rintro e w3 ⟨rfl, b3⟩; clear t0 t1 t2 f0 f1 f2; have k := HA.out w3 b3; have t0 := k.cell (o := 0) (v := .slice none 0 0) rfl; have t1 := k.cell (o := 1) (v := .slice none 0 0) rfl; have t2 := k.cell (o := 2) (v := .slice none 0 0) rfl; have f0 := k.free 0; have f1 := k.free 1; have f2 := k.free 2; have B2 : Hid (Below W1.heap.size W1 w3) := b3; clear b3 k))
  obtain ⟨bb, d0, d1, d2⟩ := ans_box (x := .slice none 0 0) (y := .slice none 0 0) (z := .slice none 0 0) HB.out B2.out hs1 (HA.out w3 B2.out)
  refine bodyPost_ret (v := .tuple #[.agg #[.slice none 0 0, .slice none 0 0, .slice none 0 0], .int .i64 140]) (by simp [results, Tryz.results24, go_sem, d0, d1, d2]) rfl ?_
  exact ⟨rfl, bb⟩

set_option maxRecDepth 100000 in
set_option maxHeartbeats 4000000 in
theorem Parse_any (f : M.Fmt) (C B N r n : Nat) (vb : Value) (xs : List Nat) (sl : Int) (w : World) (hT : Alloc.Tabs w) (hF : Sb f C B N r) (hS : Sh f C B r (psc f C B xs) sl) (hb : Given w vb xs) (hl : xs.length = n) (hn : M.pay f = n) :
    Calls Tryz.prog 24 #[fv f, vb] w fun e w' => Below w.heap.size w w' ∧
      ((isF f C B N r sl xs ∧ ∃ aj az ac E pf, e = .returned (.tuple #[pa (.slice (some ⟨aj, 0, none⟩) B B) (.slice (some ⟨az, 0, none⟩) C C) (.slice (some ⟨ac, 0, none⟩) N N), .int .i64 0]) ∧ Got aj az ac E B C N pf (pnb f C B N r sl xs) w.heap.size w') ∨ (¬ isF f C B N r sl xs ∧ e = .returned (.tuple #[nilP, .int .i64 140]))) := by
  obtain ⟨va, vc, rfl, hvc⟩ := hb.form
  obtain ⟨W1, hW1⟩ : ∃ W1, (w.alloc (.cells (fc f) 23)).alloc (.cells #[.slice none 0 0, .slice none 0 0, .slice none 0 0] 33) = W1 := ⟨_, rfl⟩
  have bel : Below w.heap.size w W1 := by rw [← hW1]; exact (bel1 _ _).alloc (bel1 _ _).size _
  have hs1 : W1.heap.size = w.heap.size + 2 := by rw [← hW1]; simp
  have hf1 : Blk W1 w.heap.size (fc f) 23 := by rw [← hW1]; exact (Blk.new w _ _).alloc _
  have hp1 : Blk W1 (w.heap.size + 1) #[.slice none 0 0, .slice none 0 0, .slice none 0 0] 33 := by
    rw [← hW1]
    have := Blk.new (w.alloc (.cells (fc f) 23)) #[.slice none 0 0, .slice none 0 0, .slice none 0 0] 33
    rw [alloc_size] at this
    exact this
  obtain ⟨x0, x1, x2, x3, x4, x5, x6, x7, x8, x9⟩ := box_cells hf1
  have h1 : Calls Tryz.prog 42 #[fv f] W1 fun e w' => e = .returned (.bool true) ∧ Below W1.heap.size W1 w' := (isSub_any f W1).mono fun e w' ⟨q, he, hb, hq⟩ => ⟨by rw [he, hq.2 hF.ok], hb⟩
  have h2 : ∀ wx, Below W1.heap.size W1 wx → Calls Tryz.prog 69 #[fv f] wx fun e w' => e = .returned (.int .i64 (xs.length : Int)) ∧ Below W1.heap.size W1 w' := fun wx hb => (Form.Payload_ok f wx (.inl hF.ok)).mono fun e w' ⟨he, hb'⟩ => ⟨by rw [he, hn, hl], hb.trans (hb'.mono hb.size)⟩
  have h3 := fun wx (hbx : Below W1.heap.size W1 wx) => parse_steps f C B N r n _ xs sl w wx hT hF hS hb hl hn (bel.trans (hbx.mono bel.size))
  have heq := fun (u v : Value) ys w hu hv => Byt.equal_any u v ys xs w hu hv
  have H2 : Hid _ := h2
  have H3 : Hid _ := h3
  have HE : Hid _ := heq
  have HX : Hid (Blk W1 w.heap.size (fc f) 23) := hf1
  have HA : Hid (∀ wx, Below W1.heap.size W1 wx → Blk wx (w.heap.size + 1) #[.slice none 0 0, .slice none 0 0, .slice none 0 0] 33) := fun wx hb => blk_below hb hp1 hp1.lt
  have HB : Hid (Below w.heap.size w W1) := bel
  have HI : Hid (isF f C B N r sl xs ↔ (okM f C B N r sl (pnb f C B N r sl xs) ∧ M.frb f C B N r sl (pnb f C B N r sl xs) xs.length = xs)) := Iff.rfl
  have hxl : xs.length ≤ 65536 := by
    have hends := M.ends (f := f) (.inl hF.ok)
    have := hends.2.2.2.1; omega
  clear bel hf1 hp1 h2 h3 heq hT hF hS hb hl hn
  generalize isF f C B N r sl xs = IF at *
  generalize okM f C B N r sl (pnb f C B N r sl xs) = OK at *
  generalize M.frb f C B N r sl (pnb f C B N r sl xs) xs.length = ys at *
  generalize pnb f C B N r sl xs = PN at *
  unfold nilP
  unfold pa at H3 ⊢
  obtain ⟨c_, r_, h_, b_, k_, m_, j_, p_, l_, y_⟩ := f
  unfold fv at h1 H2 H3 ⊢
  unfold fc at hW1 HX
  dsimp only at h1 H2 H3 HX hW1 x0 x1 x2 x3 x4 x5 x6 x7 x8 x9 ⊢
  go_enter Tryz.func24, Tryz.ntmps24
  go_wp2_with (first
    | (go_at_call 42; refine h1.mono ?_; clear h1; rintro e w2 ⟨rfl, b2⟩; have h2 := H2.out w2 b2; clear H2; clear x0 x1 x2 x3 x4 x5 x6 x7 x8 x9; obtain ⟨x0, x1, x2, x3, x4, x5, x6, x7, x8, x9⟩ := box_cells (f := ⟨c_, r_, h_, b_, k_, m_, j_, p_, l_, y_⟩) (blk_below b2 HX.out (Blk.lt HX.out)); clear b2)
    | (go_at_call 69; refine h2.mono ?_; clear h2; rintro e w3 ⟨rfl, b3⟩; have h3 := H3.out w3 b3; clear H3; have B3 : Hid (Below W1.heap.size W1 w3) := b3; clear b3)
    | (go_at_call 74; refine h3.mono ?_; clear h3; rintro e w4 ⟨p, rfl, b4, h4⟩; have B4 : Hid (Below w3.heap.size w3 w4) := b4; clear b4; clear x0 x1 x2 x3 x4 x5 x6 x7 x8 x9; obtain ⟨x0, x1, x2, x3, x4, x5, x6, x7, x8, x9⟩ := box_cells (f := ⟨c_, r_, h_, b_, k_, m_, j_, p_, l_, y_⟩) (blk_below (B3.out.trans (B4.out.mono B3.out.size)) HX.out (Blk.lt HX.out)))
    | (go_at_call 44; refine h4.mono ?_; clear h4; rintro e w5 ⟨aj, az, ac, rfl, b5, h5⟩; have B5 : Hid (Below w3.heap.size w3 w5) := b5; have H5 : Hid _ := h5; clear b5 h5; clear x0 x1 x2 x3 x4 x5 x6 x7 x8 x9; obtain ⟨x0, x1, x2, x3, x4, x5, x6, x7, x8, x9⟩ := box_cells (f := ⟨c_, r_, h_, b_, k_, m_, j_, p_, l_, y_⟩) (blk_below (B3.out.trans (B5.out.mono B3.out.size)) HX.out (Blk.lt HX.out))))
  obtain ⟨w6, hw6⟩ : ∃ w6, w5.alloc (.cells #[.slice (some ⟨aj, 0, none⟩) B B, .slice (some ⟨az, 0, none⟩) C C, .slice (some ⟨ac, 0, none⟩) N N] 33) = w6 := ⟨_, rfl⟩
  rw [hw6]
  have B6 : Hid (Below w5.heap.size w5 w6.drew) := show Below w5.heap.size w5 w6.drew by rw [← hw6]; exact ⟨rfl, rfl, rfl, by simp, fun k hk => Below.heap_alloc _ _ _ hk⟩
  have K6 : Blk w6.drew w5.heap.size #[.slice (some ⟨aj, 0, none⟩) B B, .slice (some ⟨az, 0, none⟩) C C, .slice (some ⟨ac, 0, none⟩) N N] 33 := by rw [← hw6]; exact Blk.new w5 _ _
  have HCl : Hid (∀ wx, Below w3.heap.size w3 wx → Blk wx w5.heap.size #[.slice (some ⟨aj, 0, none⟩) B B, .slice (some ⟨az, 0, none⟩) C C, .slice (some ⟨ac, 0, none⟩) N N] 33 → wx.cell? ⟨w.heap.size, 0, none⟩ = some (.int .i64 c_) ∧ wx.cell? ⟨w.heap.size, 1, none⟩ = some (.int .i64 r_) ∧ wx.cell? ⟨w.heap.size, 2, none⟩ = some (.int .i64 h_) ∧ wx.cell? ⟨w.heap.size, 3, none⟩ = some (.int .i64 b_) ∧ wx.cell? ⟨w.heap.size, 4, none⟩ = some (.int .i64 k_) ∧ wx.cell? ⟨w.heap.size, 5, none⟩ = some (.int .i64 m_) ∧ wx.cell? ⟨w.heap.size, 6, none⟩ = some (.int .i64 j_) ∧ wx.cell? ⟨w.heap.size, 7, none⟩ = some (.int .i64 p_) ∧ wx.cell? ⟨w.heap.size, 8, none⟩ = some (.int .i64 l_) ∧ wx.cell? ⟨w.heap.size, 9, none⟩ = some (.int .i64 y_) ∧ wx.cell? ⟨w5.heap.size, 0, none⟩ = some (.slice (some ⟨aj, 0, none⟩) B B) ∧ wx.cell? ⟨w5.heap.size, 1, none⟩ = some (.slice (some ⟨az, 0, none⟩) C C) ∧ wx.cell? ⟨w5.heap.size, 2, none⟩ = some (.slice (some ⟨ac, 0, none⟩) N N)) := fun wx hb hk => by
    obtain ⟨x0, x1, x2, x3, x4, x5, x6, x7, x8, x9⟩ := box_cells (f := ⟨c_, r_, h_, b_, k_, m_, j_, p_, l_, y_⟩) (blk_below (B3.out.trans (hb.mono B3.out.size)) HX.out (Blk.lt HX.out))
    exact ⟨x0, x1, x2, x3, x4, x5, x6, x7, x8, x9, hk.cell rfl, hk.cell rfl, hk.cell rfl⟩
  have C6 : Hid _ := HCl.out w6.drew (B5.out.trans (B6.out.mono B5.out.size)) K6
  have h6 := H5.out w6.drew B6.out K6
  have H6 : Hid (Calls _ _ _ _ _) := h6
  clear h6 H5 K6 hw6 x0 x1 x2 x3 x4 x5 x6 x7 x8 x9
  go_region_held3 (fun wx => wx.cell? ⟨w.heap.size, 0, none⟩ = some (.int .i64 c_) ∧ wx.cell? ⟨w.heap.size, 1, none⟩ = some (.int .i64 r_) ∧ wx.cell? ⟨w.heap.size, 2, none⟩ = some (.int .i64 h_) ∧ wx.cell? ⟨w.heap.size, 3, none⟩ = some (.int .i64 b_) ∧ wx.cell? ⟨w.heap.size, 4, none⟩ = some (.int .i64 k_) ∧ wx.cell? ⟨w.heap.size, 5, none⟩ = some (.int .i64 m_) ∧ wx.cell? ⟨w.heap.size, 6, none⟩ = some (.int .i64 j_) ∧ wx.cell? ⟨w.heap.size, 7, none⟩ = some (.int .i64 p_) ∧ wx.cell? ⟨w.heap.size, 8, none⟩ = some (.int .i64 l_) ∧ wx.cell? ⟨w.heap.size, 9, none⟩ = some (.int .i64 y_) ∧ wx.cell? ⟨w5.heap.size, 0, none⟩ = some (.slice (some ⟨aj, 0, none⟩) B B) ∧ wx.cell? ⟨w5.heap.size, 1, none⟩ = some (.slice (some ⟨az, 0, none⟩) C C) ∧ wx.cell? ⟨w5.heap.size, 2, none⟩ = some (.slice (some ⟨ac, 0, none⟩) N N))
    (first | exact C6.out | exact C7.out | exact C8.out)
    (first
      | (go_at_call 75; refine H6.out.mono ?_; clear H6; rintro e w7 ⟨x, rfl, b7, k7, h7⟩; have C7 : Hid _ := HCl.out w7 b7 k7; have H7 : Hid (Calls _ _ _ _ _) := h7; clear b7 k7 h7)
      | (go_at_call 70; refine H7.out.mono ?_; clear H7; rintro e w8 ⟨rfl, b8, k8, h8⟩; have C8 : Hid _ := HCl.out w8 b8 k8; have H8 : Hid (Calls _ _ _ _ _) := h8; clear b8 k8 h8))
  all_goals (
    obtain ⟨x0, x1, x2, x3, x4, x5, x6, x7, x8, x9, y0, y1, y2⟩ := C8.out
    have h8 := H8.out
    clear C6 C7 C8 H8
    by_cases hok : OK
    · by_cases hxy : ys = xs
      · have hE := fun w u v hu hv => (HE.out u v ys w hu hv).mono fun e w' (h : _ ∧ _) => (⟨by rw [h.1, decide_eq_true hxy], h.2⟩ : e = .returned (.bool true) ∧ w' = w)
        have HEq : Hid _ := hE
        clear hE HE
        go_wp2_with (first
          | (go_at_call 23; refine h8.mono ?_; clear h8; rintro e w9 ⟨b9, k9, g9, gv9, ⟨_, v, rfl, gw9⟩ | ⟨hno, _⟩⟩; rotate_left; exact absurd hok hno; have hE := HEq.out w9 _ _ gw9 gv9; clear x0 x1 x2 x3 x4 x5 x6 x7 x8 x9 y0 y1 y2; obtain ⟨x0, x1, x2, x3, x4, x5, x6, x7, x8, x9, y0, y1, y2⟩ := HCl.out w9 b9 k9; have ka := HA.out w9 (B3.out.trans (b9.mono B3.out.size)); have t0 := ka.cell (o := 0) (v := .slice none 0 0) rfl; have t1 := ka.cell (o := 1) (v := .slice none 0 0) rfl; have t2 := ka.cell (o := 2) (v := .slice none 0 0) rfl; have f0 := ka.free 0; have f1 := ka.free 1; have f2 := ka.free 2; have KA : Hid (Blk w9 _ _ _) := ka; have G9 : Hid _ := g9; have B9 : Hid (Below w3.heap.size w3 w9) := b9; clear b9 k9 g9 ka)
          | (go_at_call 76; refine hE.mono ?_; clear hE; rintro e w10 ⟨rfl, rfl⟩))
        obtain ⟨E, pf, got⟩ := G9.out
        obtain ⟨bb, d0, d1, d2⟩ := ans_box (x := .slice (some ⟨aj, 0, none⟩) B B) (y := .slice (some ⟨az, 0, none⟩) C C) (z := .slice (some ⟨ac, 0, none⟩) N N) HB.out (B3.out.trans (B9.out.mono B3.out.size)) hs1 KA.out
        refine bodyPost_ret (v := .tuple #[.agg #[.slice (some ⟨aj, 0, none⟩) B B, .slice (some ⟨az, 0, none⟩) C C, .slice (some ⟨ac, 0, none⟩) N N], .int .i64 0]) (by simp [results, Tryz.results24, go_sem, d0, d1, d2]) rfl ?_
        have hs3 := B3.out.size
        have hl1 : w.heap.size + 1 < w3.heap.size := by omega
        exact ⟨bb, .inl ⟨HI.out.2 ⟨hok, hxy⟩, aj, az, ac, E, pf, rfl, (((got.set (a := ⟨w.heap.size + 1, 0, none⟩) hl1 _).set (a := ⟨w.heap.size + 1, 1, none⟩) hl1 _).set (a := ⟨w.heap.size + 1, 2, none⟩) hl1 _).less (by omega)⟩⟩
      · have hE := fun w u v hu hv => (HE.out u v ys w hu hv).mono fun e w' (h : _ ∧ _) => (⟨by rw [h.1, decide_eq_false hxy], h.2⟩ : e = .returned (.bool false) ∧ w' = w)
        have HEq : Hid _ := hE
        clear hE HE
        go_wp2_with (first
          | (go_at_call 23; refine h8.mono ?_; clear h8; rintro e w9 ⟨b9, k9, g9, gv9, ⟨_, v, rfl, gw9⟩ | ⟨hno, _⟩⟩; rotate_left; exact absurd hok hno; have hE := HEq.out w9 _ _ gw9 gv9; clear x0 x1 x2 x3 x4 x5 x6 x7 x8 x9 y0 y1 y2; obtain ⟨x0, x1, x2, x3, x4, x5, x6, x7, x8, x9, y0, y1, y2⟩ := HCl.out w9 b9 k9; have ka := HA.out w9 (B3.out.trans (b9.mono B3.out.size)); have t0 := ka.cell (o := 0) (v := .slice none 0 0) rfl; have t1 := ka.cell (o := 1) (v := .slice none 0 0) rfl; have t2 := ka.cell (o := 2) (v := .slice none 0 0) rfl; have f0 := ka.free 0; have f1 := ka.free 1; have f2 := ka.free 2; have KA : Hid (Blk w9 _ _ _) := ka; have B9 : Hid (Below w3.heap.size w3 w9) := b9; clear b9 k9 g9 ka)
          | (go_at_call 76; refine hE.mono ?_; clear hE; rintro e w10 ⟨rfl, rfl⟩))
        obtain ⟨bb, d0, d1, d2⟩ := ans_box (x := .slice none 0 0) (y := .slice none 0 0) (z := .slice none 0 0) HB.out (B3.out.trans (B9.out.mono B3.out.size)) hs1 KA.out
        refine bodyPost_ret (v := .tuple #[.agg #[.slice none 0 0, .slice none 0 0, .slice none 0 0], .int .i64 140]) (by simp [results, Tryz.results24, go_sem, d0, d1, d2]) rfl ?_
        exact ⟨bb, .inr ⟨fun h => hxy (HI.out.1 h).2, rfl⟩⟩
    · clear HE
      go_wp2_with (go_at_call 23; refine h8.mono ?_; clear h8; rintro e w9 ⟨b9, k9, g9, gv9, ⟨hyes, _⟩ | ⟨_, rfl⟩⟩; exact absurd hyes hok; clear x0 x1 x2 x3 x4 x5 x6 x7 x8 x9 y0 y1 y2; have ka := HA.out w9 (B3.out.trans (b9.mono B3.out.size)); have t0 := ka.cell (o := 0) (v := .slice none 0 0) rfl; have t1 := ka.cell (o := 1) (v := .slice none 0 0) rfl; have t2 := ka.cell (o := 2) (v := .slice none 0 0) rfl; have f0 := ka.free 0; have f1 := ka.free 1; have f2 := ka.free 2; have KA : Hid (Blk w9 _ _ _) := ka; have B9 : Hid (Below w3.heap.size w3 w9) := b9; clear b9 k9 g9 gv9 ka)
      obtain ⟨bb, d0, d1, d2⟩ := ans_box (x := .slice none 0 0) (y := .slice none 0 0) (z := .slice none 0 0) HB.out (B3.out.trans (B9.out.mono B3.out.size)) hs1 KA.out
      refine bodyPost_ret (v := .tuple #[.agg #[.slice none 0 0, .slice none 0 0, .slice none 0 0], .int .i64 140]) (by simp [results, Tryz.results24, go_sem, d0, d1, d2]) rfl ?_
      exact ⟨bb, .inr ⟨fun h => hok (HI.out.1 h).1, rfl⟩⟩)
end Sub
end Go.Proofs.YtcaifpjbjghhaaaGreatDoor

/-
  What is parsed of a frame is what was packed. Plain facts, no walk. Conditions: as told at each.
-/
namespace Go.Proofs.YtcaifpjbjghhaaaGreatDoor
set_option linter.unusedVariables false
open Go.RowKit
namespace Sub
/-- the same numbers, where parameters have some -/
structure Agr (C B N : Nat) (m m' : Nb) : Prop where
  j : ∀ b, b < B → m.j b = m'.j b
  s : ∀ c, c < C → ∀ b, b < B → m.s c b = m'.s c b
  q : ∀ i, i < N → ∀ c, c < C → ∀ b, b < B → m.q i c b = m'.q i c b
theorem Agr.symm {C B N : Nat} {m m' : Nb} (h : Agr C B N m m') : Agr C B N m' m := ⟨fun b hb => (h.j b hb).symm, fun c hc b hb => (h.s c hc b hb).symm, fun i hi c hc b hb => (h.q i hi c hc b hb).symm⟩
theorem rl_ext {C : Nat} {f g : Nat → Int} (h : ∀ j, j < C → f j = g j) : rl C f = rl C g := List.map_congr_left fun j hj => h j (by simpa using hj)
theorem zl_ext {n C : Nat} {F G : Nat → Nat → Int} (h : ∀ i, i < n → ∀ j, j < C → F i j = G i j) : zl n C F = zl n C G := List.map_congr_left fun i hi => rl_ext (h i (by simpa using hi))
theorem wid_ext {f : M.Fmt} {C B r : Nat} {Z Z' : Nat → Nat → Int} {sl : Int} (h : ∀ c, c < C → ∀ b, b < B → Z c b = Z' c b) : M.wid f C B r Z sl = M.wid f C B r Z' sl := by
  funext c b
  unfold M.wid
  rw [zl_ext h]
theorem Sh.ext {f : M.Fmt} {C B r : Nat} {Z Z' : Nat → Nat → Int} {sl : Int} (h : Sh f C B r Z sl) (e : ∀ c, c < C → ∀ b, b < B → Z c b = Z' c b) : Sh f C B r Z' sl := by
  have e' := zl_ext e
  exact ⟨e' ▸ h.good, e' ▸ h.lst, h.bd⟩
theorem okM_ext {f : M.Fmt} {C B N r : Nat} {sl : Int} {m m' : Nb} (h : Agr C B N m m') (k : okM f C B N r sl m) : okM f C B N r sl m' := by
  obtain ⟨k1, k2⟩ := k
  refine ⟨(rl_ext h.j) ▸ k1, fun x => ?_⟩
  have := k2 x
  unfold okC at this ⊢
  rw [← h.q _ x.1.isLt _ x.2.1.isLt _ x.2.2.isLt, ← h.s _ x.2.1.isLt _ x.2.2.isLt, ← wid_ext h.s]
  exact this
end Sub
namespace M
open _root_.Go.Proofs.YtcaifpjbjghhaaaGreatDoor.Sub (Nb Plc plist Agr Sb Sh)
theorem flat_congr {α β : Type} {l : List α} {f g : α → List β} (h : ∀ x ∈ l, f x = g x) : l.flatMap f = l.flatMap g := by
  rw [List.flatMap_def, List.flatMap_def, List.map_congr_left h]
theorem fmR_ext {k n : Nat} {f g : Nat → Int} (h : ∀ j, j < n → f j = g j) : fmR k f n = fmR k g n := flat_congr fun b hb => by rw [h b (by simpa using hb)]
theorem wdN_ext {f : Fmt} {C B r : Nat} {Z Z' : Nat → Nat → Int} {sl : Int} (h : ∀ c, c < C → ∀ b, b < B → Z c b = Z' c b) : wdN f C B r Z sl = wdN f C B r Z' sl := by
  funext c b
  unfold wdN
  rw [Sub.wid_ext h]
theorem frm_ext {f : Fmt} {C B N r : Nat} {sl : Int} {m m' : Nb} (h : Agr C B N m m') : frm f C B N r sl m = frm f C B N r sl m' := by
  unfold frm
  rw [wdN_ext h.s]
  have e1 : fmJ f B m = fmJ f B m' := by unfold fmJ; rw [fmR_ext h.j]
  have e2 : fmS B m C = fmS B m' C := flat_congr fun c hc => fmR_ext (h.s c (by simpa using hc))
  have e3 : ∀ wd, fmQ wd m (plist N C B) = fmQ wd m' (plist N C B) := fun wd => flat_congr fun x _ => by rw [h.q _ x.1.isLt _ x.2.1.isLt _ x.2.2.isLt]
  rw [e1, e2, e3]
theorem frb_ext {f : Fmt} {C B N r n : Nat} {sl : Int} {m m' : Nb} (h : Agr C B N m m') : frb f C B N r sl m n = frb f C B N r sl m' n := by unfold frb raw; rw [frm_ext h]

/-- bits in the midst of a list -/
theorem mid_at (X Y Z : List Bool) {j : Nat} (h : j < Y.length) : (X ++ Y ++ Z).getD (X.length + j) false = Y.getD j false := by
  rw [getD_app, if_pos (by rw [List.length_append]; omega), getD_app, if_neg (by omega)]
  congr 1; omega
theorem fmR_at {k n : Nat} {g : Nat → Int} : ∀ {b j : Nat}, b < n → j < k → (fmR k g n).getD (k * b + j) false = (bn (g b).toNat k).getD j false := by
  induction n with
  | zero => intro b j hb; exact absurd hb (by omega)
  | succ n ih =>
    intro b j hb hj
    rw [fmR_succ, getD_app, fmR_length]
    by_cases e : b = n
    · subst e
      rw [if_neg (by omega)]
      congr 1; omega
    · have hm : k * b + k ≤ k * n := by rw [← Nat.mul_succ]; exact Nat.mul_le_mul_left k (by omega)
      rw [if_pos (by omega)]
      exact ih (by omega) hj
theorem fmS_at {B : Nat} {m : Nb} {C : Nat} : ∀ {c i : Nat}, c < C → i < 4 * B → (fmS B m C).getD (4 * B * c + i) false = (fmR 4 (m.s c) B).getD i false := by
  induction C with
  | zero => intro c i hc; exact absurd hc (by omega)
  | succ C ih =>
    intro c i hc hi
    rw [fmS_succ, getD_app, fmS_length]
    by_cases e : c = C
    · subst e
      rw [if_neg (by omega)]
      congr 1; omega
    · have hm : 4 * B * c + 4 * B ≤ 4 * B * C := by rw [← Nat.mul_succ]; exact Nat.mul_le_mul_left _ (by omega)
      rw [if_pos (by omega)]
      exact ih (by omega) hi
theorem fmQ_at {N C B : Nat} (wd : Nat → Nat → Nat) (m : Nb) (x : Plc N C B) {j : Nat} (hj : j < wd x.2.1 x.2.2) : (fmQ wd m (plist N C B)).getD (ahead wd C B x.1 x.2.1 x.2.2 + j) false = (bn (m.q x.1 x.2.1 x.2.2).toNat (wd x.2.1 x.2.2)).getD j false := by
  obtain ⟨zs, hz⟩ := plist_split x
  have e : fmQ wd m (plist N C B) = fmQ wd m (Sub.ln x.1.val ++ Sub.lc x.1 x.2.1.val ++ Sub.lb x.1 x.2.1 x.2.2.val : List (Plc N C B)) ++ bn (m.q x.1 x.2.1 x.2.2).toNat (wd x.2.1 x.2.2) ++ fmQ wd m zs := by rw [hz]; simp [fmQ]
  rw [e, ← cost_ahead wd x, ← fmQ_length wd m]
  exact mid_at _ _ _ (by rw [bn_length]; exact hj)

theorem bit_raw {f : Fmt} {C B N r n : Nat} {sl : Int} {m : Nb} {j : Nat} (hj : j < 8 * n) (h3 : j / 8 ≠ 3) : Bits.bitsL (frb f C B N r sl m n) j = (frm f C B N r sl m).getD j false := by
  have e : (frb f C B N r sl m n).getD (j / 8) 0 = byteOf (fun j => (frm f C B N r sl m).getD j false) (j / 8) := by
    unfold frb
    rw [List.getD, List.getElem?_set_ne (by omega), ← List.getD]
    exact Bits.bytesL_getD _ (by omega)
  have h2 := congrFun (bitsOf_byteOf fun j => (frm f C B N r sl m).getD j false) j
  unfold bitsOf at h2
  rw [← h2]
  show (Nat.testBit ((frb f C B N r sl m n).getD (j / 8) 0) _) = _
  rw [e]

theorem side_len (f : Fmt) (B : Nat) (m : Nb) : (fmH f 8 ++ fmJ f B m).length = side f B := by
  rw [List.length_append, fmH_length, fmJ_length]; rfl
/-- what is found is what was put -/
theorem again {f : Fmt} {C B N r n : Nat} {sl : Int} {m m' : Nb} (hF : Sb f C B N r) (hS : Sh f C B r m.s sl) (h : okN f C B N r sl m) (hn : bitS f ≤ 8 * n) (hr : Read f C B N r sl (Bits.bitsL (frb f C B N r sl m n)) m') : Agr C B N m' m := by
  have room := frm_room (N := N) hF hS
  have hlen : side f B + 4 * B * C + cost (wdN f C B r m.s sl) (plist N C B) ≤ 8 * n := by
    rw [fmJ_length] at room
    unfold side; omega
  have hs : ∀ c, c < C → ∀ b, b < B → m'.s c b = m.s c b := fun c hc b hb => by
    have hm := h.s c hc b hb
    have hcb : 4 * B * c + 4 * B ≤ 4 * B * C := by rw [← Nat.mul_succ]; exact Nat.mul_le_mul_left _ (by omega)
    rw [hr.s c hc b hb, fv_all (v := (m.s c b).toNat) (fun j hj => ?_) (by show (m.s c b).toNat < 16; omega), Int.toNat_of_nonneg hm.1]
    have hside : 32 ≤ side f B := by unfold side; omega
    rw [bit_raw (by omega) (by omega)]
    unfold frm
    rw [show side f B + 4 * B * c + 4 * b + j = (fmH f 8 ++ fmJ f B m).length + (4 * B * c + (4 * b + j)) by rw [side_len]; omega]
    rw [mid_at _ _ _ (by rw [fmS_length]; omega), fmS_at hc (by omega), fmR_at hb hj, bn_get hj]
  have hw : wdN f C B r m'.s sl = wdN f C B r m.s sl := wdN_ext hs
  refine ⟨fun b hb => ?_, hs, fun i hi c hc b hb => ?_⟩
  · have hm := h.j b hb
    rw [hr.j b hb]
    by_cases hj : f.j = 1
    · rw [if_pos hj, fv_all (v := (m.j b).toNat) (fun j hj' => ?_) (by show (m.j b).toNat < 2; omega), Int.toNat_of_nonneg hm.1]
      have hside : side f B = 32 + B := by unfold side; rw [if_pos hj]
      rw [bit_raw (by omega) (by omega)]
      unfold frm
      rw [show fmH f 8 ++ fmJ f B m ++ fmS B m C ++ fmQ (wdN f C B r m.s sl) m (plist N C B) = fmH f 8 ++ fmJ f B m ++ (fmS B m C ++ fmQ (wdN f C B r m.s sl) m (plist N C B)) by simp only [List.append_assoc]]
      rw [show 32 + b + j = (fmH f 8).length + (1 * b + j) by rw [fmH_length]; omega, mid_at _ _ _ (by rw [fmJ_length, if_pos hj]; omega)]
      unfold fmJ
      rw [if_pos hj, fmR_at hb hj', bn_get hj']
    · rw [if_neg hj]
      have := hF.joint
      omega
  · have hm := h.q i hi c hc b hb
    have hlt : (m.q i c b).toNat < 2 ^ wdN f C B r m.s sl c b := by
      have h2 : ((2 ^ wdN f C B r m.s sl c b : Nat) : Int) = 2 ^ wdN f C B r m.s sl c b := by push_cast; rfl
      omega
    rw [hr.q i hi c hc b hb, hw, fv_all (v := (m.q i c b).toNat) (fun j hj => ?_) hlt, Int.toNat_of_nonneg hm.1]
    have hside : 32 ≤ side f B := by unfold side; omega
    have hah := cost_ahead (wdN f C B r m.s sl) (⟨⟨i, hi⟩, ⟨c, hc⟩, ⟨b, hb⟩⟩ : Plc N C B)
    obtain ⟨zs, hz⟩ := plist_split (⟨⟨i, hi⟩, ⟨c, hc⟩, ⟨b, hb⟩⟩ : Plc N C B)
    have hct : cost (wdN f C B r m.s sl) (plist N C B) = ahead (wdN f C B r m.s sl) C B i c b + (wdN f C B r m.s sl c b + cost (wdN f C B r m.s sl) zs) := by
      rw [hz, cost_app, hah]
      simp [cost]
    rw [bit_raw (by omega) (by omega)]
    unfold frm
    rw [show side f B + 4 * B * C + ahead (wdN f C B r m.s sl) C B i c b + j = (fmH f 8 ++ fmJ f B m ++ fmS B m C).length + (ahead (wdN f C B r m.s sl) C B i c b + j) by rw [List.length_append, side_len, fmS_length]; omega]
    rw [getD_app, if_neg (by omega), Nat.add_sub_cancel_left]
    rw [fmQ_at (wdN f C B r m.s sl) m (⟨⟨i, hi⟩, ⟨c, hc⟩, ⟨b, hb⟩⟩ : Plc N C B) hj, bn_get hj]
end M
namespace Sub
/-- a frame is one, and its parameters are found -/
theorem frame_is {f : M.Fmt} {C B N r n : Nat} {sl sl' : Int} {m : Nb} (hF : Sb f C B N r) (hS : Sh f C B r m.s sl) (hm : okM f C B N r sl m) (hn : M.pay f = n) (hZ : ∀ c, c < C → ∀ b, b < B → 0 ≤ m.s c b ∧ m.s c b ≤ 15) (hS' : Sh f C B r (psc f C B (M.frb f C B N r sl m n)) sl') :
    sl' = sl ∧ Agr C B N (pnb f C B N r sl (M.frb f C B N r sl m n)) m ∧ isF f C B N r sl (M.frb f C B N r sl m n) := by
  have hends := M.ends (f := f) (.inl hF.ok)
  rw [hn] at hends
  have hbit : M.bitS f ≤ 8 * (n : Int) := by have := hends.2.2.2.2; unfold M.bitF at this; rw [if_pos hF.ok.1] at this; exact this
  have hl : (M.frb f C B N r sl m n).length = n := M.frb_length
  have hok := okN_of hZ hm
  have hsc := (M.sc_get (Bt := Bits.bitsL (M.frb f C B N r sl m n)) (n := n) hF hbit).2.2
  -- the scales alone first: any reading has them
  have hall' := M.all_get (Bt := Bits.bitsL (M.frb f C B N r sl m n)) (n := n) (N := N) (sl := sl') hF hbit (by have := hS'; unfold psc at this; rw [hl] at this; exact this)
  have hag : ∀ c, c < C → ∀ b, b < B → psc f C B (M.frb f C B N r sl m n) c b = m.s c b := by
    intro c hc b hb
    unfold psc
    rw [hl, hsc c hc b hb]
    have hR : M.Read f C B N r sl (Bits.bitsL (M.frb f C B N r sl m n)) ⟨fun b => if f.j = 1 then (M.fv (Bits.bitsL (M.frb f C B N r sl m n)) (32 + b) 1 : Int) else 0, fun c b => (M.fv (Bits.bitsL (M.frb f C B N r sl m n)) (M.side f B + 4 * B * c + 4 * b) 4 : Int),
        fun i c b => (M.fv (Bits.bitsL (M.frb f C B N r sl m n)) (M.side f B + 4 * B * C + M.ahead (M.wdN f C B r (fun c b => (M.fv (Bits.bitsL (M.frb f C B N r sl m n)) (M.side f B + 4 * B * c + 4 * b) 4 : Int)) sl) C B i c b) (M.wdN f C B r (fun c b => (M.fv (Bits.bitsL (M.frb f C B N r sl m n)) (M.side f B + 4 * B * c + 4 * b) 4 : Int)) sl c b) : Int)⟩ :=
      ⟨fun b _ => rfl, fun c _ b _ => rfl, fun i _ c _ b _ => rfl⟩
    exact (M.again hF hS hok hbit hR).s c hc b hb
  have hsl : sl' = sl := (hS'.ext hag).one hS
  subst hsl
  have hread : M.Read f C B N r sl' (Bits.bitsL (M.frb f C B N r sl' m n)) (pnb f C B N r sl' (M.frb f C B N r sl' m n)) := by
    unfold pnb; rw [hl]; exact hall'.2
  have hA := M.again hF hS hok hbit hread
  refine ⟨rfl, hA, okM_ext hA.symm hm, ?_⟩
  rw [hl]
  exact M.frb_ext hA
end Sub
end Go.Proofs.YtcaifpjbjghhaaaGreatDoor

