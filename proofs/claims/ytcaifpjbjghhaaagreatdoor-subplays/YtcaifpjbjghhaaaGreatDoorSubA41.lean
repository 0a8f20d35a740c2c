import Derived.Test.YtcaifpjbjghhaaaGreatDoorSubA40
/-
  Contract of Planes: the planes of parameters. Conditions: as told at each.
-/
namespace Go.Proofs.YtcaifpjbjghhaaaGreatDoor
set_option linter.unusedVariables false
open Go.RowKit Go.Shelf
namespace Sub
open Bank (Blk But)
open Poly (Reads cell_keep alloc_size)
open _root_.Go.Proofs.YtcaifpjbjghhaaaGreatDoor.Form (fv fc bel1 Says box_cells box_behind blk_below of_drew)
attribute [local go_sem] Oper.semAt_some

theorem slotsP (ts : Array Value) (p2 p3 p7 p8 p9 : Value) (hs : ts.size = 56) (h2 : ts[2]? = some p2) (h3 : ts[3]? = some p3) (h7 : ts[7]? = some p7) (h8 : ts[8]? = some p8) (h9 : ts[9]? = some p9) : ∃ t : Nat → Value, ts = #[t 0, t 1, p2, p3, t 4, t 5, t 6, p7, p8, p9, t 10, t 11, t 12, t 13, t 14, t 15, t 16, t 17, t 18, t 19, t 20, t 21, t 22, t 23, t 24, t 25, t 26, t 27, t 28, t 29, t 30, t 31, t 32, t 33, t 34, t 35, t 36, t 37, t 38, t 39, t 40, t 41, t 42, t 43, t 44, t 45, t 46, t 47, t 48, t 49, t 50, t 51, t 52, t 53, t 54, t 55] := by
  have e := slots_get ts 56 hs
  refine ⟨fun k => ts.getD k (.bool false), ?_⟩
  have e2 : ts.getD 2 (.bool false) = p2 := by rw [Array.getD_eq_getD_getElem?, h2]; rfl
  have e3 : ts.getD 3 (.bool false) = p3 := by rw [Array.getD_eq_getD_getElem?, h3]; rfl
  have e7 : ts.getD 7 (.bool false) = p7 := by rw [Array.getD_eq_getD_getElem?, h7]; rfl
  have e8 : ts.getD 8 (.bool false) = p8 := by rw [Array.getD_eq_getD_getElem?, h8]; rfl
  have e9 : ts.getD 9 (.bool false) = p9 := by rw [Array.getD_eq_getD_getElem?, h9]; rfl
  rw [← e2, ← e3, ← e7, ← e8, ← e9]
  exact e

theorem pl_joint {f : M.Fmt} {hi C B N r ac E : Nat} {sl : Int} {m : Nb} {pf : Nat → Nat} {vj : Value} {W : World} (hj : f.j = 1) (hc : C = 2) (hN : 1 ≤ N ∧ N ≤ 40) (hB : 1 ≤ B ∧ B ≤ 8) (hE : ac < E ∧ E ≤ W.heap.size) (hv : V1 .i64 hi vj B m.j W) (hh : hi ≤ W.heap.size)
    (h : Cub .i32 21 97 82 ac E C N B pf (M.plX f C B N r sl m) W) :
    Calls Tryz.prog 46 #[.slice (some ⟨ac, 0, none⟩) C C, vj, .func (.func 55) #[] #[]] W fun e W2 => ∃ g, e = .returned (.slice (some ⟨g, 0, none⟩) C C) ∧ Below W.heap.size W W2 ∧ B3 .i32 W.heap.size W2.heap.size (.slice (some ⟨g, 0, none⟩) C C) C N B (M.plY f C B N r sl m) W2 := by
  subst hc
  have l0 := h.lo 0 (by omega)
  have l1 := h.lo 1 (by omega)
  refine (mixed_any _ _ _ mx_sides W.heap.size hi ac 0 2 _ _ _ N B (M.plX f 2 B N r sl m 0) (M.plX f 2 B N r sl m 1) m.j W (by omega) (h.at_top (by omega)) (h.at_top (by omega)) ((h.grd 0 (by omega)).v2.mono (by omega)) ((h.grd 1 (by omega)).v2.mono (by omega)) (M.plX_32 _ _ _ _ _ _ _ _) (M.plX_32 _ _ _ _ _ _ _ _) hv (Nat.le_refl _) hh hN.1 hN.2 hB.1 hB.2).mono ?_
  rintro e W4 ⟨gm, x, y, rfl, ⟨l0, l1, l2⟩, bel4, tb, g1, g2⟩
  refine ⟨gm, rfl, bel4, pair_b3 tb (g1.ext fun i _ b _ => ?_) (g2.ext fun i _ b _ => ?_) ⟨l0, tb.lt⟩ ⟨l1, g1.lt⟩ ⟨l2, g2.lt⟩⟩
  · unfold M.plY; rw [if_pos hj, if_pos rfl]
  · unfold M.plY; rw [if_pos hj, if_neg (by decide)]

set_option maxRecDepth 100000 in
set_option maxHeartbeats 1000000 in
theorem Planes_no (f : M.Fmt) (p : Value) (hp : ∃ x y z, p = pa x y z) (k : Int) (hk : k ≠ 0) (w : World) (hr : ∀ wx, Below w.heap.size w wx → Calls Tryz.prog 52 #[fv f, p] wx fun e w' => e = .returned (.int .i64 k) ∧ Below wx.heap.size wx w') :
    Calls Tryz.prog 15 #[fv f, p] w fun e w' => e = .returned (.tuple #[.slice none 0 0, .int .i64 k]) ∧ Below w.heap.size w w' := by
  obtain ⟨vj, vs, vc, rfl⟩ := hp
  obtain ⟨W1, hW1⟩ : ∃ W1, (w.alloc (.cells (fc f) 23)).alloc (.cells #[vj, vs, vc] 33) = W1 := ⟨_, rfl⟩
  have bel : Below w.heap.size w W1 := by rw [← hW1]; exact (bel1 _ _).alloc (bel1 _ _).size _
  have hf1 : Blk W1 w.heap.size (fc f) 23 := by rw [← hW1]; exact (Blk.new w _ _).alloc _
  have hp1 : Blk W1 (w.heap.size + 1) #[vj, vs, vc] 33 := by
    rw [← hW1]
    have := Blk.new (w.alloc (.cells (fc f) 23)) #[vj, vs, vc] 33
    rw [alloc_size] at this
    exact this
  have h1 := hr W1 bel
  obtain ⟨x0, x1, x2, x3, x4, x5, x6, x7, x8, x9⟩ := box_cells hf1
  have y0 : W1.cell? ⟨w.heap.size + 1, 0, none⟩ = some vj := hp1.cell rfl
  have y1 : W1.cell? ⟨w.heap.size + 1, 1, none⟩ = some vs := hp1.cell rfl
  have y2 : W1.cell? ⟨w.heap.size + 1, 2, none⟩ = some vc := hp1.cell rfl
  have HB : Hid (Below w.heap.size w W1) := bel
  have k1 : (k == 0) = false := by simpa using hk
  have k2 : (k != 0) = true := by simpa using hk
  clear bel hf1 hp1 hr hk
  unfold pa at h1 ⊢
  refine (callsIn_wide (n := 9)).1 (callsIn_of_wp_marks Tryz.func15 rfl trivial (wpIn_wide.2 ?_) rfl)
  simp only [Tryz.ntmps15, List.size_toArray, List.length_cons, List.length_nil, Nat.reduceAdd, Nat.reduceSub, Array.replicate_succ, Array.replicate_zero, List.push_toArray, List.append_toArray, List.nil_append, List.cons_append]
  obtain ⟨c_, r_, h_, b_, k_, m_, j_, p_, l_, y_⟩ := f
  unfold fv at h1 ⊢
  unfold fc at hW1
  dsimp only at h1 hW1 x0 x1 x2 x3 x4 x5 x6 x7 x8 x9 ⊢
  go_wp2_with (go_at_call 52; refine h1.mono ?_; clear h1; rintro e w2 ⟨rfl, b2⟩; have B2 : Hid (Below W1.heap.size W1 w2) := b2; clear b2)
  exact ⟨.tuple #[.slice none 0 0, .int .i64 k], by simp [results, Tryz.f15, go_sem], rfl, HB.out.trans (B2.out.mono HB.out.size)⟩

set_option maxRecDepth 100000 in
set_option maxHeartbeats 8000000 in
theorem Planes_ok (hi : Nat) (f : M.Fmt) (C B N r : Nat) (vj vs vc : Value) (m : Nb) (sl : Int) (w : World) (hT : Alloc.Tabs w) (hF : Sb f C B N r) (hS : Sh f C B r m.s sl) (hj : V1 .i64 hi vj B m.j w) (hs : V2 .i64 hi vs C B m.s w) (hc : V3 .i64 hi vc N C B m.q w) (hh : hi ≤ w.heap.size)
    (hZ : ∀ c, c < C → ∀ b, b < B → 0 ≤ m.s c b ∧ m.s c b ≤ 15) (hr : ∀ wx, Below w.heap.size w wx → Calls Tryz.prog 52 #[fv f, pa vj vs vc] wx fun e w' => e = .returned (.int .i64 0) ∧ Below wx.heap.size wx w') :
    Calls Tryz.prog 15 #[fv f, pa vj vs vc] w fun e w' => ∃ v, e = .returned (.tuple #[v, .int .i64 0]) ∧ Below w.heap.size w w' ∧ B3 .i32 w.heap.size w'.heap.size v C N B (M.plY f C B N r sl m) w' := by
  have n16 := hF.n16
  have c2 := hF.c2
  have b8 := hF.b8
  obtain ⟨bj, oj, cj, rfl⟩ := hj.form
  obtain ⟨bs, os, cs, rfl⟩ := hs.form
  obtain ⟨bc, oc, cc, rfl⟩ := hc.form
  obtain ⟨W1, hW1⟩ : ∃ W1, (w.alloc (.cells (fc f) 23)).alloc (.cells #[.slice (some ⟨bj, oj, none⟩) B cj, .slice (some ⟨bs, os, none⟩) C cs, .slice (some ⟨bc, oc, none⟩) N cc] 33) = W1 := ⟨_, rfl⟩
  have sz1 : W1.heap.size = w.heap.size + 2 := by rw [← hW1]; simp
  have bel : Below w.heap.size w W1 := by rw [← hW1]; exact (bel1 _ _).alloc (bel1 _ _).size _
  have hf1 : Blk W1 w.heap.size (fc f) 23 := by rw [← hW1]; exact (Blk.new w _ _).alloc _
  have hp1 : Blk W1 (w.heap.size + 1) #[.slice (some ⟨bj, oj, none⟩) B cj, .slice (some ⟨bs, os, none⟩) C cs, .slice (some ⟨bc, oc, none⟩) N cc] 33 := by
    rw [← hW1]
    have := Blk.new (w.alloc (.cells (fc f) 23)) #[.slice (some ⟨bj, oj, none⟩) B cj, .slice (some ⟨bs, os, none⟩) C cs, .slice (some ⟨bc, oc, none⟩) N cc] 33
    rw [alloc_size] at this
    exact this
  have h1 := hr W1 bel
  have h2 := fun wx => laid32_any C N B wx (by omega) (by omega) (by omega)
  have h3 := fun wx (hb : Below w.heap.size w wx) => sharesOf_any hi f C B r m.s sl (.slice (some ⟨bj, oj, none⟩) B cj) (.slice (some ⟨bs, os, none⟩) C cs) (.slice (some ⟨bc, oc, none⟩) N cc) wx (hT.below hb (Nat.le_refl _)) hS (hs.below hb hh) (by have := hb.size; omega) ⟨_, _, _, rfl⟩ ⟨_, _, _, rfl⟩ hZ
  have H2 : Hid (∀ wx, Calls _ _ _ wx _) := h2
  have H3 : Hid _ := h3
  have hpl := fun wx => places_any f wx
  have HP : Hid _ := hpl
  have HF : Hid (Sb f C B N r) := hF
  have HV : Hid (∀ i c b, M.plX f C B N r sl m c i b = (Qnt.la (m.q i c b) (m.s c b) (M.wid f C B r m.s sl c b)).1) := fun i c b => rfl
  have HVj : Hid (V1 .i64 hi (.slice (some ⟨bj, oj, none⟩) B cj) B m.j w) := hj
  have HVs : Hid (V2 .i64 hi (.slice (some ⟨bs, os, none⟩) C cs) C B m.s w) := hs
  have HVc : Hid (V3 .i64 hi (.slice (some ⟨bc, oc, none⟩) N cc) N C B m.q w) := hc
  have hjn := fun (h1 : f.j = 1) (h2 : C = 2) ac E pf W => pl_joint (f := f) (hi := hi) (C := C) (B := B) (N := N) (r := r) (ac := ac) (E := E) (sl := sl) (m := m) (pf := pf) (vj := .slice (some ⟨bj, oj, none⟩) B cj) (W := W) h1 h2 ⟨by omega, by omega⟩ ⟨by omega, by omega⟩
  have HJn : Hid _ := hjn
  have hyy : f.j = 0 → M.plY f C B N r sl m = M.plX f C B N r sl m := fun h => by funext c; unfold M.plY; rw [if_neg (by omega)]
  have HYY : Hid _ := hyy
  obtain ⟨x0, x1, x2, x3, x4, x5, x6, x7, x8, x9⟩ := box_cells hf1
  have y0 : W1.cell? ⟨w.heap.size + 1, 0, none⟩ = some (.slice (some ⟨bj, oj, none⟩) B cj) := hp1.cell rfl
  have y1 : W1.cell? ⟨w.heap.size + 1, 1, none⟩ = some (.slice (some ⟨bs, os, none⟩) C cs) := hp1.cell rfl
  have y2 : W1.cell? ⟨w.heap.size + 1, 2, none⟩ = some (.slice (some ⟨bc, oc, none⟩) N cc) := hp1.cell rfl
  have HF1 : Hid (Blk W1 w.heap.size (fc f) 23) := hf1
  have HP1 : Hid (Blk W1 (w.heap.size + 1) #[.slice (some ⟨bj, oj, none⟩) B cj, .slice (some ⟨bs, os, none⟩) C cs, .slice (some ⟨bc, oc, none⟩) N cc] 33) := hp1
  have HB1 : Hid (Below w.heap.size w W1) := bel
  have hjo := hF.joint
  have hN := hF.hN
  have hC := hF.hC
  have hB := hF.hB
  clear bel hf1 hp1 h2 h3 hpl hT hF hS hj hs hc hZ hr hjn hyy
  generalize M.plX f C B N r sl m = PX at *
  generalize M.plY f C B N r sl m = PY at *
  generalize M.wid f C B r m.s sl = U at *
  unfold pa at h1 H3 ⊢
  refine (callsIn_wide (n := 9)).1 (callsIn_of_wp_marks Tryz.func15 rfl trivial (wpIn_wide.2 ?_) rfl)
  simp only [Tryz.ntmps15, List.size_toArray, List.length_cons, List.length_nil, Nat.reduceAdd, Nat.reduceSub, Array.replicate_succ, Array.replicate_zero, List.push_toArray, List.append_toArray, List.nil_append, List.cons_append]
  obtain ⟨c_, r_, h_, b_, k_, m_, j_, p_, l_, y_⟩ := f
  obtain rfl : h_ = C := hC
  obtain rfl : b_ = B := hB
  obtain rfl : k_ = N := hN
  unfold fv at h1 H3 HP ⊢
  unfold fc at hW1
  dsimp only at h1 H3 HP hW1 x0 x1 x2 x3 x4 x5 x6 x7 x8 x9 hjo ⊢
  have HJo : Hid _ := hjo
  clear hjo
  go_wp2_with (first
    | (go_at_call 52; refine h1.mono ?_; clear h1; rintro e w2 ⟨rfl, b2⟩; have h2 := H2.out w2; clear H2 x0 x1 x2 x3 x4 x5 x6 x7 x8 x9 y0 y1 y2; have xs := box_cells (blk_below b2 HF1.out HF1.out.lt); dsimp only at xs; obtain ⟨x0, x1, x2, x3, x4, x5, x6, x7, x8, x9⟩ := xs; have B2 : Hid (Below W1.heap.size W1 w2) := b2; clear b2)
    | (go_at_call 53; refine h2.mono ?_; clear h2; rintro e w3 ⟨rfl, b3, s3, pf, cu3⟩; have b13 := B2.out.trans (b3.mono B2.out.size); have bA := b13.alloc b13.size (.cells #[.slice (some ⟨w2.heap.size, 0, none⟩) C C] 24); have h3 := H3.out (w3.alloc (.cells #[.slice (some ⟨w2.heap.size, 0, none⟩) C C] 24)) (HB1.out.trans (bA.mono HB1.out.size)); clear H3 x0 x1 x2 x3 x4 x5 x6 x7 x8 x9; have xs := box_cells (blk_below bA HF1.out HF1.out.lt); dsimp only at xs; obtain ⟨x0, x1, x2, x3, x4, x5, x6, x7, x8, x9⟩ := xs; have y0 : (w3.alloc (.cells #[.slice (some ⟨w2.heap.size, 0, none⟩) C C] 24)).cell? ⟨w.heap.size + 1, 0, none⟩ = some (.slice (some ⟨bj, oj, none⟩) B cj) := (blk_below bA HP1.out HP1.out.lt).cell rfl; have y1 : (w3.alloc (.cells #[.slice (some ⟨w2.heap.size, 0, none⟩) C C] 24)).cell? ⟨w.heap.size + 1, 1, none⟩ = some (.slice (some ⟨bs, os, none⟩) C cs) := (blk_below bA HP1.out HP1.out.lt).cell rfl; have y2 : (w3.alloc (.cells #[.slice (some ⟨w2.heap.size, 0, none⟩) C C] 24)).cell? ⟨w.heap.size + 1, 2, none⟩ = some (.slice (some ⟨bc, oc, none⟩) N cc) := (blk_below bA HP1.out HP1.out.lt).cell rfl; have BA : Hid (Below W1.heap.size W1 _) := bA; have CU : Hid (Cub _ _ _ _ _ _ _ _ _ _ _ _) := cu3; clear b3 cu3 b13 bA)
    | (go_at_call 49; refine h3.mono ?_; clear h3 y0 y1 y2; rintro e w4 ⟨a, rfl, ha, b4, g4⟩; have G4 : Hid (Grd _ _ _ _ _ _ _ _) := g4; have HAa : Hid (_ ≤ a) := ha; have B4 : Hid (Below _ _ w4) := b4; clear x0 x1 x2 x3 x4 x5 x6 x7 x8 x9; have xs := box_cells (Blk.alloc (blk_below (BA.out.trans (b4.mono BA.out.size)) HF1.out HF1.out.lt) (.cells #[.slice (some ⟨a, 0, none⟩) C C] 26)); dsimp only at xs; obtain ⟨x0, x1, x2, x3, x4, x5, x6, x7, x8, x9⟩ := xs; clear b4 g4 ha)
    | (go_at_call 50; refine (HP.out _).mono ?_; clear HP; rintro e w' ⟨rfl, hw⟩; rw [hw]; clear hw w'))
  obtain ⟨W0, hW0⟩ : ∃ W0, (w4.alloc (.cells #[.slice (some ⟨a, 0, none⟩) C C] 26)).alloc (.cells (fc ⟨c_, r_, C, B, N, m_, j_, p_, l_, y_⟩) 23) = W0 := ⟨_, rfl⟩
  have sz0 : W0.heap.size = w4.heap.size + 2 := by rw [← hW0]; simp
  have b40 : Below w4.heap.size w4 W0 := by rw [← hW0]; exact (bel1 _ _).alloc (bel1 _ _).size _
  have u0 : Blk W0 w4.heap.size #[.slice (some ⟨a, 0, none⟩) C C] 26 := by rw [← hW0]; exact (Blk.new w4 _ _).alloc _
  have f0 : Blk W0 (w4.heap.size + 1) (fc ⟨c_, r_, C, B, N, m_, j_, p_, l_, y_⟩) 23 := by
    rw [← hW0]
    have := Blk.new (w4.alloc (.cells #[.slice (some ⟨a, 0, none⟩) C C] 26)) (fc ⟨c_, r_, C, B, N, m_, j_, p_, l_, y_⟩) 23
    rw [alloc_size] at this
    exact this
  rw [hW0]
  have s4 := B4.out.size
  simp only [alloc_size] at s4
  have hAa := HAa.out
  simp only [alloc_size] at hAa
  have bX0 : Below (w3.heap.size + 1) (w3.alloc (.cells #[.slice (some ⟨w2.heap.size, 0, none⟩) C C] 24)) W0 := by
    have := B4.out.trans (b40.mono B4.out.size)
    rw [alloc_size] at this
    exact this
  have s2 := B2.out.size
  have b10 : Below W1.heap.size W1 W0 := BA.out.trans (bX0.mono (by omega))
  have hbn : Below w.heap.size w W0 := HB1.out.trans (b10.mono HB1.out.size)
  have g0 := G4.out.below b40 G4.out.lt
  have gl := G4.out.lt
  have p0 := blk_below b10 HP1.out HP1.out.lt
  have ff0 := blk_below b10 HF1.out HF1.out.lt
  have e0 : Blk W0 w3.heap.size #[.slice (some ⟨w2.heap.size, 0, none⟩) C C] 24 := blk_below bX0 (Blk.new w3 _ _) (by omega)
  have c0 : Cub .i32 21 97 82 w2.heap.size w3.heap.size C N B pf (fun c i b => tl (N := N) (C := C) (B := B) (fun i c b => PX c i b) [] i c b) W0 := ((CU.out.below s3 (bel1 w3 _) (Nat.le_refl _)).below s3 bX0 (by omega)).ext fun i _ c _ b _ => tl_nil.symm
  have vj0 := HVj.out.below hbn hh
  have vs0 := HVs.out.below hbn hh
  have vc0 := HVc.out.below hbn hh
  have hss := hbn.size
  clear hW0 hW1 x0 x1 x2 x3 x4 x5 x6 x7 x8 x9 HF1 HP1 CU G4 BA B4 bX0 b40 HVj HVs HVc
  obtain ⟨E, hE0⟩ : ∃ E, w3.heap.size = E := ⟨_, rfl⟩
  obtain ⟨ac, hac0⟩ : ∃ ac, w2.heap.size = ac := ⟨_, rfl⟩
  rw [hE0, hac0]
  rw [hE0] at s3 s4 e0 c0 hAa
  rw [hac0] at s2 s3 e0 c0
  clear hE0 hac0 B2
  refine (wpIn_wide (n := 9)).1 ?_
  refine wpIn_rangeFunc_ownH rfl (by omega) (gf := 110) (lb := #[.pointer (some ⟨w4.heap.size + 1, 0, none⟩)]) rfl trivial (enters_of Tryz.func110 (by kernel_rfl) rfl)
    (places_stops (9 - 1) (w4.heap.size + 1) ⟨c_, r_, C, B, N, m_, j_, p_, l_, y_⟩ N C B rfl rfl rfl (by omega) (by omega) (by omega) W0 f0) KB.t (KB.b (by omega)) (Below.refl _ _) (fun _ => rfl)
    (fun pre W => (Cub .i32 21 97 82 ac E C N B pf (fun c i b => tl (fun i c b => PX c i b) pre i c b) W ∧ W0.heap.size ≤ W.heap.size) ∧ Exc ac E W0 W)
    (fun _ _ _ => False)
    (OwnFrom.and (own_cub (F := fun (pre : List (Plc N C B)) c i b => tl (fun i c b => PX c i b) pre i c b) s3 (by omega) (Nat.le_refl _)) (own_exc (Nat.le_refl _)))
    (fun _ _ _ _ _ hs _ _ => hs)
    ⟨⟨c0, Nat.le_refl _⟩, Exc.refl _ _ _⟩
    (fun x a' W => ∃ Bx, W0.heap.size ≤ Bx ∧ Blk W Bx (pc x) 94 ∧ ∃ ts : Array Value, a' = { tmps := ts, defers := [] } ∧ ts.size = 56 ∧ ts[2]? = some (.pointer (some ⟨w.heap.size, 0, none⟩)) ∧ ts[3]? = some (.pointer (some ⟨w.heap.size + 1, 0, none⟩)) ∧ ts[7]? = some (.pointer (some ⟨E, 0, none⟩)) ∧ ts[8]? = some (.pointer (some ⟨w4.heap.size, 0, none⟩)) ∧ ts[9]? = some (.pointer (some ⟨Bx, 0, none⟩)))
    (fun x a' _ X Y row hs hg hr => by obtain ⟨Bx, h1, h2, h3⟩ := hs; exact ⟨Bx, h1, own_blk _ Bx _ _ () X Y row h2 hg hr, h3⟩)
    ?_ ?_ ?_ ?_
  · rintro l pre x W K' ⟨⟨hI, hz⟩, hE⟩ hK
    have hx : pv x = .agg #[.int .i64 (x.1.val : Int), .int .i64 (x.2.1.val : Int), .int .i64 (x.2.2.val : Int)] := rfl
    gi_wp2
    exact hK _ _ ((KeepsOthers.alloc _ _).from _) (kb_below (bel1 W _) (by omega)) ⟨⟨hI.below s3 (bel1 W _) (by omega), by rw [alloc_size]; omega⟩, hE.below (bel1 W _)⟩ ⟨W.heap.size, hz, Blk.new W _ _, _, rfl, rfl, rfl, rfl, rfl, rfl, rfl⟩
  · rintro l pre x a' W hl _ ⟨⟨hI, hz⟩, hE⟩ ⟨Bx, hBx, bX, ts, rfl, hts, ht2, ht3, ht7, ht8, ht9⟩ hlt
    obtain ⟨t, rfl⟩ := slotsP ts _ _ _ _ _ hts ht2 ht3 ht7 ht8 ht9
    clear ht2 ht3 ht7 ht8 ht9 hts
    have hi := x.1.isLt
    have hc := x.2.1.isLt
    have hb := x.2.2.isLt
    have HK : Hid (∀ wx, (KA .i32 21 97 82 ac E C N B pf W0 wx ∧ Blk wx Bx (pc x) 94) → wx.cell? ⟨w.heap.size + 1, 0, none⟩ = some (.slice (some ⟨bj, oj, none⟩) B cj) ∧ wx.cell? ⟨w.heap.size + 1, 1, none⟩ = some (.slice (some ⟨bs, os, none⟩) C cs) ∧ wx.cell? ⟨w.heap.size + 1, 2, none⟩ = some (.slice (some ⟨bc, oc, none⟩) N cc) ∧
        wx.cell? ⟨Bx, 0, none⟩ = some (.int .i64 (x.1.val : Int)) ∧ wx.cell? ⟨Bx, 1, none⟩ = some (.int .i64 (x.2.1.val : Int)) ∧ wx.cell? ⟨Bx, 2, none⟩ = some (.int .i64 (x.2.2.val : Int)) ∧
        wx.cell? ⟨w4.heap.size, 0, none⟩ = some (.slice (some ⟨a, 0, none⟩) C C) ∧ wx.cell? ⟨E, 0, none⟩ = some (.slice (some ⟨ac, 0, none⟩) C C) ∧
        wx.cell? ⟨ac, x.2.1.val, none⟩ = some (.slice (some ⟨pf x.2.1.val, 0, none⟩) N N) ∧ wx.cell? ⟨pf x.2.1.val, x.1.val, none⟩ = some (.slice (some ⟨pf x.2.1.val + 1 + x.1.val, 0, none⟩) B B) ∧ (∃ u, wx.cell? ⟨pf x.2.1.val + 1 + x.1.val, x.2.2.val, none⟩ = some u) ∧ wx.frozen? ⟨pf x.2.1.val + 1 + x.1.val, x.2.2.val, none⟩ = false) := fun wx hx => by
      have ke := hx.1.exc
      obtain ⟨G, kc⟩ := hx.1.cub
      have pbx := ke.blk p0 (by omega)
      have ux := ke.blk u0 (by omega)
      have ex := ke.blk e0 (by omega)
      obtain ⟨d1, d2, d3, d4, _⟩ := kc.all hc hi hb
      exact ⟨pbx.cell rfl, pbx.cell rfl, pbx.cell rfl, hx.2.cell rfl, hx.2.cell rfl, hx.2.cell rfl, ux.cell rfl, ex.cell rfl, d1, d2, ⟨_, d3⟩, d4⟩
    have K : Hid (KA .i32 21 97 82 ac E C N B pf W0 W ∧ Blk W Bx (pc x) 94) := show _ ∧ _ from ⟨⟨hE, _, hI⟩, bX⟩
    have hlev := level_any W.heap.size N C B (.slice (some ⟨bj, oj, none⟩) B cj) (.slice (some ⟨bs, os, none⟩) C cs) (.slice (some ⟨bc, oc, none⟩) N cc) (.slice (some ⟨a, 0, none⟩) C C) m.q m.s U x.1.val x.2.1.val x.2.2.val W.drew ((vc0.keep fun k hk => hE.block k (by omega) (by omega)).mono (by omega)) ((vs0.keep fun k hk => hE.block k (by omega) (by omega)).mono (by omega)) ((g0.keep fun k h0 h1 => hE.block k (by omega) (by omega)).v2.mono (by omega)) (Nat.le_refl _) ⟨_, _, _, rfl⟩ hi hc hb (by omega) (by omega) (by omega)
    unfold pa at hlev
    obtain ⟨lv, hlv⟩ : ∃ lv, (Qnt.la (m.q x.1.val x.2.1.val x.2.2.val) (m.s x.2.1.val x.2.2.val) (U x.2.1.val x.2.2.val)).1 = lv := ⟨_, rfl⟩
    obtain ⟨le, hle⟩ : ∃ le, (Qnt.la (m.q x.1.val x.2.1.val x.2.2.val) (m.s x.2.1.val x.2.2.val) (U x.2.1.val x.2.2.val)).2 = le := ⟨_, rfl⟩
    rw [hlv, hle] at hlev
    have HLe : Hid (Calls _ _ _ _ _) := hlev
    have HNew : Hid (∀ wx, Cub .i32 21 97 82 ac E C N B pf (fun c i b => tl (fun i c b => PX c i b) pre i c b) wx → Cub .i32 21 97 82 ac E C N B pf (fun c i b => tl (fun i c b => PX c i b) (pre ++ [x]) i c b) (wx.setCell ⟨pf x.2.1.val + 1 + x.1.val, x.2.2.val, none⟩ (.int .i32 lv))) := fun wx hw => hw.set hc hi hb (by show lv = tl _ (pre ++ [x]) x.1.val x.2.1.val x.2.2.val; rw [tl_new, HV.out, hlv]) fun c' i' b' _ _ _ hne => tl_old x (by omega)
    have HI : Hid (Cub .i32 21 97 82 ac E C N B pf (fun c i b => tl (fun i c b => PX c i b) pre i c b) W) := hI
    have HE : Hid (Exc ac E W0 W) := hE
    have HZ : Hid (W0.heap.size ≤ W.heap.size) := hz
    have HCu := hI.all hc hi hb
    have i1 : (x.1.val : Int) < N := by omega
    have i2 : (x.2.1.val : Int) < C := by omega
    have i3 : (x.2.2.val : Int) < B := by omega
    have i4 : (0 : Int) ≤ x.1.val := by omega
    have i5 : (0 : Int) ≤ x.2.1.val := by omega
    have i6 : (0 : Int) ≤ x.2.2.val := by omega
    have HO : Hid (ac ≤ pf x.2.1.val + 1 + x.1.val ∧ pf x.2.1.val + 1 + x.1.val < E) := show _ ∧ _ by omega
    clear HCu hlev hI hE hlv hle bX
    gi_wp2
    refine region_round (S := fun wx => KA .i32 21 97 82 ac E C N B pf W0 wx ∧ Blk wx Bx (pc x) 94) (by kernel_rfl) (by kernel_rfl) (fun _ _ h => h) ⟨K.out.1.drew, K.out.2⟩ (fun hS1 => ?_)
    refine wpAnyH_take (i := 0) (oi := ⟨some 30, _, _, _, _, _⟩) (v := ?_) rfl (by kernel_rfl) (by kernel_rfl) (by kernel_rfl) (fun _ _ _ h => h) (Or.inl ⟨by rfl, ?_⟩) hS1 ?_
    rotate_left
    · intro wx hx; obtain ⟨f1, f2, f3, f4, f5, f6, f7, f8, f9, f10, f11⟩ := HK.out wx hx; go_simp; try with_reducible rfl
    try simp only [Act.put, List.setIfInBounds_toArray, List.set_cons_zero, List.set_cons_succ]
    refine wpAnyH_take (i := 1) (oi := ⟨some 31, _, _, _, _, _⟩) (v := ?_) rfl (by kernel_rfl) (by kernel_rfl) (by kernel_rfl) (fun _ _ _ h => h) (Or.inl ⟨by rfl, ?_⟩) hS1 ?_
    rotate_left
    · intro wx hx; obtain ⟨f1, f2, f3, f4, f5, f6, f7, f8, f9, f10, f11⟩ := HK.out wx hx; go_simp; try with_reducible rfl
    try simp only [Act.put, List.setIfInBounds_toArray, List.set_cons_zero, List.set_cons_succ]
    refine wpAnyH_take (i := 2) (oi := ⟨some 32, _, _, _, _, _⟩) (v := ?_) rfl (by kernel_rfl) (by kernel_rfl) (by kernel_rfl) (fun _ _ _ h => h) (Or.inl ⟨by rfl, ?_⟩) hS1 ?_
    rotate_left
    · intro wx hx; obtain ⟨f1, f2, f3, f4, f5, f6, f7, f8, f9, f10, f11⟩ := HK.out wx hx; go_simp; try with_reducible rfl
    try simp only [Act.put, List.setIfInBounds_toArray, List.set_cons_zero, List.set_cons_succ]
    refine wpAnyH_take (i := 3) (oi := ⟨some 33, _, _, _, _, _⟩) (v := ?_) rfl (by kernel_rfl) (by kernel_rfl) (by kernel_rfl) (fun _ _ _ h => h) (Or.inl ⟨by rfl, ?_⟩) hS1 ?_
    rotate_left
    · intro wx hx; obtain ⟨f1, f2, f3, f4, f5, f6, f7, f8, f9, f10, f11⟩ := HK.out wx hx; go_simp; try with_reducible rfl
    try simp only [Act.put, List.setIfInBounds_toArray, List.set_cons_zero, List.set_cons_succ]
    refine wpAnyH_take (i := 4) (oi := ⟨some 34, _, _, _, _, _⟩) (v := ?_) rfl (by kernel_rfl) (by kernel_rfl) (by kernel_rfl) (fun _ _ _ h => h) (Or.inl ⟨by rfl, ?_⟩) hS1 ?_
    rotate_left
    · intro wx hx; obtain ⟨f1, f2, f3, f4, f5, f6, f7, f8, f9, f10, f11⟩ := HK.out wx hx; go_simp; try with_reducible rfl
    try simp only [Act.put, List.setIfInBounds_toArray, List.set_cons_zero, List.set_cons_succ]
    refine wpAnyH_take (i := 5) (oi := ⟨some 35, _, _, _, _, _⟩) (v := ?_) rfl (by kernel_rfl) (by kernel_rfl) (by kernel_rfl) (fun _ _ _ h => h) (Or.inl ⟨by rfl, ?_⟩) hS1 ?_
    rotate_left
    · intro wx hx; obtain ⟨f1, f2, f3, f4, f5, f6, f7, f8, f9, f10, f11⟩ := HK.out wx hx; go_simp; try with_reducible rfl
    try simp only [Act.put, List.setIfInBounds_toArray, List.set_cons_zero, List.set_cons_succ]
    refine wpAnyH_take (i := 6) (oi := ⟨some 36, _, _, _, _, _⟩) (v := ?_) rfl (by kernel_rfl) (by kernel_rfl) (by kernel_rfl) (fun _ _ _ h => h) (Or.inl ⟨by rfl, ?_⟩) hS1 ?_
    rotate_left
    · intro wx hx; obtain ⟨f1, f2, f3, f4, f5, f6, f7, f8, f9, f10, f11⟩ := HK.out wx hx; go_simp; try with_reducible rfl
    try simp only [Act.put, List.setIfInBounds_toArray, List.set_cons_zero, List.set_cons_succ]
    refine wpAnyH_take (i := 7) (oi := ⟨some 37, _, _, _, _, _⟩) (v := ?_) rfl (by kernel_rfl) (by kernel_rfl) (by kernel_rfl) (fun _ _ _ h => h) (Or.inl ⟨by rfl, ?_⟩) hS1 ?_
    rotate_left
    · intro wx hx; obtain ⟨f1, f2, f3, f4, f5, f6, f7, f8, f9, f10, f11⟩ := HK.out wx hx; go_simp; try with_reducible rfl
    try simp only [Act.put, List.setIfInBounds_toArray, List.set_cons_zero, List.set_cons_succ]
    refine wpAnyH_take (i := 8) (oi := ⟨some 38, _, _, _, _, _⟩) (v := ?_) rfl (by kernel_rfl) (by kernel_rfl) (by kernel_rfl) (fun _ _ _ h => h) (Or.inl ⟨by rfl, ?_⟩) hS1 ?_
    rotate_left
    · intro wx hx; obtain ⟨f1, f2, f3, f4, f5, f6, f7, f8, f9, f10, f11⟩ := HK.out wx hx; go_simp; try with_reducible rfl
    try simp only [Act.put, List.setIfInBounds_toArray, List.set_cons_zero, List.set_cons_succ]
    refine wpAnyH_take (i := 9) (oi := ⟨some 39, _, _, _, _, _⟩) (v := ?_) rfl (by kernel_rfl) (by kernel_rfl) (by kernel_rfl) (fun _ _ _ h => h) (Or.inl ⟨by rfl, ?_⟩) hS1 ?_
    rotate_left
    · intro wx hx; obtain ⟨f1, f2, f3, f4, f5, f6, f7, f8, f9, f10, f11⟩ := HK.out wx hx; go_simp; try with_reducible rfl
    try simp only [Act.put, List.setIfInBounds_toArray, List.set_cons_zero, List.set_cons_succ]
    refine wpAnyH_take (i := 10) (oi := ⟨some 40, _, _, _, _, _⟩) (v := ?_) rfl (by kernel_rfl) (by kernel_rfl) (by kernel_rfl) (fun _ _ _ h => h) (Or.inl ⟨by rfl, ?_⟩) hS1 ?_
    rotate_left
    · intro wx hx; obtain ⟨f1, f2, f3, f4, f5, f6, f7, f8, f9, f10, f11⟩ := HK.out wx hx; go_simp; try with_reducible rfl
    try simp only [Act.put, List.setIfInBounds_toArray, List.set_cons_zero, List.set_cons_succ]
    refine wpAnyH_take (i := 11) (oi := ⟨some 41, _, _, _, _, _⟩) (v := ?_) rfl (by kernel_rfl) (by kernel_rfl) (by kernel_rfl) (fun _ _ _ h => h) (Or.inl ⟨by rfl, ?_⟩) hS1 ?_
    rotate_left
    · intro wx hx; obtain ⟨f1, f2, f3, f4, f5, f6, f7, f8, f9, f10, f11⟩ := HK.out wx hx; go_simp; try with_reducible rfl
    try simp only [Act.put, List.setIfInBounds_toArray, List.set_cons_zero, List.set_cons_succ]
    refine wpAnyH_take (i := 12) (oi := ⟨some 42, _, _, _, _, _⟩) (v := ?_) rfl (by kernel_rfl) (by kernel_rfl) (by kernel_rfl) (fun _ _ _ h => h) (Or.inl ⟨by rfl, ?_⟩) hS1 ?_
    rotate_left
    · intro wx hx; obtain ⟨f1, f2, f3, f4, f5, f6, f7, f8, f9, f10, f11⟩ := HK.out wx hx; go_simp; try with_reducible rfl
    try simp only [Act.put, List.setIfInBounds_toArray, List.set_cons_zero, List.set_cons_succ]
    refine wpAnyH_take (i := 13) (oi := ⟨some 43, _, _, _, _, _⟩) (v := ?_) rfl (by kernel_rfl) (by kernel_rfl) (by kernel_rfl) (fun _ _ _ h => h) (Or.inl ⟨by rfl, ?_⟩) hS1 ?_
    rotate_left
    · intro wx hx; obtain ⟨f1, f2, f3, f4, f5, f6, f7, f8, f9, f10, f11⟩ := HK.out wx hx; go_simp; try with_reducible rfl
    try simp only [Act.put, List.setIfInBounds_toArray, List.set_cons_zero, List.set_cons_succ]

    refine wpAnyH_ready (rs := [14]) (by kernel_rfl) (by simp) ?_
    refine AllReadyH.cons (o := ⟨some 44, _, _, _, _, _⟩) rfl (fun K' hK' => ?_) AllReadyH.nil
    go_simp
    refine HLe.out.mono ?_
    clear HLe
    rintro e w5 ⟨rfl, b5⟩
    have hS3 : KA .i32 21 97 82 ac E C N B pf W0 w5 ∧ Blk w5 Bx (pc x) 94 := ⟨hS1.1.below b5 s3 (by show E ≤ W.heap.size; have := HZ.out; omega), blk_below b5 hS1.2 hS1.2.lt⟩
    have B5 : Hid (Below W.drew.heap.size W.drew w5) := b5
    refine hK'.out _ _ hS3 (fun _ => ?_)
    clear hK' K' b5
    try simp only [Act.put, List.setIfInBounds_toArray, List.set_cons_zero, List.set_cons_succ]
    refine wpAnyH_take (i := 15) (oi := ⟨some 29, _, _, _, _, _⟩) (v := ?_) rfl (by kernel_rfl) (by kernel_rfl) (by kernel_rfl) (fun _ _ _ h => h) (Or.inl ⟨by rfl, ?_⟩) hS3 ?_
    rotate_left
    · intro wx hx; obtain ⟨f1, f2, f3, f4, f5, f6, f7, f8, f9, f10, f11⟩ := HK.out wx hx; go_simp; try with_reducible rfl
    try simp only [Act.put, List.setIfInBounds_toArray, List.set_cons_zero, List.set_cons_succ]
    refine wpAnyH_take (i := 16) (oi := ⟨some 45, _, _, _, _, _⟩) (v := ?_) rfl (by kernel_rfl) (by kernel_rfl) (by kernel_rfl) (fun _ _ _ h => h) (Or.inl ⟨by rfl, ?_⟩) hS3 ?_
    rotate_left
    · intro wx hx; obtain ⟨f1, f2, f3, f4, f5, f6, f7, f8, f9, f10, f11⟩ := HK.out wx hx; go_simp; try with_reducible rfl
    try simp only [Act.put, List.setIfInBounds_toArray, List.set_cons_zero, List.set_cons_succ]
    refine wpAnyH_take (i := 17) (oi := ⟨some 46, _, _, _, _, _⟩) (v := ?_) rfl (by kernel_rfl) (by kernel_rfl) (by kernel_rfl) (fun _ _ _ h => h) (Or.inl ⟨by rfl, ?_⟩) hS3 ?_
    rotate_left
    · intro wx hx; obtain ⟨f1, f2, f3, f4, f5, f6, f7, f8, f9, f10, f11⟩ := HK.out wx hx; go_simp; try with_reducible rfl
    try simp only [Act.put, List.setIfInBounds_toArray, List.set_cons_zero, List.set_cons_succ]
    refine wpAnyH_take (i := 18) (oi := ⟨some 47, _, _, _, _, _⟩) (v := ?_) rfl (by kernel_rfl) (by kernel_rfl) (by kernel_rfl) (fun _ _ _ h => h) (Or.inl ⟨by rfl, ?_⟩) hS3 ?_
    rotate_left
    · intro wx hx; obtain ⟨f1, f2, f3, f4, f5, f6, f7, f8, f9, f10, f11⟩ := HK.out wx hx; go_simp; try with_reducible rfl
    try simp only [Act.put, List.setIfInBounds_toArray, List.set_cons_zero, List.set_cons_succ]

    obtain ⟨f1, f2, f3, f4, f5, f6, f7, f8, f9, f10, ⟨u, f11⟩, f12⟩ := HK.out w5 hS3
    refine wpAnyH_ready (rs := [19]) (by kernel_rfl) (by simp) ?_
    refine AllReadyH.cons (o := ⟨none, _, _, _, _, _⟩) rfl (fun K' hK' => ?_) AllReadyH.nil
    go_simp
    refine hK'.out _ _ ⟨hS3.1.set hc hi hb _, hS3.2.set_ne (by show Bx ≠ pf x.2.1.val + 1 + x.1.val; have := HO.out; omega) _⟩ (fun _ => ?_)
    clear hK' K'
    try simp only [Act.put, List.setIfInBounds_toArray, List.set_cons_zero, List.set_cons_succ]
    refine wpAnyH_done (by kernel_rfl) ?_ _
    have b5' : Below W.heap.size W w5 := of_drew B5.out
    have eW : Exc ac E W (w5.setCell ⟨pf x.2.1.val + 1 + x.1.val, x.2.2.val, none⟩ (.int .i32 lv)) := Exc.set (Exc.of_below b5') HO.out _
    exact ⟨eW.keeps (by omega), eW.kb (by omega) (by have := HZ.out; omega), ⟨HNew.out _ (HI.out.below s3 b5' (by have := HZ.out; omega)), by have := eW.size; have := HZ.out; omega⟩, HE.out.trans eW⟩
  · rintro D zs W hD rfl ⟨⟨hI, hz⟩, hE⟩ hK
    have hDl : D < W.heap.size := (Array.getElem?_eq_some_iff.1 hK).1
    have hbW : Below w.heap.size w W := hbn.trans (hE.to_below (by omega) (by omega))
    have hP : Cub .i32 21 97 82 ac E C N B pf PX W := hI.ext fun c hc i hi b hb => tl_all hi hc hb
    have ex := hE.blk e0 (by omega)
    have z0 : W.cell? ⟨E, 0, none⟩ = some (.slice (some ⟨ac, 0, none⟩) C C) := ex.cell rfl
    have xs := box_cells (hE.blk ff0 (by omega)); dsimp only at xs; obtain ⟨x0, x1, x2, x3, x4, x5, x6, x7, x8, x9⟩ := xs
    have y0 : W.cell? ⟨w.heap.size + 1, 0, none⟩ = some (.slice (some ⟨bj, oj, none⟩) B cj) := (hE.blk p0 (by omega)).cell rfl
    rcases HJo.out with hj0 | ⟨hj1, hc2⟩
    · have hjb : (j_ == 1) = false := by simp; omega
      have HYe : Hid (PY = PX) := HYY.out hj0
      clear hj0
      go_wp2
      refine ⟨by simp, .inl ⟨_, _, rfl, run_takeDeferred hK, ?_⟩⟩
      refine ⟨.tuple #[.slice (some ⟨ac, 0, none⟩) C C, .int .i64 0], by simp [results, Tryz.f15, go_sem], _, rfl, hbW.trans (belowK_b (w := w) (Nat.le_refl _) _ D _ _ (by omega) hK rfl rfl), ?_⟩
      have hsF : (W.putObj D (.deferred none)).heap.size = W.heap.size := by simp
      have h3 : Cub .i32 21 97 82 ac E C N B pf PX (W.putObj D (.deferred none)) := hP.keep s3 fun b h0 h1 => World.putObj_heap_other (by omega)
      rw [HYe.out]
      exact (h3.b3 s3).mono (by omega) (by omega)
    · have hjb : (j_ == 1) = true := by simp; omega
      have hmx := HJn.out hj1 hc2 ac E pf W ⟨s3, by omega⟩ (vj0.keep fun k hk => hE.block k (by omega) (by omega)) (by omega) hP
      have ef := ex.free 0
      have HMx : Hid (Calls _ _ _ _ _) := hmx
      clear hj1 hc2 hmx
      go_wp2_with (go_at_call 46; refine HMx.out.mono ?_; clear HMx; rintro e w5 ⟨g, rfl, b5, h5⟩; have ex5 := blk_below b5 ex ex.lt; have v0 : w5.cell? ⟨E, 0, none⟩ = some (.slice (some ⟨ac, 0, none⟩) C C) := ex5.cell rfl; have v1 := ex5.free 0; have v2 : (w5.setCell ⟨E, 0, none⟩ (.slice (some ⟨g, 0, none⟩) C C)).cell? ⟨E, 0, none⟩ = some (.slice (some ⟨g, 0, none⟩) C C) := (ex5.set 0 _).cell rfl; have B5 : Hid (Below W.heap.size W w5) := b5; have H5 : Hid (B3 _ _ _ _ _ _ _ _ _) := h5; clear b5 h5)
      have k1 := (KeepsOthers.setCell w5 ⟨E, 0, none⟩ (.slice (some ⟨g, 0, none⟩) C C)).same D _ ((B5.out.block D hDl).trans hK) rfl
      refine ⟨by simp, .inl ⟨_, _, rfl, run_takeDeferred k1, ?_⟩⟩
      have hbw5 : Below w.heap.size w (w5.setCell ⟨E, 0, none⟩ (.slice (some ⟨g, 0, none⟩) C C)) := (hbW.trans (B5.out.mono hbW.size)).setCell (p := ⟨E, 0, none⟩) (by show w.heap.size ≤ E; omega) _
      refine ⟨.tuple #[.slice (some ⟨g, 0, none⟩) C C, .int .i64 0], by simp [results, Tryz.f15, go_sem], _, rfl, hbw5.trans (belowK_b (w := w) (Nat.le_refl _) _ D _ _ (by omega) k1 rfl rfl), ?_⟩
      have hsF : ((w5.setCell ⟨E, 0, none⟩ (.slice (some ⟨g, 0, none⟩) C C)).putObj D (.deferred none)).heap.size = w5.heap.size := by simp [World.setCell]
      have hs5 := B5.out.size
      exact (H5.out.keep fun b h0 h1 => (World.putObj_heap_other (by omega)).trans (Below.heap_setCell _ _ _ _ (by show b ≠ E; omega))).mono (by omega) (by omega)
  · rintro D c pre W _ _ h _
    exact h.elim

end Sub
end Go.Proofs.YtcaifpjbjghhaaaGreatDoor

