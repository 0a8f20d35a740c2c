import Derived.Test.YtcaifpjbjghhaaaGreatDoorSubP40
import Derived.Test.YtcaifpjbjghhaaaGreatDoorSubP27
/-
  Contract of Analyse: the parameters of planes. Conditions: as told at each.
-/
namespace Go.Proofs.YtcaifpjbjghhaaaGreatDoor
set_option linter.unusedVariables false
open Go.RowKit Go.Shelf
namespace Sub
open Bank (Blk But)
open Poly (Reads cell_keep alloc_size)
open _root_.Go.Proofs.YtcaifpjbjghhaaaGreatDoor.Form (fv fc bel1 Says box_cells box_behind blk_below of_drew)
attribute [local go_sem] Oper.semAt_some

theorem an_joint {f : M.Fmt} {C N B h P az ac E pb po pc : Nat} {pf : Nat → Nat} {vj : Value} {J : Nat → Int} {X : Nat → Nat → Nat → Int} {w W : World} (hj : f.j = 1) (hc : C = 2) (hN : 1 ≤ N ∧ N ≤ 40) (hB : 1 ≤ B ∧ B ≤ 8) (hX : ∀ c, Qnt.F32 (X c))
    (a : An0 f C B N h P az ac E pf vj (.slice (some ⟨pb, po, none⟩) C pc) J X w W) :
    Calls Tryz.prog 45 #[.slice (some ⟨pb, po, none⟩) C pc] W fun e W2 => ∃ g, e = .returned (.slice (some ⟨g, 0, none⟩) B B) ∧ An0 f C B N h P az ac E pf vj (.slice (some ⟨pb, po, none⟩) C pc) J X w W2 ∧
      An0 f C B N h P az ac E pf (.slice (some ⟨g, 0, none⟩) B B) (.slice (some ⟨pb, po, none⟩) C pc) (M.anJ f N B X) X w (W2.setCell ⟨P, 0, none⟩ (.slice (some ⟨g, 0, none⟩) B B)) ∧
      Calls Tryz.prog 46 #[.slice (some ⟨pb, po, none⟩) C pc, .slice (some ⟨g, 0, none⟩) B B, .func (.func 47) #[] #[]] (W2.setCell ⟨P, 0, none⟩ (.slice (some ⟨g, 0, none⟩) B B)) fun e W3 => ∃ gm, e = .returned (.slice (some ⟨gm, 0, none⟩) C C) ∧
        An0 f C B N h P az ac E pf (.slice (some ⟨g, 0, none⟩) B B) (.slice (some ⟨pb, po, none⟩) C pc) (M.anJ f N B X) X w W3 ∧
        An0 f C B N h P az ac E pf (.slice (some ⟨g, 0, none⟩) B B) (.slice (some ⟨gm, 0, none⟩) C C) (M.anJ f N B X) (M.anX f N B X) w (W3.setCell ⟨h + 1, 0, none⟩ (.slice (some ⟨gm, 0, none⟩) C C)) := by
  subst hc
  have eJ : M.anJ f N B X = M.jn2 (X 0) (X 1) N B := by funext b; unfold M.anJ; rw [if_pos hj]
  have v := a.v3
  obtain ⟨_, hpb, hx⟩ := v.at
  obtain ⟨b0, o0, c0, k0, e0, w0⟩ := hx 0 (by omega)
  obtain ⟨b1, o1, c1, k1, e1, w1⟩ := hx 1 (by omega)
  refine (joinsOf_ok W.heap.size pb po pc _ _ N B (X 0) (X 1) W hpb e0 e1 w0.vw w1.vw (hX 0) (hX 1) (Nat.le_refl _) hN.1 hN.2 hB.1 hB.2).mono ?_
  rintro e W2 ⟨g, rfl, bel, hg, rw'⟩
  have a2 := a.below bel
  have o := a.ord
  have a3 : An0 f 2 B N h P az ac E pf (.slice (some ⟨g, 0, none⟩) B B) (.slice (some ⟨pb, po, none⟩) 2 pc) (M.anJ f N B X) X w (W2.setCell ⟨P, 0, none⟩ (.slice (some ⟨g, 0, none⟩) B B)) := a2.setJ (by rw [eJ]; exact rw') (by omega)
  refine ⟨g, rfl, a2, a3, ?_⟩
  generalize W2.setCell ⟨P, 0, none⟩ (.slice (some ⟨g, 0, none⟩) B B) = W3 at *
  have v3 := a3.v3
  obtain ⟨_, hpb, hx⟩ := v3.at
  obtain ⟨b0, o0, c0, k0, e0, w0⟩ := hx 0 (by omega)
  obtain ⟨b1, o1, c1, k1, e1, w1⟩ := hx 1 (by omega)
  obtain ⟨g', hge, hgr, _, _, _, _⟩ := a3.joins
  obtain rfl : g = g' := by injection hge with h1; injection h1 with h2; injection h2
  refine (mixed_any _ _ _ mx_middle W3.heap.size (g + 1) pb po pc _ _ _ N B (X 0) (X 1) (M.anJ f N B X) W3 hpb e0 e1 w0 w1 (hX 0) (hX 1) hgr.v1 (Nat.le_refl _) hgr.lt hN.1 hN.2 hB.1 hB.2).mono ?_
  rintro e W4 ⟨gm, x, y, rfl, ⟨l0, l1, l2⟩, bel4, tb, g1, g2⟩
  have a4 := a3.below bel4
  have o3 := a3.ord
  refine ⟨gm, rfl, a4, a4.setP (lo := W3.heap.size) (hi := W4.heap.size) (pair_b3 tb (g1.ext fun i _ b _ => ?_) (g2.ext fun i _ b _ => ?_) ⟨l0, tb.lt⟩ ⟨l1, g1.lt⟩ ⟨l2, g2.lt⟩) (by omega) (Nat.le_refl _)⟩
  · unfold M.anX; rw [if_pos hj, if_pos rfl, eJ]
  · unfold M.anX; rw [if_pos hj, if_neg (by decide), eJ]

theorem slots_get (ts : Array Value) (n : Nat) (h : ts.size = n) : ts = ((List.range n).map fun k => ts.getD k (.bool false)).toArray := by
  apply Array.ext
  · simp [h]
  · intro i h1 h2
    simp [Array.getD, h1]
theorem slotsA (ts : Array Value) (p2 p3 p4 p6 p9 p10 : Value) (hs : ts.size = 109) (h2 : ts[2]? = some p2) (h3 : ts[3]? = some p3) (h4 : ts[4]? = some p4) (h6 : ts[6]? = some p6) (h9 : ts[9]? = some p9) (h10 : ts[10]? = some p10) : ∃ t : Nat → Value, ts = #[t 0, t 1, p2, p3, p4, t 5, p6, t 7, t 8, p9, p10, t 11, t 12, t 13, t 14, t 15, t 16, t 17, t 18, t 19, t 20, t 21, t 22, t 23, t 24, t 25, t 26, t 27, t 28, t 29, t 30, t 31, t 32, t 33, t 34, t 35, t 36, t 37, t 38, t 39, t 40, t 41, t 42, t 43, t 44, t 45, t 46, t 47, t 48, t 49, t 50, t 51, t 52, t 53, t 54, t 55, t 56, t 57, t 58, t 59, t 60, t 61, t 62, t 63, t 64, t 65, t 66, t 67, t 68, t 69, t 70, t 71, t 72, t 73, t 74, t 75, t 76, t 77, t 78, t 79, t 80, t 81, t 82, t 83, t 84, t 85, t 86, t 87, t 88, t 89, t 90, t 91, t 92, t 93, t 94, t 95, t 96, t 97, t 98, t 99, t 100, t 101, t 102, t 103, t 104, t 105, t 106, t 107, t 108] := by
  have e := slots_get ts 109 hs
  refine ⟨fun k => ts.getD k (.bool false), ?_⟩
  have e2 : ts.getD 2 (.bool false) = p2 := by rw [Array.getD_eq_getD_getElem?, h2]; rfl
  have e3 : ts.getD 3 (.bool false) = p3 := by rw [Array.getD_eq_getD_getElem?, h3]; rfl
  have e4 : ts.getD 4 (.bool false) = p4 := by rw [Array.getD_eq_getD_getElem?, h4]; rfl
  have e6 : ts.getD 6 (.bool false) = p6 := by rw [Array.getD_eq_getD_getElem?, h6]; rfl
  have e9 : ts.getD 9 (.bool false) = p9 := by rw [Array.getD_eq_getD_getElem?, h9]; rfl
  have e10 : ts.getD 10 (.bool false) = p10 := by rw [Array.getD_eq_getD_getElem?, h10]; rfl
  rw [← e2, ← e3, ← e4, ← e6, ← e9, ← e10]
  exact e
set_option maxRecDepth 100000 in
set_option maxHeartbeats 8000000 in
theorem Analyse_ok (hi : Nat) (f : M.Fmt) (C B N r : Nat) (v : Value) (X : Nat → Nat → Nat → Int) (sl : Int) (w : World) (hT : Alloc.Tabs w) (hF : Sb f C B N r) (hS : Sh f C B r (M.anS f N B X) sl) (hv : V3 .i32 hi v C N B X w) (hX : ∀ c, Qnt.F32 (X c)) (hh : hi ≤ w.heap.size) :
    Calls Tryz.prog 14 #[fv f, v] w fun e w' => ∃ vj vs vc, e = .returned (.tuple #[pa vj vs vc, .int .i64 0]) ∧ Below w.heap.size w w' ∧ V1 .i64 w'.heap.size vj B (M.anJ f N B X) w' ∧ V2 .i64 w'.heap.size vs C B (M.anS f N B X) w' ∧ V3 .i64 w'.heap.size vc N C B (M.anQ f C B N r sl X) w' := by
  have n16 := hF.n16
  have c2 := hF.c2
  have b8 := hF.b8
  obtain ⟨pb, po, px, rfl⟩ := hv.form
  obtain ⟨W1, hW1⟩ : ∃ W1, ((w.alloc (.cells (fc f) 23)).alloc (.cells #[.slice (some ⟨pb, po, none⟩) C px] 24)).alloc (.cells nil3 33) = W1 := ⟨_, rfl⟩
  have sz1 : W1.heap.size = w.heap.size + 3 := by rw [← hW1]; simp
  have bel : Below w.heap.size w W1 := by rw [← hW1]; exact ((bel1 _ _).alloc (bel1 _ _).size _).alloc (by simp; omega) _
  have hf1 : Blk W1 w.heap.size (fc f) 23 := by rw [← hW1]; exact ((Blk.new w _ _).alloc _).alloc _
  have hp1 : Blk W1 (w.heap.size + 1) #[.slice (some ⟨pb, po, none⟩) C px] 24 := by
    rw [← hW1]
    have := Blk.new (w.alloc (.cells (fc f) 23)) #[.slice (some ⟨pb, po, none⟩) C px] 24
    rw [alloc_size] at this
    exact this.alloc _
  have hr1 : Blk W1 (w.heap.size + 2) nil3 33 := by
    rw [← hW1]
    have := Blk.new ((w.alloc (.cells (fc f) 23)).alloc (.cells #[.slice (some ⟨pb, po, none⟩) C px] 24)) nil3 33
    rw [alloc_size, alloc_size] at this
    exact this
  have hB3 : B3 .i32 0 hi (.slice (some ⟨pb, po, none⟩) C px) C N B X W1 := (hv.below bel hh).b3
  have h1 : Calls Tryz.prog 42 #[fv f] W1 fun e w' => e = .returned (.bool true) ∧ Below W1.heap.size W1 w' := (isSub_any f W1).mono fun e w' ⟨q, he, hb, hq⟩ => ⟨by rw [he, hq.2 hF.ok], hb⟩
  have h2 : ∀ wx, Below W1.heap.size W1 wx → Calls Tryz.prog 43 #[fv f, .slice (some ⟨pb, po, none⟩) C px] wx fun e w' => e = .returned (.bool true) ∧ Below W1.heap.size W1 w' := fun wx hb =>
    (arePlanes_any hi f _ C (fun _ => N) (fun _ _ => B) wx (((hv.below bel hh).below hb (by have := bel.size; omega)).l3) (by have := bel.size; have := hb.size; omega) (by omega) (fun i hi => ⟨by omega, fun j hj => by omega⟩)).mono fun e w' ⟨q, he, hb', hq⟩ => ⟨by rw [he, hq.2 ⟨hF.hC.symm, fun i _ => ⟨hF.hN.symm, fun j _ => hF.hB.symm⟩⟩], hb.trans (hb'.mono hb.size)⟩
  have h3 : ∀ wx, Below W1.heap.size W1 wx → Calls Tryz.prog 44 #[fv f] wx fun e w' => ∃ aj az ac E pf, e = .returned (pa (.slice (some ⟨aj, 0, none⟩) B B) (.slice (some ⟨az, 0, none⟩) C C) (.slice (some ⟨ac, 0, none⟩) N N)) ∧ Below W1.heap.size W1 w' ∧
      An0 f C B N w.heap.size w'.heap.size az ac E pf (.slice (some ⟨aj, 0, none⟩) B B) (.slice (some ⟨pb, po, none⟩) C px) (fun _ => 0) X w (w'.alloc (.cells #[.slice (some ⟨aj, 0, none⟩) B B, .slice (some ⟨az, 0, none⟩) C C, .slice (some ⟨ac, 0, none⟩) N N] 33)) := fun wx hb => by
    refine (blank_any f C B N wx hF.hC hF.hB hF.hN (by omega) (by omega) (by omega)).mono ?_
    rintro e w3 ⟨aj, az, ac, E, pf, rfl, b3, ap, md, lo3, l1, l2, l3⟩
    have b13 := hb.trans (b3.mono hb.size)
    have b4 : Below w3.heap.size w3 (w3.alloc (.cells #[.slice (some ⟨aj, 0, none⟩) B B, .slice (some ⟨az, 0, none⟩) C C, .slice (some ⟨ac, 0, none⟩) N N] 33)) := bel1 _ _
    have b14 := b13.trans (b4.mono b13.size)
    have s3 := hb.size
    have s4 := b13.size
    have j1 := ap.js
    have j2 := ap.jq
    have j3 := ap.sq
    have j4 := ap.e
    refine ⟨aj, az, ac, E, pf, rfl, b13, rfl, bel.trans (b14.mono bel.size), blk_below b14 hf1 hf1.lt, blk_below b14 hp1 hp1.lt, blk_below b14 hr1 hr1.lt, Blk.new _ _ _, ⟨aj, rfl, md.j.keep (b4.block aj l1), by omega, by omega, by omega, by omega⟩, md.s.below b4 l2, md.q.below ap.e b4 l3, ⟨0, hi, hB3.keep fun k _ hk => b14.block k (by have := bel.size; omega), ?_, .inl (by omega)⟩, ?_⟩
    · have := b14.size; omega
    · have := b4.size; rw [alloc_size] at this; rw [alloc_size]; omega
  have H2 : Hid _ := h2
  have H3 : Hid _ := h3
  have hpl := fun wx => places_any f wx
  have HP : Hid _ := hpl
  have HT : Hid (Alloc.Tabs w) := hT
  have HF : Hid (Sb f C B N r) := hF
  have HSh : Hid (Sh f C B r (M.anS f N B X) sl) := hS
  have HX : Hid (∀ c, Qnt.F32 (M.anX f N B X c)) := M.anX_32 hX
  have HSC : Hid (∀ c, M.anS f N B X c = M.scl (M.anX f N B X c) N) := fun c => rfl
  have HQ : Hid (∀ i c b, M.anQ f C B N r sl X i c b = (Qnt.qa (M.anX f N B X c i b) (M.anS f N B X c b) (M.wid f C B r (M.anS f N B X) sl c b)).1) := fun i c b => rfl
  have HSB : Hid (∀ c, c < C → ∀ b, b < B → 0 ≤ M.anS f N B X c b ∧ M.anS f N B X c b ≤ 15) := fun c _ b _ => M.anS_bd f N B X c b
  have hXX : f.j = 0 → M.anX f N B X = X := fun h => by funext c; unfold M.anX; rw [if_neg (by omega)]
  have hJJ : f.j = 0 → M.anJ f N B X = fun _ => 0 := fun h => by funext b; unfold M.anJ; rw [if_neg (by omega)]
  have hJo := fun (hj : f.j = 1) (hc : C = 2) P az ac E pf vj pb po px (J : Nat → Int) W => an_joint (f := f) (C := C) (N := N) (B := B) (h := w.heap.size) (P := P) (az := az) (ac := ac) (E := E) (pb := pb) (po := po) (pc := px) (pf := pf) (vj := vj) (J := J) (w := w) (W := W) (X := X) hj hc ⟨by omega, by omega⟩ ⟨by omega, by omega⟩ hX
  have HJo : Hid _ := hJo
  obtain ⟨x0, x1, x2, x3, x4, x5, x6, x7, x8, x9⟩ := box_cells hf1
  have q0 : W1.cell? ⟨w.heap.size + 1, 0, none⟩ = some (.slice (some ⟨pb, po, none⟩) C px) := hp1.cell rfl
  have HF1 : Hid (Blk W1 w.heap.size (fc f) 23) := hf1
  have HP1 : Hid (Blk W1 (w.heap.size + 1) #[.slice (some ⟨pb, po, none⟩) C px] 24) := hp1
  have hjo := hF.joint
  have hN := hF.hN
  have hC := hF.hC
  have hB := hF.hB
  clear bel hf1 hp1 hr1 hB3 h2 h3 hpl hT hF hS hv hX hJo
  generalize M.anJ f N B X = AJ at *
  generalize M.anX f N B X = AX at *
  generalize M.anQ f C B N r sl X = AQ at *
  generalize M.anS f N B X = AS at *
  unfold pa at H3 ⊢
  unfold nil3 at hW1
  refine (callsIn_wide (n := 9)).1 (callsIn_of_wp_marks Tryz.func14 rfl trivial (wpIn_wide.2 ?_) rfl)
  simp only [Tryz.ntmps14, List.size_toArray, List.length_cons, List.length_nil, Nat.reduceAdd, Nat.reduceSub, Array.replicate_succ, Array.replicate_zero, List.push_toArray, List.append_toArray, List.nil_append, List.cons_append]
  obtain ⟨c_, r_, h_, b_, k_, m_, j_, p_, l_, y_⟩ := f
  obtain rfl : h_ = C := hC
  obtain rfl : b_ = B := hB
  obtain rfl : k_ = N := hN
  unfold fv at h1 H2 H3 HP ⊢
  unfold fc at hW1
  dsimp only at h1 H2 H3 HP hW1 x0 x1 x2 x3 x4 x5 x6 x7 x8 x9 hjo hXX hJJ ⊢
  rcases hjo with hj0 | ⟨hj1, hc2⟩
  case' inl =>
    have hjb : (j_ == 1) = false := by simp; omega
    have HXX : Hid (AX = X) := hXX hj0
    have HJJ : Hid (AJ = fun _ => 0) := hJJ hj0
    clear hXX hJJ hj0
    go_wp2_with (first
      | (go_at_call 42; refine h1.mono ?_; clear h1; rintro e w2 ⟨rfl, b2⟩; have h2 := H2.out w2 b2; clear H2 x0 x1 x2 x3 x4 x5 x6 x7 x8 x9 q0; have xs := box_cells (blk_below b2 HF1.out HF1.out.lt); dsimp only at xs; obtain ⟨x0, x1, x2, x3, x4, x5, x6, x7, x8, x9⟩ := xs; have q0 : w2.cell? ⟨w.heap.size + 1, 0, none⟩ = some (.slice (some ⟨pb, po, none⟩) C px) := (blk_below b2 HP1.out HP1.out.lt).cell rfl; clear b2)
      | (go_at_call 43; refine h2.mono ?_; clear h2; rintro e w3 ⟨rfl, b3⟩; have h3 := H3.out w3 b3; clear H3 x0 x1 x2 x3 x4 x5 x6 x7 x8 x9 q0; have xs := box_cells (blk_below b3 HF1.out HF1.out.lt); dsimp only at xs; obtain ⟨x0, x1, x2, x3, x4, x5, x6, x7, x8, x9⟩ := xs; clear b3)
      | (go_at_call 44; refine h3.mono ?_; clear h3; rintro e w4 ⟨aj, az, ac, E, pf, rfl, b4, a4⟩; clear x0 x1 x2 x3 x4 x5 x6 x7 x8 x9; have xs := box_cells a4.fb; dsimp only at xs; obtain ⟨x0, x1, x2, x3, x4, x5, x6, x7, x8, x9⟩ := xs; have q0 : (w4.alloc (.cells #[.slice (some ⟨aj, 0, none⟩) B B, .slice (some ⟨az, 0, none⟩) C C, .slice (some ⟨ac, 0, none⟩) N N] 33)).cell? ⟨w.heap.size + 1, 0, none⟩ = some (.slice (some ⟨pb, po, none⟩) C px) := a4.pl.cell rfl; have A4 : Hid (An0 _ _ _ _ _ _ _ _ _ _ _ _ _ _ _ _) := a4; clear a4 b4))
    obtain ⟨mb, mo, mc, hm⟩ : ∃ mb mo mc, Value.slice (some ⟨pb, po, none⟩) C px = .slice (some ⟨mb, mo, none⟩) C mc := ⟨_, _, _, rfl⟩
    obtain ⟨Wn, hWn⟩ : ∃ Wn, w4.alloc (.cells #[.slice (some ⟨aj, 0, none⟩) B B, .slice (some ⟨az, 0, none⟩) C C, .slice (some ⟨ac, 0, none⟩) N N] 33) = Wn := ⟨_, rfl⟩
    rw [hWn]
    obtain ⟨P, hP⟩ : ∃ P, w4.heap.size = P := ⟨_, rfl⟩
    rw [hP]
    obtain ⟨vj, hvj⟩ : ∃ vj, Value.slice (some ⟨aj, 0, none⟩) B B = vj := ⟨_, rfl⟩
    have a4 := A4.out
    rw [← HJJ.out, ← HXX.out, hWn, hP, hvj, hm] at a4
    try rw [hm]
    have hA : Hid (An0 ⟨c_, r_, C, B, N, m_, j_, p_, l_, y_⟩ C B N w.heap.size P az ac E pf vj (.slice (some ⟨mb, mo, none⟩) C mc) AJ AX w Wn) := a4
    clear a4 A4 q0 x0 x1 x2 x3 x4 x5 x6 x7 x8 x9 hWn hP hvj hm hW1
  case' inr =>
    have hjb : (j_ == 1) = true := by simp; omega
    have HJ1 : Hid (j_ = 1) := hj1
    have HC2 : Hid (C = 2) := hc2
    clear hXX hJJ hj1 hc2
    go_wp2_with (first
      | (go_at_call 42; refine h1.mono ?_; clear h1; rintro e w2 ⟨rfl, b2⟩; have h2 := H2.out w2 b2; clear H2 x0 x1 x2 x3 x4 x5 x6 x7 x8 x9 q0; have xs := box_cells (blk_below b2 HF1.out HF1.out.lt); dsimp only at xs; obtain ⟨x0, x1, x2, x3, x4, x5, x6, x7, x8, x9⟩ := xs; have q0 : w2.cell? ⟨w.heap.size + 1, 0, none⟩ = some (.slice (some ⟨pb, po, none⟩) C px) := (blk_below b2 HP1.out HP1.out.lt).cell rfl; clear b2)
      | (go_at_call 43; refine h2.mono ?_; clear h2; rintro e w3 ⟨rfl, b3⟩; have h3 := H3.out w3 b3; clear H3 x0 x1 x2 x3 x4 x5 x6 x7 x8 x9 q0; have xs := box_cells (blk_below b3 HF1.out HF1.out.lt); dsimp only at xs; obtain ⟨x0, x1, x2, x3, x4, x5, x6, x7, x8, x9⟩ := xs; clear b3)
      | (go_at_call 44; refine h3.mono ?_; clear h3; rintro e w4 ⟨aj, az, ac, E, pf, rfl, b4, a4⟩; clear x0 x1 x2 x3 x4 x5 x6 x7 x8 x9; have xs := box_cells a4.fb; dsimp only at xs; obtain ⟨x0, x1, x2, x3, x4, x5, x6, x7, x8, x9⟩ := xs; have q0 : (w4.alloc (.cells #[.slice (some ⟨aj, 0, none⟩) B B, .slice (some ⟨az, 0, none⟩) C C, .slice (some ⟨ac, 0, none⟩) N N] 33)).cell? ⟨w.heap.size + 1, 0, none⟩ = some (.slice (some ⟨pb, po, none⟩) C px) := a4.pl.cell rfl; have h5 := HJo.out HJ1.out HC2.out _ _ _ _ _ _ _ _ _ _ _ a4; clear a4 b4)
      | (go_at_call 45; refine h5.mono ?_; clear h5 q0 x0 x1 x2 x3 x4 x5 x6 x7 x8 x9; rintro e w5 ⟨g, rfl, a5, a6, h6⟩; have u1 : w5.cell? ⟨w4.heap.size, 0, none⟩ = some (.slice (some ⟨aj, 0, none⟩) B B) := a5.pb.cell rfl; have u2 := a5.pb.free 0; have u3 : (w5.setCell ⟨w4.heap.size, 0, none⟩ (.slice (some ⟨g, 0, none⟩) B B)).cell? ⟨w.heap.size + 1, 0, none⟩ = some (.slice (some ⟨pb, po, none⟩) C px) := a6.pl.cell rfl; have u4 : (w5.setCell ⟨w4.heap.size, 0, none⟩ (.slice (some ⟨g, 0, none⟩) B B)).cell? ⟨w4.heap.size, 0, none⟩ = some (.slice (some ⟨g, 0, none⟩) B B) := a6.pb.cell rfl; clear a5 a6)
      | (go_at_call 46; refine h6.mono ?_; clear h6 u1 u2 u3 u4; rintro e w7 ⟨gm, rfl, a7, a8⟩; have u1 : w7.cell? ⟨w.heap.size + 1, 0, none⟩ = some (.slice (some ⟨pb, po, none⟩) C px) := a7.pl.cell rfl; have u2 := a7.pl.free 0; have u3 : (w7.setCell ⟨w.heap.size + 1, 0, none⟩ (.slice (some ⟨gm, 0, none⟩) C C)).cell? ⟨w.heap.size + 1, 0, none⟩ = some (.slice (some ⟨gm, 0, none⟩) C C) := a8.pl.cell rfl; have A4 : Hid (An0 _ _ _ _ _ _ _ _ _ _ _ _ _ _ _ _) := a8; clear a7 a8))
    obtain ⟨mb, mo, mc, hm⟩ : ∃ mb mo mc, Value.slice (some ⟨gm, 0, none⟩) C C = .slice (some ⟨mb, mo, none⟩) C mc := ⟨_, _, _, rfl⟩
    obtain ⟨Wn, hWn⟩ : ∃ Wn, w7.setCell ⟨w.heap.size + 1, 0, none⟩ (.slice (some ⟨gm, 0, none⟩) C C) = Wn := ⟨_, rfl⟩
    rw [hWn]
    obtain ⟨P, hP⟩ : ∃ P, w4.heap.size = P := ⟨_, rfl⟩
    rw [hP]
    obtain ⟨vj, hvj⟩ : ∃ vj, Value.slice (some ⟨g, 0, none⟩) B B = vj := ⟨_, rfl⟩
    have a4 := A4.out
    rw [hWn, hP, hvj, hm] at a4
    try rw [hm]
    have hA : Hid (An0 ⟨c_, r_, C, B, N, m_, j_, p_, l_, y_⟩ C B N w.heap.size P az ac E pf vj (.slice (some ⟨mb, mo, none⟩) C mc) AJ AX w Wn) := a4
    clear a4 A4 u1 u2 u3 hWn hP hvj hm hW1
  all_goals (
    go_loopw [36] (fun i wr => ∃ q : Nat, q ≤ C ∧ i = .int .i64 q ∧ But az Wn wr ∧ ∃ gs, Hsc az C B q AS gs Wn.heap.size wr) (fun i _ => C - (intOf i).toNat)
    case atStart => exact ⟨0, by omega, rfl, Bank.But.refl _ _, fun _ => 0, Hsc.start hA.out.grd _⟩
    case round =>
      obtain ⟨q, hq, rfl, hb, gs, hs⟩ := hrel
      have o := hA.out.ord
      have hwn := hA.out.bel.size
      have szr := hb.size
      by_cases hlt : q < C
      · have hlt' : (q : Int) < C := by omega
        have hlt2 : (C : Int) ≤ 2 := by omega
        obtain ⟨b1, o1, c1, hpx⟩ := hA.out.plane hlt
        obtain ⟨p1, v2⟩ := hpx wr ((Exc.of_but hb).wide (by omega) (by omega))
        have hsc := Qnt.Scales_ok wr.heap.size _ N B (AX q) wr.drew v2.vw (HX.out q) (by omega) (by omega) (by omega) (by omega) (Nat.le_refl _)
        have HC : Hid (Calls _ _ _ _ _) := hsc
        have hd0 := hs.head
        have K : Hid (KH az C Wn wr.drew) := ⟨hb.drew, by obtain ⟨hd, h1, h2, _⟩ := hd0; exact ⟨hd, h1, h2⟩⟩
        have HPB : Hid (∀ wx, KH az C Wn wx → wx.cell? ⟨P, 1, none⟩ = some (.slice (some ⟨az, 0, none⟩) C C)) := fun wx hx => (hx.but.blk hA.out.pb (by omega)).cell rfl
        have HSs : Hid (Hsc az C B q AS gs Wn.heap.size wr) := hs
        have HBt : Hid (But az Wn wr) := hb
        clear hpx v2 hsc hd0 hs hb
        go_wp2
        refine wp_region_noPanic ?_
        refine wp_region_held_drew (S := KH az C Wn) (by kernel_rfl) K.out (fun _ => ?_)
        refine wpAnyH_take (i := 0) (oi := ⟨some 42, _, _, _, _, _⟩) (v := ?_) rfl (by kernel_rfl) (by kernel_rfl) (by kernel_rfl) (fun _ _ _ h => h) (Or.inl ⟨by rfl, ?_⟩) K.out ?_
        rotate_left
        · intro wx hx; have f1 := HPB.out wx hx; go_simp; try with_reducible rfl
        try simp only [Act.put, List.setIfInBounds_toArray, List.set_cons_zero, List.set_cons_succ]
        refine wpAnyH_take (i := 1) (oi := ⟨some 43, _, _, _, _, _⟩) (v := ?_) rfl (by kernel_rfl) (by kernel_rfl) (by kernel_rfl) (fun _ _ _ h => h) (Or.inl ⟨by rfl, ?_⟩) K.out ?_
        rotate_left
        · intro wx hx; have f1 := HPB.out wx hx; go_simp; try with_reducible rfl
        try simp only [Act.put, List.setIfInBounds_toArray, List.set_cons_zero, List.set_cons_succ]
        refine wpAnyH_take (i := 2) (oi := ⟨some 44, _, _, _, _, _⟩) (v := ?_) rfl (by kernel_rfl) (by kernel_rfl) (by kernel_rfl) (fun _ _ _ h => h) (Or.inl ⟨by rfl, ?_⟩) K.out ?_
        rotate_left
        · intro wx hx; have f1 := HPB.out wx hx; go_simp; try with_reducible rfl
        try simp only [Act.put, List.setIfInBounds_toArray, List.set_cons_zero, List.set_cons_succ]
        refine wpAnyH_take (i := 3) (oi := ⟨some 45, _, _, _, _, _⟩) (v := ?_) rfl (by kernel_rfl) (by kernel_rfl) (by kernel_rfl) (fun _ _ _ h => h) (Or.inl ⟨by rfl, ?_⟩) K.out ?_
        rotate_left
        · intro wx hx; have f1 := HPB.out wx hx; go_simp; try with_reducible rfl
        try simp only [Act.put, List.setIfInBounds_toArray, List.set_cons_zero, List.set_cons_succ]

        refine wpAnyH_ready (rs := [4]) (by kernel_rfl) (by simp) ?_
        refine AllReadyH.cons (o := ⟨some 46, _, _, _, _, _⟩) rfl (fun K' hK' => ?_) AllReadyH.nil
        go_simp
        refine HC.out.mono ?_
        clear HC
        rintro e w2 ⟨rfl, b2, tb, s2⟩
        have K2 : Hid (KH az C Wn w2) := K.out.below b2 (by show az < wr.heap.size; omega)
        have hs2 : Hsc az C B q AS gs Wn.heap.size w2 := HSs.out.keep (b2.block az (by show az < wr.heap.size; omega)) (fun k _ hk => b2.block k hk)
        have HS2 : Hid (Hsc az C B q AS gs Wn.heap.size w2) := hs2
        have hst : ∃ gs', Hsc az C B (q + 1) AS gs' Wn.heap.size (w2.setCell ⟨az, q, none⟩ (.slice (some ⟨wr.drew.heap.size + 1, 0, none⟩) B B)) := hs2.step hlt (by rw [HSC.out q]; exact tb) (by show Wn.heap.size ≤ wr.heap.size + 1; omega) (by omega)
        have HST : Hid (∃ gs', Hsc az C B (q + 1) AS gs' Wn.heap.size (w2.setCell ⟨az, q, none⟩ (.slice (some ⟨wr.drew.heap.size + 1, 0, none⟩) B B))) := hst
        obtain ⟨⟨u, hu⟩, hfz⟩ := K2.out.cell hlt
        clear b2 tb s2 hs2 hst
        refine hK'.out _ _ K2.out (fun _ => ?_)
        clear hK' K'
        try simp only [Act.put, List.setIfInBounds_toArray, List.set_cons_zero, List.set_cons_succ]
        refine wpAnyH_take (i := 5) (oi := ⟨some 41, _, _, _, _, _⟩) (v := ?_) rfl (by kernel_rfl) (by kernel_rfl) (by kernel_rfl) (fun _ _ _ h => h) (Or.inl ⟨by rfl, ?_⟩) K2.out ?_
        rotate_left
        · intro wx hx; go_simp; try with_reducible rfl
        try simp only [Act.put, List.setIfInBounds_toArray, List.set_cons_zero, List.set_cons_succ]
        refine wpAnyH_take (i := 6) (oi := ⟨some 47, _, _, _, _, _⟩) (v := ?_) rfl (by kernel_rfl) (by kernel_rfl) (by kernel_rfl) (fun _ _ _ h => h) (Or.inl ⟨by rfl, ?_⟩) K2.out ?_
        rotate_left
        · intro wx hx; go_simp; try with_reducible rfl
        try simp only [Act.put, List.setIfInBounds_toArray, List.set_cons_zero, List.set_cons_succ]
        refine wpAnyH_take (i := 7) (oi := ⟨some 48, _, _, _, _, _⟩) (v := ?_) rfl (by kernel_rfl) (by kernel_rfl) (by kernel_rfl) (fun _ _ _ h => h) (Or.inl ⟨by rfl, ?_⟩) K2.out ?_
        rotate_left
        · intro wx hx; go_simp; try with_reducible rfl
        try simp only [Act.put, List.setIfInBounds_toArray, List.set_cons_zero, List.set_cons_succ]
        refine wpAnyH_take (i := 8) (oi := ⟨some 49, _, _, _, _, _⟩) (v := ?_) rfl (by kernel_rfl) (by kernel_rfl) (by kernel_rfl) (fun _ _ _ h => h) (Or.inl ⟨by rfl, ?_⟩) K2.out ?_
        rotate_left
        · intro wx hx; go_simp; try with_reducible rfl
        try simp only [Act.put, List.setIfInBounds_toArray, List.set_cons_zero, List.set_cons_succ]

        refine wpAnyH_ready (rs := [9]) (by kernel_rfl) (by simp) ?_
        refine AllReadyH.cons (o := ⟨none, _, _, _, _, _⟩) rfl (fun K' hK' => ?_) AllReadyH.nil
        go_simp
        refine hK'.out _ _ (K2.out.set _) (fun _ => ?_)
        clear hK' K'
        try simp only [Act.put, List.setIfInBounds_toArray, List.set_cons_zero, List.set_cons_succ]
        refine wpAnyH_done (by kernel_rfl) ?_ _
        refine NoPanic.normal ?_
        go_wp2
        go_roundw
        case rel => exact ⟨q + 1, by omega, by go_num, (K2.out.set (q := q) _).but, HST.out⟩
        case measure => simp [intOf]; omega
      · obtain rfl : C = q := by omega
        have fb : Blk wr w.heap.size (fc ⟨c_, r_, C, B, N, m_, j_, p_, l_, y_⟩) 23 := hb.blk hA.out.fb (by omega)
        have pbb := hb.blk hA.out.pb (by omega)
        obtain ⟨gj, hgj, hrw, hj1, hj2, hj3, hj4⟩ := hA.out.joins
        subst hgj
        have belr : Below w.heap.size w wr := hA.out.bel.trans (hb.below (by omega) (by omega))
        have hv2 := hs.v2 (by omega)
        have hsh := sharesOf_any wr.heap.size ⟨c_, r_, C, B, N, m_, j_, p_, l_, y_⟩ C B r AS sl (.slice (some ⟨gj, 0, none⟩) B B) (.slice (some ⟨az, 0, none⟩) C C) (.slice (some ⟨ac, 0, none⟩) N N) wr (HT.out.below belr (Nat.le_refl _)) HSh.out hv2 (Nat.le_refl _) ⟨_, _, _, rfl⟩ ⟨_, _, _, rfl⟩ HSB.out
        unfold fv pa at hsh
        dsimp only at hsh
        have xs := box_cells fb
        dsimp only at xs
        obtain ⟨x0, x1, x2, x3, x4, x5, x6, x7, x8, x9⟩ := xs
        have y0 : wr.cell? ⟨P, 0, none⟩ = some (.slice (some ⟨gj, 0, none⟩) B B) := pbb.cell rfl
        have y1 : wr.cell? ⟨P, 1, none⟩ = some (.slice (some ⟨az, 0, none⟩) C C) := pbb.cell rfl
        have y2 : wr.cell? ⟨P, 2, none⟩ = some (.slice (some ⟨ac, 0, none⟩) N N) := pbb.cell rfl
        have HFb : Hid (Blk wr w.heap.size (fc ⟨c_, r_, C, B, N, m_, j_, p_, l_, y_⟩) 23) := fb
        have HSs : Hid (Hsc az C B C AS gs Wn.heap.size wr) := hs
        have HBt : Hid (But az Wn wr) := hb
        have HRw : Hid (Rw gj B AJ Wn) := hrw
        have HBr : Hid (Below w.heap.size w wr) := belr
        clear fb pbb hrw hv2 hs hb belr
        go_wp2_with (first
          | (go_at_call 49; refine hsh.mono ?_; clear hsh; rintro e w2 ⟨a, rfl, ha, b2, g2⟩; have G2 : Hid (Grd _ _ _ _ _ _ _ _) := g2; have HAa : Hid (wr.heap.size ≤ a) := ha; have zs := box_cells (Blk.alloc (blk_below b2 HFb.out HFb.out.lt) (.cells #[.slice (some ⟨a, 0, none⟩) C C] 26)); dsimp only at zs; obtain ⟨z0, z1, z2, z3, z4, z5, z6, z7, z8, z9⟩ := zs; have B2 : Hid (Below wr.heap.size wr w2) := b2; clear b2 g2 ha)
          | (go_at_call 50; refine (HP.out _).mono ?_; clear HP; rintro e w' ⟨rfl, hw⟩; rw [hw]; clear hw w'))
        obtain ⟨W0, hW0⟩ : ∃ W0, (w2.alloc (.cells #[.slice (some ⟨a, 0, none⟩) C C] 26)).alloc (.cells (fc ⟨c_, r_, C, B, N, m_, j_, p_, l_, y_⟩) 23) = W0 := ⟨_, rfl⟩
        have sz0 : W0.heap.size = w2.heap.size + 2 := by rw [← hW0]; simp
        have b20 : Below w2.heap.size w2 W0 := by rw [← hW0]; exact (bel1 _ _).alloc (bel1 _ _).size _
        have u0 : Blk W0 w2.heap.size #[.slice (some ⟨a, 0, none⟩) C C] 26 := by rw [← hW0]; exact (Blk.new w2 _ _).alloc _
        have f0 : Blk W0 (w2.heap.size + 1) (fc ⟨c_, r_, C, B, N, m_, j_, p_, l_, y_⟩) 23 := by
          rw [← hW0]
          have := Blk.new (w2.alloc (.cells #[.slice (some ⟨a, 0, none⟩) C C] 26)) (fc ⟨c_, r_, C, B, N, m_, j_, p_, l_, y_⟩) 23
          rw [alloc_size] at this
          exact this
        rw [hW0]
        have s2 := B2.out.size
        have b10 : Below wr.heap.size wr W0 := B2.out.trans (b20.mono s2)
        have e0 : Exc w.heap.size (P + 1) Wn W0 := ((Exc.of_but HBt.out).wide (by omega) (by omega)).below b10
        have g0 := G2.out.below b20 G2.out.lt
        have gl := G2.out.lt
        have hbn : Below w.heap.size w W0 := HBr.out.trans (b10.mono HBr.out.size)
        have hs0 : Hsc az C B C AS gs Wn.heap.size W0 := HSs.out.keep (b10.block az (by omega)) (fun k _ hk => b10.block k hk)
        have c0 : Cub .i64 3 25 26 ac E N C B pf (tl (N := N) (C := C) (B := B) AQ []) W0 := ((hA.out.cub.keep o.2.2.1 fun k h0 h1 => (HBt.out.block k (by omega) (by omega))).below o.2.2.1 b10 (by omega)).ext fun i _ c _ b _ => tl_nil.symm
        have p0 : Blk W0 P #[.slice (some ⟨gj, 0, none⟩) B B, .slice (some ⟨az, 0, none⟩) C C, .slice (some ⟨ac, 0, none⟩) N N] 33 := blk_below b10 (HBt.out.blk hA.out.pb (by omega)) (by omega)
        have l0 : Blk W0 (w.heap.size + 1) #[.slice (some ⟨mb, mo, none⟩) C mc] 24 := blk_below b10 (HBt.out.blk hA.out.pl (by omega)) (by omega)
        have r0 : Blk W0 (w.heap.size + 2) nil3 33 := blk_below b10 (HBt.out.blk hA.out.rb (by omega)) (by omega)
        have rw0 : Rw gj B AJ W0 := (HRw.out.keep (HBt.out.block gj HRw.out.lt hj1)).keep (b10.block gj (by have := HRw.out.lt; omega))
        have hgs : ∀ i, i < C → Wn.heap.size ≤ gs i ∧ gs i < wr.heap.size := fun i hi => ⟨HSs.out.low i hi, (HSs.out.row i hi).lt⟩
        have hgj := HRw.out.lt
        have hAa := HAa.out
        clear hW0 x0 x1 x2 x3 x4 x5 x6 x7 x8 x9 y0 y1 y2 z0 z1 z2 z3 z4 z5 z6 z7 z8 z9 HFb HSs HBr G2 B2 b20
        refine (wpIn_wide (n := 9)).1 ?_
        refine wpIn_rangeFunc_ownH rfl (by omega) (gf := 110) (lb := #[.pointer (some ⟨w2.heap.size + 1, 0, none⟩)]) rfl trivial (enters_of Tryz.func110 (by kernel_rfl) rfl)
          (places_stops (9 - 1) (w2.heap.size + 1) ⟨c_, r_, C, B, N, m_, j_, p_, l_, y_⟩ N C B rfl rfl rfl (by omega) (by omega) (by omega) W0 f0) KB.t (KB.b (by omega)) (Below.refl _ _) (fun _ => rfl)
          (fun pre W => (Cub .i64 3 25 26 ac E N C B pf (tl AQ pre) W ∧ W0.heap.size ≤ W.heap.size) ∧ Exc ac E W0 W)
          (fun _ _ _ => False)
          (OwnFrom.and (own_cub (F := fun pre : List (Plc N C B) => tl AQ pre) o.2.2.1 (by omega) (Nat.le_refl _)) (own_exc (Nat.le_refl _)))
          (fun _ _ _ _ _ hs _ _ => hs)
          ⟨⟨c0, Nat.le_refl _⟩, Exc.refl _ _ _⟩
          (fun x a' W => ∃ Bx, W0.heap.size ≤ Bx ∧ Blk W Bx (pc x) 94 ∧ ∃ ts : Array Value, a' = { tmps := ts, defers := [] } ∧ ts.size = 109 ∧ ts[2]? = some (.pointer (some ⟨w.heap.size, 0, none⟩)) ∧ ts[3]? = some (.pointer (some ⟨w.heap.size + 1, 0, none⟩)) ∧ ts[4]? = some (.pointer (some ⟨w.heap.size + 1 + 1, 0, none⟩)) ∧ ts[6]? = some (.pointer (some ⟨P, 0, none⟩)) ∧ ts[9]? = some (.pointer (some ⟨w2.heap.size, 0, none⟩)) ∧ ts[10]? = some (.pointer (some ⟨Bx, 0, none⟩)))
          (fun x a' _ X Y row hs hg hr => by obtain ⟨Bx, h1, h2, h3⟩ := hs; exact ⟨Bx, h1, own_blk _ Bx _ _ () X Y row h2 hg hr, h3⟩)
          ?_ ?_ ?_ ?_
        · rintro l pre x W K' ⟨⟨hI, hz⟩, hE⟩ hK
          have hx : pv x = .agg #[.int .i64 (x.1.val : Int), .int .i64 (x.2.1.val : Int), .int .i64 (x.2.2.val : Int)] := rfl
          gi_wp2
          exact hK _ _ ((KeepsOthers.alloc _ _).from _) (kb_below (bel1 W _) (by omega)) ⟨⟨hI.below o.2.2.1 (bel1 W _) (by omega), by rw [alloc_size]; omega⟩, hE.below (bel1 W _)⟩ ⟨W.heap.size, hz, Blk.new W _ _, _, rfl, rfl, rfl, rfl, rfl, rfl, rfl, rfl⟩
        · rintro l pre x a' W hl _ ⟨⟨hI, hz⟩, hE⟩ ⟨Bx, hBx, bX, ts, rfl, hts, ht2, ht3, ht4, ht6, ht9, ht10⟩ hlt
          obtain ⟨t, rfl⟩ := slotsA ts _ _ _ _ _ _ hts ht2 ht3 ht4 ht6 ht9 ht10
          clear ht2 ht3 ht4 ht6 ht9 ht10 hts
          have hi := x.1.isLt
          have hc := x.2.1.isLt
          have hb := x.2.2.isLt
          obtain ⟨uv, huv⟩ : ∃ uv, M.wid ⟨c_, r_, C, B, N, m_, j_, p_, l_, y_⟩ C B r AS sl x.2.1.val x.2.2.val = uv := ⟨_, rfl⟩
          obtain ⟨sv, hsv⟩ : ∃ sv, AS x.2.1.val x.2.2.val = sv := ⟨_, rfl⟩
          obtain ⟨xv, hxv⟩ : ∃ xv, AX x.2.1.val x.1.val x.2.2.val = xv := ⟨_, rfl⟩
          obtain ⟨b1, o1, c1, b2, o2, c2', hpc⟩ := hA.out.cells hc hi hb
          have HK : Hid (∀ wx, (KA .i64 3 25 26 ac E N C B pf W0 wx ∧ Blk wx Bx (pc x) 94) → wx.cell? ⟨P, 1, none⟩ = some (.slice (some ⟨az, 0, none⟩) C C) ∧ wx.cell? ⟨P, 2, none⟩ = some (.slice (some ⟨ac, 0, none⟩) N N) ∧
              wx.cell? ⟨Bx, 0, none⟩ = some (.int .i64 (x.1.val : Int)) ∧ wx.cell? ⟨Bx, 1, none⟩ = some (.int .i64 (x.2.1.val : Int)) ∧ wx.cell? ⟨Bx, 2, none⟩ = some (.int .i64 (x.2.2.val : Int)) ∧
              wx.cell? ⟨w2.heap.size, 0, none⟩ = some (.slice (some ⟨a, 0, none⟩) C C) ∧ wx.cell? ⟨a, x.2.1.val, none⟩ = some (.slice (some ⟨a + 1 + x.2.1.val, 0, none⟩) B B) ∧ wx.cell? ⟨a + 1 + x.2.1.val, x.2.2.val, none⟩ = some (.int .i64 uv) ∧
              wx.cell? ⟨az, x.2.1.val, none⟩ = some (.slice (some ⟨gs x.2.1.val, 0, none⟩) B B) ∧ wx.cell? ⟨gs x.2.1.val, x.2.2.val, none⟩ = some (.int .i64 sv) ∧
              wx.cell? ⟨w.heap.size + 1, 0, none⟩ = some (.slice (some ⟨mb, mo, none⟩) C mc) ∧ wx.cell? ⟨mb, mo + x.2.1.val, none⟩ = some (.slice (some ⟨b1, o1, none⟩) N c1) ∧ wx.cell? ⟨b1, o1 + x.1.val, none⟩ = some (.slice (some ⟨b2, o2, none⟩) B c2') ∧ wx.cell? ⟨b2, o2 + x.2.2.val, none⟩ = some (.int .i32 xv) ∧
              wx.cell? ⟨ac, x.1.val, none⟩ = some (.slice (some ⟨pf x.1.val, 0, none⟩) C C) ∧ wx.cell? ⟨pf x.1.val, x.2.1.val, none⟩ = some (.slice (some ⟨pf x.1.val + 1 + x.2.1.val, 0, none⟩) B B) ∧ (∃ u, wx.cell? ⟨pf x.1.val + 1 + x.2.1.val, x.2.2.val, none⟩ = some u) ∧ wx.frozen? ⟨pf x.1.val + 1 + x.2.1.val, x.2.2.val, none⟩ = false) := fun wx hx => by
            have ke := hx.1.exc
            obtain ⟨G, kc⟩ := hx.1.cub
            obtain ⟨q1, q2, q3⟩ := hpc wx (e0.trans (ke.wide (by omega) (by omega)))
            have pbx := ke.blk p0 (by omega)
            have lx := ke.blk l0 (by omega)
            have ux := ke.blk u0 (by omega)
            have gx := g0.keep (w' := wx) fun b h0 h1 => ke.block b (by omega) (by omega)
            have sx := hs0.keep (wx := wx) (ke.block az (by omega) (by omega)) (fun k h0 h1 => ke.block k h1 (by omega))
            obtain ⟨⟨hd, t1, t2, t3⟩, t4, _⟩ := sx
            obtain ⟨d1, d2, d3, d4, _⟩ := kc.all hi hc hb
            exact ⟨pbx.cell rfl, pbx.cell rfl, hx.2.cell rfl, hx.2.cell rfl, hx.2.cell rfl, ux.cell rfl, gx.at_head hc, huv ▸ (gx.at hc hb).1, t1.cell (t3 _ hc), hsv ▸ (t4 _ hc).cell hb, lx.cell rfl, q1, q2, hxv ▸ q3, d1, d2, ⟨_, d3⟩, d4⟩
          have K : Hid (KA .i64 3 25 26 ac E N C B pf W0 W ∧ Blk W Bx (pc x) 94) := show _ ∧ _ from ⟨⟨hE, _, hI⟩, bX⟩
          have hqa := fun wx => Qnt.Quant_any xv sv uv wx (hxv ▸ HX.out _ _ _)
          have HQa : Hid (∀ wx, Calls _ _ _ wx _) := hqa
          have HNew : Hid (∀ wx, Cub .i64 3 25 26 ac E N C B pf (tl AQ pre) wx → Cub .i64 3 25 26 ac E N C B pf (tl AQ (pre ++ [x])) (wx.setCell ⟨pf x.1.val + 1 + x.2.1.val, x.2.2.val, none⟩ (.int .i64 (Qnt.qa xv sv uv).1))) := fun wx hw => hw.set hi hc hb (by rw [tl_new, HQ.out, huv, hsv, hxv]) fun i' c' b' _ _ _ hne => tl_old x hne
          have HI : Hid (Cub .i64 3 25 26 ac E N C B pf (tl AQ pre) W) := hI
          have HE : Hid (Exc ac E W0 W) := hE
          have HZ : Hid (W0.heap.size ≤ W.heap.size) := hz
          have HCu := hI.all hi hc hb
          have i1 : (x.1.val : Int) < N := by omega
          have i2 : (x.2.1.val : Int) < C := by omega
          have i3 : (x.2.2.val : Int) < B := by omega
          have i4 : (0 : Int) ≤ x.1.val := by omega
          have i5 : (0 : Int) ≤ x.2.1.val := by omega
          have i6 : (0 : Int) ≤ x.2.2.val := by omega
          have HO : Hid (ac ≤ pf x.1.val + 1 + x.2.1.val ∧ pf x.1.val + 1 + x.2.1.val < E) := show _ ∧ _ by omega
          clear HCu hqa hI hE hpc huv hsv hxv bX
          gi_wp2
          refine region_round (S := fun wx => KA .i64 3 25 26 ac E N C B pf W0 wx ∧ Blk wx Bx (pc x) 94) (by kernel_rfl) (by kernel_rfl) (fun _ _ h => h) ⟨K.out.1.drew, K.out.2⟩ (fun hS1 => ?_)
          refine wpAnyH_take (i := 0) (oi := ⟨some 57, _, _, _, _, _⟩) (v := ?_) rfl (by kernel_rfl) (by kernel_rfl) (by kernel_rfl) (fun _ _ _ h => h) (Or.inl ⟨by rfl, ?_⟩) hS1 ?_
          rotate_left
          · intro wx hx; obtain ⟨f1, f2, f3, f4, f5, f6, f7, f8, f9, f10, f11, f12, f13, f14, f15, f16, f17⟩ := HK.out wx hx; go_simp; try with_reducible rfl
          try simp only [Act.put, List.setIfInBounds_toArray, List.set_cons_zero, List.set_cons_succ]
          refine wpAnyH_take (i := 1) (oi := ⟨some 58, _, _, _, _, _⟩) (v := ?_) rfl (by kernel_rfl) (by kernel_rfl) (by kernel_rfl) (fun _ _ _ h => h) (Or.inl ⟨by rfl, ?_⟩) hS1 ?_
          rotate_left
          · intro wx hx; obtain ⟨f1, f2, f3, f4, f5, f6, f7, f8, f9, f10, f11, f12, f13, f14, f15, f16, f17⟩ := HK.out wx hx; go_simp; try with_reducible rfl
          try simp only [Act.put, List.setIfInBounds_toArray, List.set_cons_zero, List.set_cons_succ]
          refine wpAnyH_take (i := 2) (oi := ⟨some 59, _, _, _, _, _⟩) (v := ?_) rfl (by kernel_rfl) (by kernel_rfl) (by kernel_rfl) (fun _ _ _ h => h) (Or.inl ⟨by rfl, ?_⟩) hS1 ?_
          rotate_left
          · intro wx hx; obtain ⟨f1, f2, f3, f4, f5, f6, f7, f8, f9, f10, f11, f12, f13, f14, f15, f16, f17⟩ := HK.out wx hx; go_simp; try with_reducible rfl
          try simp only [Act.put, List.setIfInBounds_toArray, List.set_cons_zero, List.set_cons_succ]
          refine wpAnyH_take (i := 3) (oi := ⟨some 60, _, _, _, _, _⟩) (v := ?_) rfl (by kernel_rfl) (by kernel_rfl) (by kernel_rfl) (fun _ _ _ h => h) (Or.inl ⟨by rfl, ?_⟩) hS1 ?_
          rotate_left
          · intro wx hx; obtain ⟨f1, f2, f3, f4, f5, f6, f7, f8, f9, f10, f11, f12, f13, f14, f15, f16, f17⟩ := HK.out wx hx; go_simp; try with_reducible rfl
          try simp only [Act.put, List.setIfInBounds_toArray, List.set_cons_zero, List.set_cons_succ]
          refine wpAnyH_take (i := 4) (oi := ⟨some 61, _, _, _, _, _⟩) (v := ?_) rfl (by kernel_rfl) (by kernel_rfl) (by kernel_rfl) (fun _ _ _ h => h) (Or.inl ⟨by rfl, ?_⟩) hS1 ?_
          rotate_left
          · intro wx hx; obtain ⟨f1, f2, f3, f4, f5, f6, f7, f8, f9, f10, f11, f12, f13, f14, f15, f16, f17⟩ := HK.out wx hx; go_simp; try with_reducible rfl
          try simp only [Act.put, List.setIfInBounds_toArray, List.set_cons_zero, List.set_cons_succ]
          refine wpAnyH_take (i := 5) (oi := ⟨some 62, _, _, _, _, _⟩) (v := ?_) rfl (by kernel_rfl) (by kernel_rfl) (by kernel_rfl) (fun _ _ _ h => h) (Or.inl ⟨by rfl, ?_⟩) hS1 ?_
          rotate_left
          · intro wx hx; obtain ⟨f1, f2, f3, f4, f5, f6, f7, f8, f9, f10, f11, f12, f13, f14, f15, f16, f17⟩ := HK.out wx hx; go_simp; try with_reducible rfl
          try simp only [Act.put, List.setIfInBounds_toArray, List.set_cons_zero, List.set_cons_succ]
          refine wpAnyH_take (i := 6) (oi := ⟨some 63, _, _, _, _, _⟩) (v := ?_) rfl (by kernel_rfl) (by kernel_rfl) (by kernel_rfl) (fun _ _ _ h => h) (Or.inl ⟨by rfl, ?_⟩) hS1 ?_
          rotate_left
          · intro wx hx; obtain ⟨f1, f2, f3, f4, f5, f6, f7, f8, f9, f10, f11, f12, f13, f14, f15, f16, f17⟩ := HK.out wx hx; go_simp; try with_reducible rfl
          try simp only [Act.put, List.setIfInBounds_toArray, List.set_cons_zero, List.set_cons_succ]
          refine wpAnyH_take (i := 7) (oi := ⟨some 64, _, _, _, _, _⟩) (v := ?_) rfl (by kernel_rfl) (by kernel_rfl) (by kernel_rfl) (fun _ _ _ h => h) (Or.inl ⟨by rfl, ?_⟩) hS1 ?_
          rotate_left
          · intro wx hx; obtain ⟨f1, f2, f3, f4, f5, f6, f7, f8, f9, f10, f11, f12, f13, f14, f15, f16, f17⟩ := HK.out wx hx; go_simp; try with_reducible rfl
          try simp only [Act.put, List.setIfInBounds_toArray, List.set_cons_zero, List.set_cons_succ]
          refine wpAnyH_take (i := 8) (oi := ⟨some 65, _, _, _, _, _⟩) (v := ?_) rfl (by kernel_rfl) (by kernel_rfl) (by kernel_rfl) (fun _ _ _ h => h) (Or.inl ⟨by rfl, ?_⟩) hS1 ?_
          rotate_left
          · intro wx hx; obtain ⟨f1, f2, f3, f4, f5, f6, f7, f8, f9, f10, f11, f12, f13, f14, f15, f16, f17⟩ := HK.out wx hx; go_simp; try with_reducible rfl
          try simp only [Act.put, List.setIfInBounds_toArray, List.set_cons_zero, List.set_cons_succ]
          refine wpAnyH_take (i := 9) (oi := ⟨some 66, _, _, _, _, _⟩) (v := ?_) rfl (by kernel_rfl) (by kernel_rfl) (by kernel_rfl) (fun _ _ _ h => h) (Or.inl ⟨by rfl, ?_⟩) hS1 ?_
          rotate_left
          · intro wx hx; obtain ⟨f1, f2, f3, f4, f5, f6, f7, f8, f9, f10, f11, f12, f13, f14, f15, f16, f17⟩ := HK.out wx hx; go_simp; try with_reducible rfl
          try simp only [Act.put, List.setIfInBounds_toArray, List.set_cons_zero, List.set_cons_succ]
          refine wpAnyH_take (i := 10) (oi := ⟨some 67, _, _, _, _, _⟩) (v := ?_) rfl (by kernel_rfl) (by kernel_rfl) (by kernel_rfl) (fun _ _ _ h => h) (Or.inl ⟨by rfl, ?_⟩) hS1 ?_
          rotate_left
          · intro wx hx; obtain ⟨f1, f2, f3, f4, f5, f6, f7, f8, f9, f10, f11, f12, f13, f14, f15, f16, f17⟩ := HK.out wx hx; go_simp; try with_reducible rfl
          try simp only [Act.put, List.setIfInBounds_toArray, List.set_cons_zero, List.set_cons_succ]
          refine wpAnyH_take (i := 11) (oi := ⟨some 68, _, _, _, _, _⟩) (v := ?_) rfl (by kernel_rfl) (by kernel_rfl) (by kernel_rfl) (fun _ _ _ h => h) (Or.inl ⟨by rfl, ?_⟩) hS1 ?_
          rotate_left
          · intro wx hx; obtain ⟨f1, f2, f3, f4, f5, f6, f7, f8, f9, f10, f11, f12, f13, f14, f15, f16, f17⟩ := HK.out wx hx; go_simp; try with_reducible rfl
          try simp only [Act.put, List.setIfInBounds_toArray, List.set_cons_zero, List.set_cons_succ]
          refine wpAnyH_take (i := 12) (oi := ⟨some 69, _, _, _, _, _⟩) (v := ?_) rfl (by kernel_rfl) (by kernel_rfl) (by kernel_rfl) (fun _ _ _ h => h) (Or.inl ⟨by rfl, ?_⟩) hS1 ?_
          rotate_left
          · intro wx hx; obtain ⟨f1, f2, f3, f4, f5, f6, f7, f8, f9, f10, f11, f12, f13, f14, f15, f16, f17⟩ := HK.out wx hx; go_simp; try with_reducible rfl
          try simp only [Act.put, List.setIfInBounds_toArray, List.set_cons_zero, List.set_cons_succ]
          refine wpAnyH_take (i := 13) (oi := ⟨some 70, _, _, _, _, _⟩) (v := ?_) rfl (by kernel_rfl) (by kernel_rfl) (by kernel_rfl) (fun _ _ _ h => h) (Or.inl ⟨by rfl, ?_⟩) hS1 ?_
          rotate_left
          · intro wx hx; obtain ⟨f1, f2, f3, f4, f5, f6, f7, f8, f9, f10, f11, f12, f13, f14, f15, f16, f17⟩ := HK.out wx hx; go_simp; try with_reducible rfl
          try simp only [Act.put, List.setIfInBounds_toArray, List.set_cons_zero, List.set_cons_succ]
          refine wpAnyH_take (i := 14) (oi := ⟨some 71, _, _, _, _, _⟩) (v := ?_) rfl (by kernel_rfl) (by kernel_rfl) (by kernel_rfl) (fun _ _ _ h => h) (Or.inl ⟨by rfl, ?_⟩) hS1 ?_
          rotate_left
          · intro wx hx; obtain ⟨f1, f2, f3, f4, f5, f6, f7, f8, f9, f10, f11, f12, f13, f14, f15, f16, f17⟩ := HK.out wx hx; go_simp; try with_reducible rfl
          try simp only [Act.put, List.setIfInBounds_toArray, List.set_cons_zero, List.set_cons_succ]
          refine wpAnyH_take (i := 15) (oi := ⟨some 72, _, _, _, _, _⟩) (v := ?_) rfl (by kernel_rfl) (by kernel_rfl) (by kernel_rfl) (fun _ _ _ h => h) (Or.inl ⟨by rfl, ?_⟩) hS1 ?_
          rotate_left
          · intro wx hx; obtain ⟨f1, f2, f3, f4, f5, f6, f7, f8, f9, f10, f11, f12, f13, f14, f15, f16, f17⟩ := HK.out wx hx; go_simp; try with_reducible rfl
          try simp only [Act.put, List.setIfInBounds_toArray, List.set_cons_zero, List.set_cons_succ]
          refine wpAnyH_take (i := 16) (oi := ⟨some 73, _, _, _, _, _⟩) (v := ?_) rfl (by kernel_rfl) (by kernel_rfl) (by kernel_rfl) (fun _ _ _ h => h) (Or.inl ⟨by rfl, ?_⟩) hS1 ?_
          rotate_left
          · intro wx hx; obtain ⟨f1, f2, f3, f4, f5, f6, f7, f8, f9, f10, f11, f12, f13, f14, f15, f16, f17⟩ := HK.out wx hx; go_simp; try with_reducible rfl
          try simp only [Act.put, List.setIfInBounds_toArray, List.set_cons_zero, List.set_cons_succ]
          refine wpAnyH_take (i := 17) (oi := ⟨some 74, _, _, _, _, _⟩) (v := ?_) rfl (by kernel_rfl) (by kernel_rfl) (by kernel_rfl) (fun _ _ _ h => h) (Or.inl ⟨by rfl, ?_⟩) hS1 ?_
          rotate_left
          · intro wx hx; obtain ⟨f1, f2, f3, f4, f5, f6, f7, f8, f9, f10, f11, f12, f13, f14, f15, f16, f17⟩ := HK.out wx hx; go_simp; try with_reducible rfl
          try simp only [Act.put, List.setIfInBounds_toArray, List.set_cons_zero, List.set_cons_succ]
          refine wpAnyH_take (i := 18) (oi := ⟨some 75, _, _, _, _, _⟩) (v := ?_) rfl (by kernel_rfl) (by kernel_rfl) (by kernel_rfl) (fun _ _ _ h => h) (Or.inl ⟨by rfl, ?_⟩) hS1 ?_
          rotate_left
          · intro wx hx; obtain ⟨f1, f2, f3, f4, f5, f6, f7, f8, f9, f10, f11, f12, f13, f14, f15, f16, f17⟩ := HK.out wx hx; go_simp; try with_reducible rfl
          try simp only [Act.put, List.setIfInBounds_toArray, List.set_cons_zero, List.set_cons_succ]
          refine wpAnyH_take (i := 19) (oi := ⟨some 11, _, _, _, _, _⟩) (v := ?_) rfl (by kernel_rfl) (by kernel_rfl) (by kernel_rfl) (fun _ _ _ h => h) (Or.inl ⟨by rfl, ?_⟩) hS1 ?_
          rotate_left
          · intro wx hx; obtain ⟨f1, f2, f3, f4, f5, f6, f7, f8, f9, f10, f11, f12, f13, f14, f15, f16, f17⟩ := HK.out wx hx; go_simp; try with_reducible rfl
          try simp only [Act.put, List.setIfInBounds_toArray, List.set_cons_zero, List.set_cons_succ]
          refine wpAnyH_take (i := 20) (oi := ⟨some 12, _, _, _, _, _⟩) (v := ?_) rfl (by kernel_rfl) (by kernel_rfl) (by kernel_rfl) (fun _ _ _ h => h) (Or.inl ⟨by rfl, ?_⟩) hS1 ?_
          rotate_left
          · intro wx hx; obtain ⟨f1, f2, f3, f4, f5, f6, f7, f8, f9, f10, f11, f12, f13, f14, f15, f16, f17⟩ := HK.out wx hx; go_simp; try with_reducible rfl
          try simp only [Act.put, List.setIfInBounds_toArray, List.set_cons_zero, List.set_cons_succ]

          refine wpAnyH_done (by kernel_rfl) ?_ _
          gi_wp2
          refine region_round (S := fun wx => KA .i64 3 25 26 ac E N C B pf W0 wx ∧ Blk wx Bx (pc x) 94) (by kernel_rfl) (by kernel_rfl) (fun _ _ h => h) ⟨K.out.1.drew.drew, K.out.2⟩ (fun hS2 => ?_)
          refine wpAnyH_take (i := 0) (oi := ⟨some 77, _, _, _, _, _⟩) (v := ?_) rfl (by kernel_rfl) (by kernel_rfl) (by kernel_rfl) (fun _ _ _ h => h) (Or.inl ⟨by rfl, ?_⟩) hS2 ?_
          rotate_left
          · intro wx hx; obtain ⟨f1, f2, f3, f4, f5, f6, f7, f8, f9, f10, f11, f12, f13, f14, f15, f16, f17⟩ := HK.out wx hx; go_simp; try with_reducible rfl
          try simp only [Act.put, List.setIfInBounds_toArray, List.set_cons_zero, List.set_cons_succ]
          refine wpAnyH_take (i := 1) (oi := ⟨some 78, _, _, _, _, _⟩) (v := ?_) rfl (by kernel_rfl) (by kernel_rfl) (by kernel_rfl) (fun _ _ _ h => h) (Or.inl ⟨by rfl, ?_⟩) hS2 ?_
          rotate_left
          · intro wx hx; obtain ⟨f1, f2, f3, f4, f5, f6, f7, f8, f9, f10, f11, f12, f13, f14, f15, f16, f17⟩ := HK.out wx hx; go_simp; try with_reducible rfl
          try simp only [Act.put, List.setIfInBounds_toArray, List.set_cons_zero, List.set_cons_succ]
          refine wpAnyH_take (i := 2) (oi := ⟨some 79, _, _, _, _, _⟩) (v := ?_) rfl (by kernel_rfl) (by kernel_rfl) (by kernel_rfl) (fun _ _ _ h => h) (Or.inl ⟨by rfl, ?_⟩) hS2 ?_
          rotate_left
          · intro wx hx; obtain ⟨f1, f2, f3, f4, f5, f6, f7, f8, f9, f10, f11, f12, f13, f14, f15, f16, f17⟩ := HK.out wx hx; go_simp; try with_reducible rfl
          try simp only [Act.put, List.setIfInBounds_toArray, List.set_cons_zero, List.set_cons_succ]
          refine wpAnyH_take (i := 3) (oi := ⟨some 80, _, _, _, _, _⟩) (v := ?_) rfl (by kernel_rfl) (by kernel_rfl) (by kernel_rfl) (fun _ _ _ h => h) (Or.inl ⟨by rfl, ?_⟩) hS2 ?_
          rotate_left
          · intro wx hx; obtain ⟨f1, f2, f3, f4, f5, f6, f7, f8, f9, f10, f11, f12, f13, f14, f15, f16, f17⟩ := HK.out wx hx; go_simp; try with_reducible rfl
          try simp only [Act.put, List.setIfInBounds_toArray, List.set_cons_zero, List.set_cons_succ]
          refine wpAnyH_take (i := 4) (oi := ⟨some 81, _, _, _, _, _⟩) (v := ?_) rfl (by kernel_rfl) (by kernel_rfl) (by kernel_rfl) (fun _ _ _ h => h) (Or.inl ⟨by rfl, ?_⟩) hS2 ?_
          rotate_left
          · intro wx hx; obtain ⟨f1, f2, f3, f4, f5, f6, f7, f8, f9, f10, f11, f12, f13, f14, f15, f16, f17⟩ := HK.out wx hx; go_simp; try with_reducible rfl
          try simp only [Act.put, List.setIfInBounds_toArray, List.set_cons_zero, List.set_cons_succ]
          refine wpAnyH_take (i := 5) (oi := ⟨some 82, _, _, _, _, _⟩) (v := ?_) rfl (by kernel_rfl) (by kernel_rfl) (by kernel_rfl) (fun _ _ _ h => h) (Or.inl ⟨by rfl, ?_⟩) hS2 ?_
          rotate_left
          · intro wx hx; obtain ⟨f1, f2, f3, f4, f5, f6, f7, f8, f9, f10, f11, f12, f13, f14, f15, f16, f17⟩ := HK.out wx hx; go_simp; try with_reducible rfl
          try simp only [Act.put, List.setIfInBounds_toArray, List.set_cons_zero, List.set_cons_succ]
          refine wpAnyH_take (i := 6) (oi := ⟨some 83, _, _, _, _, _⟩) (v := ?_) rfl (by kernel_rfl) (by kernel_rfl) (by kernel_rfl) (fun _ _ _ h => h) (Or.inl ⟨by rfl, ?_⟩) hS2 ?_
          rotate_left
          · intro wx hx; obtain ⟨f1, f2, f3, f4, f5, f6, f7, f8, f9, f10, f11, f12, f13, f14, f15, f16, f17⟩ := HK.out wx hx; go_simp; try with_reducible rfl
          try simp only [Act.put, List.setIfInBounds_toArray, List.set_cons_zero, List.set_cons_succ]
          refine wpAnyH_take (i := 7) (oi := ⟨some 84, _, _, _, _, _⟩) (v := ?_) rfl (by kernel_rfl) (by kernel_rfl) (by kernel_rfl) (fun _ _ _ h => h) (Or.inl ⟨by rfl, ?_⟩) hS2 ?_
          rotate_left
          · intro wx hx; obtain ⟨f1, f2, f3, f4, f5, f6, f7, f8, f9, f10, f11, f12, f13, f14, f15, f16, f17⟩ := HK.out wx hx; go_simp; try with_reducible rfl
          try simp only [Act.put, List.setIfInBounds_toArray, List.set_cons_zero, List.set_cons_succ]
          refine wpAnyH_take (i := 8) (oi := ⟨some 85, _, _, _, _, _⟩) (v := ?_) rfl (by kernel_rfl) (by kernel_rfl) (by kernel_rfl) (fun _ _ _ h => h) (Or.inl ⟨by rfl, ?_⟩) hS2 ?_
          rotate_left
          · intro wx hx; obtain ⟨f1, f2, f3, f4, f5, f6, f7, f8, f9, f10, f11, f12, f13, f14, f15, f16, f17⟩ := HK.out wx hx; go_simp; try with_reducible rfl
          try simp only [Act.put, List.setIfInBounds_toArray, List.set_cons_zero, List.set_cons_succ]
          refine wpAnyH_take (i := 9) (oi := ⟨some 86, _, _, _, _, _⟩) (v := ?_) rfl (by kernel_rfl) (by kernel_rfl) (by kernel_rfl) (fun _ _ _ h => h) (Or.inl ⟨by rfl, ?_⟩) hS2 ?_
          rotate_left
          · intro wx hx; obtain ⟨f1, f2, f3, f4, f5, f6, f7, f8, f9, f10, f11, f12, f13, f14, f15, f16, f17⟩ := HK.out wx hx; go_simp; try with_reducible rfl
          try simp only [Act.put, List.setIfInBounds_toArray, List.set_cons_zero, List.set_cons_succ]
          refine wpAnyH_take (i := 10) (oi := ⟨some 87, _, _, _, _, _⟩) (v := ?_) rfl (by kernel_rfl) (by kernel_rfl) (by kernel_rfl) (fun _ _ _ h => h) (Or.inl ⟨by rfl, ?_⟩) hS2 ?_
          rotate_left
          · intro wx hx; obtain ⟨f1, f2, f3, f4, f5, f6, f7, f8, f9, f10, f11, f12, f13, f14, f15, f16, f17⟩ := HK.out wx hx; go_simp; try with_reducible rfl
          try simp only [Act.put, List.setIfInBounds_toArray, List.set_cons_zero, List.set_cons_succ]
          refine wpAnyH_take (i := 11) (oi := ⟨some 88, _, _, _, _, _⟩) (v := ?_) rfl (by kernel_rfl) (by kernel_rfl) (by kernel_rfl) (fun _ _ _ h => h) (Or.inl ⟨by rfl, ?_⟩) hS2 ?_
          rotate_left
          · intro wx hx; obtain ⟨f1, f2, f3, f4, f5, f6, f7, f8, f9, f10, f11, f12, f13, f14, f15, f16, f17⟩ := HK.out wx hx; go_simp; try with_reducible rfl
          try simp only [Act.put, List.setIfInBounds_toArray, List.set_cons_zero, List.set_cons_succ]
          refine wpAnyH_take (i := 12) (oi := ⟨some 89, _, _, _, _, _⟩) (v := ?_) rfl (by kernel_rfl) (by kernel_rfl) (by kernel_rfl) (fun _ _ _ h => h) (Or.inl ⟨by rfl, ?_⟩) hS2 ?_
          rotate_left
          · intro wx hx; obtain ⟨f1, f2, f3, f4, f5, f6, f7, f8, f9, f10, f11, f12, f13, f14, f15, f16, f17⟩ := HK.out wx hx; go_simp; try with_reducible rfl
          try simp only [Act.put, List.setIfInBounds_toArray, List.set_cons_zero, List.set_cons_succ]
          refine wpAnyH_take (i := 13) (oi := ⟨some 90, _, _, _, _, _⟩) (v := ?_) rfl (by kernel_rfl) (by kernel_rfl) (by kernel_rfl) (fun _ _ _ h => h) (Or.inl ⟨by rfl, ?_⟩) hS2 ?_
          rotate_left
          · intro wx hx; obtain ⟨f1, f2, f3, f4, f5, f6, f7, f8, f9, f10, f11, f12, f13, f14, f15, f16, f17⟩ := HK.out wx hx; go_simp; try with_reducible rfl
          try simp only [Act.put, List.setIfInBounds_toArray, List.set_cons_zero, List.set_cons_succ]
          refine wpAnyH_take (i := 14) (oi := ⟨some 91, _, _, _, _, _⟩) (v := ?_) rfl (by kernel_rfl) (by kernel_rfl) (by kernel_rfl) (fun _ _ _ h => h) (Or.inl ⟨by rfl, ?_⟩) hS2 ?_
          rotate_left
          · intro wx hx; obtain ⟨f1, f2, f3, f4, f5, f6, f7, f8, f9, f10, f11, f12, f13, f14, f15, f16, f17⟩ := HK.out wx hx; go_simp; try with_reducible rfl
          try simp only [Act.put, List.setIfInBounds_toArray, List.set_cons_zero, List.set_cons_succ]
          refine wpAnyH_take (i := 15) (oi := ⟨some 92, _, _, _, _, _⟩) (v := ?_) rfl (by kernel_rfl) (by kernel_rfl) (by kernel_rfl) (fun _ _ _ h => h) (Or.inl ⟨by rfl, ?_⟩) hS2 ?_
          rotate_left
          · intro wx hx; obtain ⟨f1, f2, f3, f4, f5, f6, f7, f8, f9, f10, f11, f12, f13, f14, f15, f16, f17⟩ := HK.out wx hx; go_simp; try with_reducible rfl
          try simp only [Act.put, List.setIfInBounds_toArray, List.set_cons_zero, List.set_cons_succ]
          refine wpAnyH_take (i := 16) (oi := ⟨some 93, _, _, _, _, _⟩) (v := ?_) rfl (by kernel_rfl) (by kernel_rfl) (by kernel_rfl) (fun _ _ _ h => h) (Or.inl ⟨by rfl, ?_⟩) hS2 ?_
          rotate_left
          · intro wx hx; obtain ⟨f1, f2, f3, f4, f5, f6, f7, f8, f9, f10, f11, f12, f13, f14, f15, f16, f17⟩ := HK.out wx hx; go_simp; try with_reducible rfl
          try simp only [Act.put, List.setIfInBounds_toArray, List.set_cons_zero, List.set_cons_succ]
          refine wpAnyH_take (i := 17) (oi := ⟨some 94, _, _, _, _, _⟩) (v := ?_) rfl (by kernel_rfl) (by kernel_rfl) (by kernel_rfl) (fun _ _ _ h => h) (Or.inl ⟨by rfl, ?_⟩) hS2 ?_
          rotate_left
          · intro wx hx; obtain ⟨f1, f2, f3, f4, f5, f6, f7, f8, f9, f10, f11, f12, f13, f14, f15, f16, f17⟩ := HK.out wx hx; go_simp; try with_reducible rfl
          try simp only [Act.put, List.setIfInBounds_toArray, List.set_cons_zero, List.set_cons_succ]
          refine wpAnyH_take (i := 18) (oi := ⟨some 95, _, _, _, _, _⟩) (v := ?_) rfl (by kernel_rfl) (by kernel_rfl) (by kernel_rfl) (fun _ _ _ h => h) (Or.inl ⟨by rfl, ?_⟩) hS2 ?_
          rotate_left
          · intro wx hx; obtain ⟨f1, f2, f3, f4, f5, f6, f7, f8, f9, f10, f11, f12, f13, f14, f15, f16, f17⟩ := HK.out wx hx; go_simp; try with_reducible rfl
          try simp only [Act.put, List.setIfInBounds_toArray, List.set_cons_zero, List.set_cons_succ]
          refine wpAnyH_take (i := 19) (oi := ⟨some 96, _, _, _, _, _⟩) (v := ?_) rfl (by kernel_rfl) (by kernel_rfl) (by kernel_rfl) (fun _ _ _ h => h) (Or.inl ⟨by rfl, ?_⟩) hS2 ?_
          rotate_left
          · intro wx hx; obtain ⟨f1, f2, f3, f4, f5, f6, f7, f8, f9, f10, f11, f12, f13, f14, f15, f16, f17⟩ := HK.out wx hx; go_simp; try with_reducible rfl
          try simp only [Act.put, List.setIfInBounds_toArray, List.set_cons_zero, List.set_cons_succ]
          refine wpAnyH_take (i := 20) (oi := ⟨some 97, _, _, _, _, _⟩) (v := ?_) rfl (by kernel_rfl) (by kernel_rfl) (by kernel_rfl) (fun _ _ _ h => h) (Or.inl ⟨by rfl, ?_⟩) hS2 ?_
          rotate_left
          · intro wx hx; obtain ⟨f1, f2, f3, f4, f5, f6, f7, f8, f9, f10, f11, f12, f13, f14, f15, f16, f17⟩ := HK.out wx hx; go_simp; try with_reducible rfl
          try simp only [Act.put, List.setIfInBounds_toArray, List.set_cons_zero, List.set_cons_succ]
          refine wpAnyH_take (i := 21) (oi := ⟨some 98, _, _, _, _, _⟩) (v := ?_) rfl (by kernel_rfl) (by kernel_rfl) (by kernel_rfl) (fun _ _ _ h => h) (Or.inl ⟨by rfl, ?_⟩) hS2 ?_
          rotate_left
          · intro wx hx; obtain ⟨f1, f2, f3, f4, f5, f6, f7, f8, f9, f10, f11, f12, f13, f14, f15, f16, f17⟩ := HK.out wx hx; go_simp; try with_reducible rfl
          try simp only [Act.put, List.setIfInBounds_toArray, List.set_cons_zero, List.set_cons_succ]
          refine wpAnyH_take (i := 22) (oi := ⟨some 99, _, _, _, _, _⟩) (v := ?_) rfl (by kernel_rfl) (by kernel_rfl) (by kernel_rfl) (fun _ _ _ h => h) (Or.inl ⟨by rfl, ?_⟩) hS2 ?_
          rotate_left
          · intro wx hx; obtain ⟨f1, f2, f3, f4, f5, f6, f7, f8, f9, f10, f11, f12, f13, f14, f15, f16, f17⟩ := HK.out wx hx; go_simp; try with_reducible rfl
          try simp only [Act.put, List.setIfInBounds_toArray, List.set_cons_zero, List.set_cons_succ]
          refine wpAnyH_take (i := 23) (oi := ⟨some 100, _, _, _, _, _⟩) (v := ?_) rfl (by kernel_rfl) (by kernel_rfl) (by kernel_rfl) (fun _ _ _ h => h) (Or.inl ⟨by rfl, ?_⟩) hS2 ?_
          rotate_left
          · intro wx hx; obtain ⟨f1, f2, f3, f4, f5, f6, f7, f8, f9, f10, f11, f12, f13, f14, f15, f16, f17⟩ := HK.out wx hx; go_simp; try with_reducible rfl
          try simp only [Act.put, List.setIfInBounds_toArray, List.set_cons_zero, List.set_cons_succ]
          refine wpAnyH_take (i := 24) (oi := ⟨some 101, _, _, _, _, _⟩) (v := ?_) rfl (by kernel_rfl) (by kernel_rfl) (by kernel_rfl) (fun _ _ _ h => h) (Or.inl ⟨by rfl, ?_⟩) hS2 ?_
          rotate_left
          · intro wx hx; obtain ⟨f1, f2, f3, f4, f5, f6, f7, f8, f9, f10, f11, f12, f13, f14, f15, f16, f17⟩ := HK.out wx hx; go_simp; try with_reducible rfl
          try simp only [Act.put, List.setIfInBounds_toArray, List.set_cons_zero, List.set_cons_succ]
          refine wpAnyH_take (i := 25) (oi := ⟨some 102, _, _, _, _, _⟩) (v := ?_) rfl (by kernel_rfl) (by kernel_rfl) (by kernel_rfl) (fun _ _ _ h => h) (Or.inl ⟨by rfl, ?_⟩) hS2 ?_
          rotate_left
          · intro wx hx; obtain ⟨f1, f2, f3, f4, f5, f6, f7, f8, f9, f10, f11, f12, f13, f14, f15, f16, f17⟩ := HK.out wx hx; go_simp; try with_reducible rfl
          try simp only [Act.put, List.setIfInBounds_toArray, List.set_cons_zero, List.set_cons_succ]
          refine wpAnyH_take (i := 26) (oi := ⟨some 103, _, _, _, _, _⟩) (v := ?_) rfl (by kernel_rfl) (by kernel_rfl) (by kernel_rfl) (fun _ _ _ h => h) (Or.inl ⟨by rfl, ?_⟩) hS2 ?_
          rotate_left
          · intro wx hx; obtain ⟨f1, f2, f3, f4, f5, f6, f7, f8, f9, f10, f11, f12, f13, f14, f15, f16, f17⟩ := HK.out wx hx; go_simp; try with_reducible rfl
          try simp only [Act.put, List.setIfInBounds_toArray, List.set_cons_zero, List.set_cons_succ]

          refine wpAnyH_ready (rs := [27]) (by kernel_rfl) (by simp) ?_
          refine AllReadyH.cons (o := ⟨some 104, _, _, _, _, _⟩) rfl (fun K' hK' => ?_) AllReadyH.nil
          go_simp
          refine (HQa.out _).mono ?_
          clear HQa
          rintro e w3 ⟨rfl, m, rfl⟩
          have hS3 : KA .i64 3 25 26 ac E N C B pf W0 (W.drew.drew.drewN m) ∧ Blk (W.drew.drew.drewN m) Bx (pc x) 94 := ⟨hS2.1.drewN m, hS2.2⟩
          refine hK'.out _ _ hS3 (fun _ => ?_)
          clear hK' K'
          try simp only [Act.put, List.setIfInBounds_toArray, List.set_cons_zero, List.set_cons_succ]
          refine wpAnyH_take (i := 28) (oi := ⟨some 76, _, _, _, _, _⟩) (v := ?_) rfl (by kernel_rfl) (by kernel_rfl) (by kernel_rfl) (fun _ _ _ h => h) (Or.inl ⟨by rfl, ?_⟩) hS3 ?_
          rotate_left
          · intro wx hx; obtain ⟨f1, f2, f3, f4, f5, f6, f7, f8, f9, f10, f11, f12, f13, f14, f15, f16, f17⟩ := HK.out wx hx; go_simp; try with_reducible rfl
          try simp only [Act.put, List.setIfInBounds_toArray, List.set_cons_zero, List.set_cons_succ]
          refine wpAnyH_take (i := 29) (oi := ⟨some 105, _, _, _, _, _⟩) (v := ?_) rfl (by kernel_rfl) (by kernel_rfl) (by kernel_rfl) (fun _ _ _ h => h) (Or.inl ⟨by rfl, ?_⟩) hS3 ?_
          rotate_left
          · intro wx hx; obtain ⟨f1, f2, f3, f4, f5, f6, f7, f8, f9, f10, f11, f12, f13, f14, f15, f16, f17⟩ := HK.out wx hx; go_simp; try with_reducible rfl
          try simp only [Act.put, List.setIfInBounds_toArray, List.set_cons_zero, List.set_cons_succ]
          refine wpAnyH_take (i := 30) (oi := ⟨some 106, _, _, _, _, _⟩) (v := ?_) rfl (by kernel_rfl) (by kernel_rfl) (by kernel_rfl) (fun _ _ _ h => h) (Or.inl ⟨by rfl, ?_⟩) hS3 ?_
          rotate_left
          · intro wx hx; obtain ⟨f1, f2, f3, f4, f5, f6, f7, f8, f9, f10, f11, f12, f13, f14, f15, f16, f17⟩ := HK.out wx hx; go_simp; try with_reducible rfl
          try simp only [Act.put, List.setIfInBounds_toArray, List.set_cons_zero, List.set_cons_succ]
          refine wpAnyH_take (i := 31) (oi := ⟨some 107, _, _, _, _, _⟩) (v := ?_) rfl (by kernel_rfl) (by kernel_rfl) (by kernel_rfl) (fun _ _ _ h => h) (Or.inl ⟨by rfl, ?_⟩) hS3 ?_
          rotate_left
          · intro wx hx; obtain ⟨f1, f2, f3, f4, f5, f6, f7, f8, f9, f10, f11, f12, f13, f14, f15, f16, f17⟩ := HK.out wx hx; go_simp; try with_reducible rfl
          try simp only [Act.put, List.setIfInBounds_toArray, List.set_cons_zero, List.set_cons_succ]

          obtain ⟨f1, f2, f3, f4, f5, f6, f7, f8, f9, f10, f11, f12, f13, f14, f15, f16, ⟨u, f17⟩, f18⟩ := HK.out W K.out
          refine wpAnyH_ready (rs := [32]) (by kernel_rfl) (by simp) ?_
          refine AllReadyH.cons (o := ⟨none, _, _, _, _, _⟩) rfl (fun K' hK' => ?_) AllReadyH.nil
          go_simp
          refine hK'.out _ _ ⟨(K.out.1.drewN (1 + (1 + m))).set hi hc hb _, (K.out.2.drewN (1 + (1 + m))).set_ne (by show Bx ≠ pf x.1.val + 1 + x.2.1.val; have := HO.out; omega) _⟩ (fun _ => ?_)
          clear hK' K'
          try simp only [Act.put, List.setIfInBounds_toArray, List.set_cons_zero, List.set_cons_succ]
          refine wpAnyH_done (by kernel_rfl) ?_ _
          have eW : Exc ac E W ((W.drewN (1 + (1 + m))).setCell ⟨pf x.1.val + 1 + x.2.1.val, x.2.2.val, none⟩ (.int .i64 (Qnt.qa xv sv uv).1)) := Exc.set (⟨rfl, rfl, rfl, Nat.le_refl _, fun _ _ _ => rfl⟩ : Exc ac E W (W.drewN (1 + (1 + m)))) HO.out _
          exact ⟨eW.keeps (by omega), eW.kb (by omega) (by have := HZ.out; omega), ⟨HNew.out _ (HI.out.drewN _), by have := eW.size; have := HZ.out; omega⟩, HE.out.trans eW⟩
        · rintro D zs W hD rfl ⟨⟨hI, hz⟩, hE⟩ hK
          have pbx := hE.blk p0 (by omega)
          have rx := hE.blk r0 (by omega)
          have y0 : W.cell? ⟨P, 0, none⟩ = some (.slice (some ⟨gj, 0, none⟩) B B) := pbx.cell rfl
          have y1 : W.cell? ⟨P, 1, none⟩ = some (.slice (some ⟨az, 0, none⟩) C C) := pbx.cell rfl
          have y2 : W.cell? ⟨P, 2, none⟩ = some (.slice (some ⟨ac, 0, none⟩) N N) := pbx.cell rfl
          have rx' : Blk W (w.heap.size + 1 + 1) nil3 33 := rx
          have r0' : W.cell? ⟨w.heap.size + 1 + 1, 0, none⟩ = some (.slice none 0 0) := rx'.cell rfl
          have r1' : W.cell? ⟨w.heap.size + 1 + 1, 1, none⟩ = some (.slice none 0 0) := rx'.cell rfl
          have r2' : W.cell? ⟨w.heap.size + 1 + 1, 2, none⟩ = some (.slice none 0 0) := rx'.cell rfl
          have r3' := rx'.free 0
          have r4' := rx'.free 1
          have r5' := rx'.free 2
          go_wp2
          have k1 := (KeepsOthers.setCell W ⟨w.heap.size + 1 + 1, 0, none⟩ (.slice (some ⟨gj, 0, none⟩) B B)).same D _ hK rfl
          have k2 := (KeepsOthers.setCell (W.setCell ⟨w.heap.size + 1 + 1, 0, none⟩ (.slice (some ⟨gj, 0, none⟩) B B)) ⟨w.heap.size + 1 + 1, 1, none⟩ (.slice (some ⟨az, 0, none⟩) C C)).same D _ k1 rfl
          have k3 := (KeepsOthers.setCell ((W.setCell ⟨w.heap.size + 1 + 1, 0, none⟩ (.slice (some ⟨gj, 0, none⟩) B B)).setCell ⟨w.heap.size + 1 + 1, 1, none⟩ (.slice (some ⟨az, 0, none⟩) C C)) ⟨w.heap.size + 1 + 1, 2, none⟩ (.slice (some ⟨ac, 0, none⟩) N N)).same D _ k2 rfl
          have hDr : D ≠ w.heap.size + 1 + 1 := by omega
          have rr : Blk ((((W.setCell ⟨w.heap.size + 1 + 1, 0, none⟩ (.slice (some ⟨gj, 0, none⟩) B B)).setCell ⟨w.heap.size + 1 + 1, 1, none⟩ (.slice (some ⟨az, 0, none⟩) C C)).setCell ⟨w.heap.size + 1 + 1, 2, none⟩ (.slice (some ⟨ac, 0, none⟩) N N)).putObj D (.deferred none)) (w.heap.size + 1 + 1) #[.slice (some ⟨gj, 0, none⟩) B B, .slice (some ⟨az, 0, none⟩) C C, .slice (some ⟨ac, 0, none⟩) N N] 33 := (World.putObj_heap_other (Ne.symm hDr)).trans (((rx'.set 0 _).set 1 _).set 2 _)
          have d0 := rr.cell (o := 0) (v := .slice (some ⟨gj, 0, none⟩) B B) rfl
          have d1 := rr.cell (o := 1) (v := .slice (some ⟨az, 0, none⟩) C C) rfl
          have d2 := rr.cell (o := 2) (v := .slice (some ⟨ac, 0, none⟩) N N) rfl
          refine ⟨by simp, .inl ⟨_, _, rfl, run_takeDeferred k3, ?_⟩⟩
          have hbW : Below w.heap.size w W := hbn.trans (hE.to_below (by omega) (by omega))
          have hb3 := ((hbW.setCell (p := ⟨w.heap.size + 1 + 1, 0, none⟩) (by show w.heap.size ≤ w.heap.size + 1 + 1; omega) (.slice (some ⟨gj, 0, none⟩) B B)).setCell (p := ⟨w.heap.size + 1 + 1, 1, none⟩) (by show w.heap.size ≤ w.heap.size + 1 + 1; omega) (.slice (some ⟨az, 0, none⟩) C C)).setCell (p := ⟨w.heap.size + 1 + 1, 2, none⟩) (by show w.heap.size ≤ w.heap.size + 1 + 1; omega) (.slice (some ⟨ac, 0, none⟩) N N)
          have hsF : W.heap.size ≤ ((((W.setCell ⟨w.heap.size + 1 + 1, 0, none⟩ (.slice (some ⟨gj, 0, none⟩) B B)).setCell ⟨w.heap.size + 1 + 1, 1, none⟩ (.slice (some ⟨az, 0, none⟩) C C)).setCell ⟨w.heap.size + 1 + 1, 2, none⟩ (.slice (some ⟨ac, 0, none⟩) N N)).putObj D (.deferred none)).heap.size := by simp [World.setCell]
          refine ⟨.tuple #[.agg #[.slice (some ⟨gj, 0, none⟩) B B, .slice (some ⟨az, 0, none⟩) C C, .slice (some ⟨ac, 0, none⟩) N N], .int .i64 0], by simp [results, Tryz.f14, go_sem, d0, d1, d2], _, _, _, rfl, hb3.trans (belowK_b (w := w) (Nat.le_refl _) _ D _ _ (by omega) k3 rfl rfl), ?_⟩
          refine an_end (M := Wn.heap.size) (gs := gs) (S := W0.heap.size) (R := w.heap.size + 1 + 1) (W := W) (rw0.keep (hE.block gj (by omega) (by omega))) (hs0.keep (hE.block az (by omega) (by omega)) (fun k h0 h1 => hE.block k h1 (by omega))) (hI.ext fun i hi c hc b hb => tl_all hi hc hb) (by omega) o.2.2.1 (fun k hk hR => ?_) (by omega) ⟨by omega, by omega⟩ ⟨by omega, by omega⟩ (fun i hi => ⟨by have := hgs i hi; omega, by have := hgs i hi; omega⟩) ⟨by omega, by omega⟩
          refine (World.putObj_heap_other (by omega)).trans ((Below.heap_setCell _ _ _ _ ?_).trans ((Below.heap_setCell _ _ _ _ ?_).trans (Below.heap_setCell _ _ _ _ ?_))) <;> exact hR
        · rintro D c pre W _ _ h _
          exact h.elim)
end Sub
end Go.Proofs.YtcaifpjbjghhaaaGreatDoor

/-
  Contract of Planes: the planes of parameters. Conditions: as told at each.
-/
namespace Go.Proofs.YtcaifpjbjghhaaaGreatDoor
set_option linter.unusedVariables false
open Go.RowKit Go.Shelf
namespace Sub
open Bank (Blk But)
open Poly (Reads cell_keep alloc_size)
open _root_.Go.Proofs.YtcaifpjbjghhaaaGreatDoor.Form (fv fc bel1 Says box_cells box_behind blk_below of_drew)
attribute [local go_sem] Oper.semAt_some

end Sub
end Go.Proofs.YtcaifpjbjghhaaaGreatDoor

