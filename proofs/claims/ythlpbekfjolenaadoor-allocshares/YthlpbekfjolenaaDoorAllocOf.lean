/-
  Contracts of package alloc: needsOf. Conditions: as told at each; the offsets stand as their initialisers lay them.
-/
import Derived.Test.YthlpbekfjolenaaDoorAllocNeeds
import Derived.Deep.RegionHeld3
namespace Go.Proofs.YthlpbekfjolenaaDoor
set_option linter.unusedVariables false
open Go.RowKit
namespace Alloc
open Bank (Blk But)
open Poly (alloc_size enc cell_keep below_drew)
open _root_.Go.Proofs.YthlpbekfjolenaaDoor.Form (fv fc bel1 blk_below box_cells of_drew)

theorem cell_set_ne {w : World} {p q o : Nat} (v : Value) {b : Nat} (h : b ≠ p) : (w.setCell ⟨p, q, none⟩ v).cell? ⟨b, o, none⟩ = w.cell? ⟨b, o, none⟩ := by
  simp [World.cell?, Below.heap_setCell _ _ _ _ (show b ≠ (⟨p, q, none⟩ : Addr).block from h)]

/-- what stands while the needs are reckoned, k bands told: in block H the format, in H + 1 the scales, in q the needs' list -/
structure Nds (W : World) (f : M.Fmt) (vs : Value) (q a C B : Nat) (n : Nat → Int) (k : Nat) (wr : World) : Prop where
  bel : Below W.heap.size W wr
  fmt : Blk wr W.heap.size (fc f) 23
  sca : Blk wr (W.heap.size + 1) #[vs] 24
  lst : Blk wr q #[.slice (some ⟨a, 0, none⟩) C C] 24
  grid : Grid a C B (fun j => if j < k then n j else 0) wr
theorem Nds.grow {W : World} {f : M.Fmt} {vs : Value} {q a C B : Nat} {n : Nat → Int} {k : Nat} {w w' : World} (h : Nds W f vs q a C B n k w) (hb : Below w.heap.size w w') : Nds W f vs q a C B n k w' :=
  ⟨h.bel.trans (hb.mono h.bel.size), blk_below hb h.fmt h.fmt.lt, blk_below hb h.sca h.sca.lt, blk_below hb h.lst h.lst.lt, h.grid.grow hb⟩
theorem Nds.drew {W : World} {f : M.Fmt} {vs : Value} {q a C B : Nat} {n : Nat → Int} {k : Nat} {w : World} (h : Nds W f vs q a C B n k w) : Nds W f vs q a C B n k w.drew := ⟨below_drew h.bel, h.fmt, h.sca, h.lst, h.grid.drew⟩
theorem Nds.step {W : World} {f : M.Fmt} {vs : Value} {q a C B : Nat} {n : Nat → Int} {c b : Nat} {w : World} (h : Nds W f vs q a C B n (b * C + c) w) (hc : c < C) (hb : b < B) (ha : W.heap.size + 1 < a) (hq : a + C < q) {x : Int} (hx : x = n (b * C + c)) : Nds W f vs q a C B n (b * C + c + 1) (w.setCell ⟨a + 1 + c, b, none⟩ (.int .i64 x)) := by
  refine ⟨h.bel.setCell (by show W.heap.size ≤ a + 1 + c; omega) _, h.fmt.set_ne (by show W.heap.size ≠ a + 1 + c; omega) _, h.sca.set_ne (by show W.heap.size + 1 ≠ a + 1 + c; omega) _, h.lst.set_ne (by show q ≠ a + 1 + c; omega) _, h.grid.set hc hb ?_ ?_⟩
  · rw [if_pos (by omega), hx]
  · intro j hj
    by_cases h1 : j < b * C + c
    · rw [if_pos (by omega), if_pos h1]
    · rw [if_neg (by omega), if_neg h1]

/-- a scale that is read -/
theorem rows_at {lo hi : Nat} {w : World} {vs : Value} {zss : List (List Int)} (h : Poly.Rows .i64 lo hi w vs zss) {C B c b : Nat} (hl : zss.length = C) (hz : ∀ zs ∈ zss, zs.length = B) (hc : c < C) (hb : b < B) :
    ∃ b0 o0 cp b1 o1 cp1, vs = .slice (some ⟨b0, o0, none⟩) C cp ∧ b0 < hi ∧ b1 < hi ∧ w.cell? ⟨b0, o0 + c, none⟩ = some (.slice (some ⟨b1, o1, none⟩) B cp1) ∧ w.cell? ⟨b1, o1 + b, none⟩ = some (.int .i64 (M.sca zss c b)) := by
  obtain ⟨a, cp, rfl, _⟩ := h.form
  obtain ⟨b0, o0, rfl, _, l0, hx⟩ := h.cell (by omega)
  obtain ⟨u, hu, hr⟩ := hx c (by omega)
  have hm : zss.getD c [] ∈ zss := by rw [List.getD_eq_getElem?_getD, List.getElem?_eq_getElem (by omega)]; exact List.getElem_mem _
  have hB := hz _ hm
  obtain ⟨a1, cp1, rfl⟩ := hr.form
  obtain ⟨b1, o1, rfl, _, l1, hy⟩ := hr.cell (by omega)
  exact ⟨b0, o0, cp, b1, o1, cp1, by rw [hl], l0, l1, by rw [hu, hB], hy b (by omega)⟩

theorem needs_told (W : World) (f : M.Fmt) (vs : Value) (zss : List (List Int)) (q a C B r N : Nat) (hT : Tabs W) (hZ : Poly.Rows .i64 0 W.heap.size W vs zss) (hl : zss.length = C) (ok : M.okZ B zss) (h48 : B = 4 ∨ B = 8) (hC : f.h = C) (hB : f.b = B) (hr : f.r = r) (r3 : r ≤ 3) (hm : f.m = 0 ∨ f.m = 1)
    (c2 : C ≤ 2) (ha : W.heap.size + 1 < a) (hq : a + C < q) (hN : q < N) :
    Told C B N 23 #[.pointer (some ⟨W.heap.size + 1, 0, none⟩), .pointer (some ⟨W.heap.size, 0, none⟩), .pointer (some ⟨q, 0, none⟩)] (Nds W f vs q a C B (M.nd f.m C B r zss)) := by
  intro c b w hc hb hNw hI
  have hTw : Tabs w := hT.below hI.bel (Nat.le_refl _)
  obtain ⟨b0, o0, cp, b1, o1, cp1, rfl, l0, l1, s0, s1⟩ := rows_at hZ hl (fun zs h => (ok zs h).1) hc hb
  replace s0 := (cell_keep (hI.bel.block b0 l0)).trans s0
  replace s1 := (cell_keep (hI.bel.block b1 l1)).trans s1
  have bd := M.sca_bd ok c b
  have od := M.off_bd B r b
  have hn : M.nd f.m C B r zss (b * C + c) = if f.m = 1 then M.sca zss c b else M.loud (M.sca zss c b) (M.off B r b) := M.nd_at hc
  have hoff : ∀ wx, Tabs wx → Calls Tryd.prog 25 #[fv f, .int .i64 (b : Int)] wx fun e w' => e = .returned (.int .i64 (M.off B r b)) ∧ Below wx.heap.size wx w' := fun wx hw => offset_any f B r b wx hw h48 hB hr r3 hb
  have hlou : ∀ wx, Calls Tryd.prog 24 #[.int .i64 (M.sca zss c b), .int .i64 (M.off B r b)] wx fun e w' => e = .returned (.int .i64 (M.loud (M.sca zss c b) (M.off B r b))) ∧ w' = wx := fun wx => byLoudness_any _ _ wx (by omega) (by omega) (by omega) (by omega)
  generalize M.nd f.m C B r zss = n at *
  generalize M.off B r b = o at *
  generalize M.loud (M.sca zss c b) o = y at *
  generalize M.sca zss c b = x at *
  have k0 : w.cell? ⟨W.heap.size + 1, 0, none⟩ = some (.slice (some ⟨b0, o0, none⟩) C cp) := hI.sca.cell rfl
  have k1 : w.cell? ⟨q, 0, none⟩ = some (.slice (some ⟨a, 0, none⟩) C C) := hI.lst.cell rfl
  have k2 := hI.grid.at_head hc
  have k3 := hI.grid.at hc hb
  have k4 := hI.grid.free hc b
  rw [if_neg (by omega)] at k3
  have xs := box_cells hI.fmt
  have HL : Hid (b0 < W.heap.size ∧ b1 < W.heap.size ∧ W.heap.size + 1 < a ∧ a + C < q ∧ q < w.heap.size) := ⟨l0, l1, ha, hq, by omega⟩
  have HI : Hid _ := hI
  have HN : Hid (n (b * C + c) = if f.m = 1 then x else y) := hn
  have hc' : (c : Int) < C := by omega
  have hb' : (b : Int) < B := by omega
  have hC' : (C : Int) ≤ 2 := by omega
  have hB' : (B : Int) ≤ 8 := by omega
  have HT : Hid (Tabs w) := hTw
  have hoff' := hoff w.drew hTw
  have HNN : Hid (q < N ∧ N < w.heap.size) := ⟨hN, hNw⟩
  have Hc : Hid (c < C) := hc
  have Hb : Hid (b < B) := hb
  clear hI hn hTw hT hZ hl ok hoff bd od l0 l1 ha hq hN hNw c2 h48 r3 hc hb
  obtain ⟨c_, r_, h_, b_, k_, m_, j_, p_, l_, y_⟩ := f
  unfold fv at hoff'
  dsimp only at xs hoff' HN hC hB hr hm
  clear hC hB hr
  show Calls _ _ #[_, _, _, _, _] _ _
  rcases hm with rfl | rfl
  · obtain ⟨x0, x1, x2, x3, x4, x5, x6, x7, x8, x9⟩ := xs
    have xs : w.cell? ⟨W.heap.size, 0, none⟩ = some (.int .i64 c_) ∧ w.cell? ⟨W.heap.size, 1, none⟩ = some (.int .i64 r_) ∧ w.cell? ⟨W.heap.size, 2, none⟩ = some (.int .i64 h_) ∧ w.cell? ⟨W.heap.size, 3, none⟩ = some (.int .i64 b_) ∧ w.cell? ⟨W.heap.size, 4, none⟩ = some (.int .i64 k_) ∧ w.cell? ⟨W.heap.size, 5, none⟩ = some (.int .i64 0) ∧ w.cell? ⟨W.heap.size, 6, none⟩ = some (.int .i64 j_) ∧ w.cell? ⟨W.heap.size, 7, none⟩ = some (.int .i64 p_) ∧ w.cell? ⟨W.heap.size, 8, none⟩ = some (.int .i64 l_) ∧ w.cell? ⟨W.heap.size, 9, none⟩ = some (.int .i64 y_) ∧ w.cell? ⟨q, 0, none⟩ = some (.slice (some ⟨a, 0, none⟩) C C) ∧ w.cell? ⟨a, c, none⟩ = some (.slice (some ⟨a + 1 + c, 0, none⟩) B B) :=
      ⟨x0, x1, x2, x3, x4, x5, x6, x7, x8, x9, k1, k2⟩
    have HXs : Hid _ := xs
    have HSet : Hid (∀ (wx : World) (v : Value), (wx.cell? ⟨W.heap.size, 0, none⟩ = some (.int .i64 c_) ∧ wx.cell? ⟨W.heap.size, 1, none⟩ = some (.int .i64 r_) ∧ wx.cell? ⟨W.heap.size, 2, none⟩ = some (.int .i64 h_) ∧ wx.cell? ⟨W.heap.size, 3, none⟩ = some (.int .i64 b_) ∧ wx.cell? ⟨W.heap.size, 4, none⟩ = some (.int .i64 k_) ∧ wx.cell? ⟨W.heap.size, 5, none⟩ = some (.int .i64 0) ∧ wx.cell? ⟨W.heap.size, 6, none⟩ = some (.int .i64 j_) ∧ wx.cell? ⟨W.heap.size, 7, none⟩ = some (.int .i64 p_) ∧ wx.cell? ⟨W.heap.size, 8, none⟩ = some (.int .i64 l_) ∧ wx.cell? ⟨W.heap.size, 9, none⟩ = some (.int .i64 y_) ∧ wx.cell? ⟨q, 0, none⟩ = some (.slice (some ⟨a, 0, none⟩) C C) ∧ wx.cell? ⟨a, c, none⟩ = some (.slice (some ⟨a + 1 + c, 0, none⟩) B B)) →
        ((wx.setCell ⟨a + 1 + c, b, none⟩ v).cell? ⟨W.heap.size, 0, none⟩ = some (.int .i64 c_) ∧ (wx.setCell ⟨a + 1 + c, b, none⟩ v).cell? ⟨W.heap.size, 1, none⟩ = some (.int .i64 r_) ∧ (wx.setCell ⟨a + 1 + c, b, none⟩ v).cell? ⟨W.heap.size, 2, none⟩ = some (.int .i64 h_) ∧ (wx.setCell ⟨a + 1 + c, b, none⟩ v).cell? ⟨W.heap.size, 3, none⟩ = some (.int .i64 b_) ∧ (wx.setCell ⟨a + 1 + c, b, none⟩ v).cell? ⟨W.heap.size, 4, none⟩ = some (.int .i64 k_) ∧ (wx.setCell ⟨a + 1 + c, b, none⟩ v).cell? ⟨W.heap.size, 5, none⟩ = some (.int .i64 0) ∧ (wx.setCell ⟨a + 1 + c, b, none⟩ v).cell? ⟨W.heap.size, 6, none⟩ = some (.int .i64 j_) ∧ (wx.setCell ⟨a + 1 + c, b, none⟩ v).cell? ⟨W.heap.size, 7, none⟩ = some (.int .i64 p_) ∧ (wx.setCell ⟨a + 1 + c, b, none⟩ v).cell? ⟨W.heap.size, 8, none⟩ = some (.int .i64 l_) ∧ (wx.setCell ⟨a + 1 + c, b, none⟩ v).cell? ⟨W.heap.size, 9, none⟩ = some (.int .i64 y_) ∧ (wx.setCell ⟨a + 1 + c, b, none⟩ v).cell? ⟨q, 0, none⟩ = some (.slice (some ⟨a, 0, none⟩) C C) ∧ (wx.setCell ⟨a + 1 + c, b, none⟩ v).cell? ⟨a, c, none⟩ = some (.slice (some ⟨a + 1 + c, 0, none⟩) B B))) := by
      intro wx v h
      obtain ⟨l1, l2, l3, l4, l5⟩ := HL.out
      rw [cell_set_ne v (by omega), cell_set_ne v (by omega), cell_set_ne v (by omega), cell_set_ne v (by omega), cell_set_ne v (by omega), cell_set_ne v (by omega), cell_set_ne v (by omega), cell_set_ne v (by omega), cell_set_ne v (by omega), cell_set_ne v (by omega), cell_set_ne v (by have := Hc.out; omega), cell_set_ne v (by omega)]
      exact h
    go_enter Tryd.func23, Tryd.ntmps23
    go_wp2
    go_region_held3 (fun wx => wx.cell? ⟨W.heap.size, 0, none⟩ = some (.int .i64 c_) ∧ wx.cell? ⟨W.heap.size, 1, none⟩ = some (.int .i64 r_) ∧ wx.cell? ⟨W.heap.size, 2, none⟩ = some (.int .i64 h_) ∧ wx.cell? ⟨W.heap.size, 3, none⟩ = some (.int .i64 b_) ∧ wx.cell? ⟨W.heap.size, 4, none⟩ = some (.int .i64 k_) ∧ wx.cell? ⟨W.heap.size, 5, none⟩ = some (.int .i64 0) ∧ wx.cell? ⟨W.heap.size, 6, none⟩ = some (.int .i64 j_) ∧ wx.cell? ⟨W.heap.size, 7, none⟩ = some (.int .i64 p_) ∧ wx.cell? ⟨W.heap.size, 8, none⟩ = some (.int .i64 l_) ∧ wx.cell? ⟨W.heap.size, 9, none⟩ = some (.int .i64 y_) ∧ wx.cell? ⟨q, 0, none⟩ = some (.slice (some ⟨a, 0, none⟩) C C) ∧ wx.cell? ⟨a, c, none⟩ = some (.slice (some ⟨a + 1 + c, 0, none⟩) B B))
      (first | exact HXs.out | exact HYs.out | exact HSet.out _ _ HYs.out)
      (first
        | (go_at_call 25; refine hoff'.mono ?_; clear hoff'; rintro e w2 ⟨rfl, bel2⟩; have HI2 : Hid _ := Nds.grow HI.out.drew bel2; have ys : w2.cell? ⟨W.heap.size, 0, none⟩ = some (.int .i64 c_) ∧ w2.cell? ⟨W.heap.size, 1, none⟩ = some (.int .i64 r_) ∧ w2.cell? ⟨W.heap.size, 2, none⟩ = some (.int .i64 h_) ∧ w2.cell? ⟨W.heap.size, 3, none⟩ = some (.int .i64 b_) ∧ w2.cell? ⟨W.heap.size, 4, none⟩ = some (.int .i64 k_) ∧ w2.cell? ⟨W.heap.size, 5, none⟩ = some (.int .i64 0) ∧ w2.cell? ⟨W.heap.size, 6, none⟩ = some (.int .i64 j_) ∧ w2.cell? ⟨W.heap.size, 7, none⟩ = some (.int .i64 p_) ∧ w2.cell? ⟨W.heap.size, 8, none⟩ = some (.int .i64 l_) ∧ w2.cell? ⟨W.heap.size, 9, none⟩ = some (.int .i64 y_) ∧ w2.cell? ⟨q, 0, none⟩ = some (.slice (some ⟨a, 0, none⟩) C C) ∧ w2.cell? ⟨a, c, none⟩ = some (.slice (some ⟨a + 1 + c, 0, none⟩) B B) := ⟨HI2.out.fmt.cell rfl, HI2.out.fmt.cell rfl, HI2.out.fmt.cell rfl, HI2.out.fmt.cell rfl, HI2.out.fmt.cell rfl, HI2.out.fmt.cell rfl, HI2.out.fmt.cell rfl, HI2.out.fmt.cell rfl, HI2.out.fmt.cell rfl, HI2.out.fmt.cell rfl, HI2.out.lst.cell rfl, HI2.out.grid.at_head Hc.out⟩; have HYs : Hid _ := ys; clear ys; obtain ⟨u2, v3⟩ : ∃ u, w2.cell? ⟨a + 1 + c, b, none⟩ = some u := ⟨_, HI2.out.grid.at Hc.out Hb.out⟩; have v4 := HI2.out.grid.free Hc.out b)
        | (go_at_call 24; refine (hlou _).mono ?_; clear hlou; rintro e w3 ⟨rfl, hw3⟩; rw [hw3]; clear hw3 w3))
    all_goals (
      go_wp2
      go_end0
      refine ⟨rfl, Nds.step HI2.out Hc.out Hb.out HL.out.2.2.1 HL.out.2.2.2.1 (by rw [HN.out]; rfl), ?_⟩
      exact (Stay.of_below (of_drew bel2)).set (by show a + 1 + c < N; have := HL.out; have := HNN.out; have := Hc.out; omega) _)
  · obtain ⟨x0, x1, x2, x3, x4, x5, x6, x7, x8, x9⟩ := xs
    clear hoff' hlou
    go_enter Tryd.func23, Tryd.ntmps23
    go_wp2
    go_end0
    refine ⟨rfl, Nds.step HI.out Hc.out Hb.out HL.out.2.2.1 HL.out.2.2.2.1 (by rw [HN.out]; rfl), ?_⟩
    exact (Stay.refl _ _).set (by show a + 1 + c < N; have := HL.out; have := HNN.out; have := Hc.out; omega) _

theorem needsOf_any (f : M.Fmt) (vs : Value) (zss : List (List Int)) (C B r : Nat) (w : World) (hT : Tabs w) (hZ : Poly.Rows .i64 0 w.heap.size w vs zss) (hl : zss.length = C) (ok : M.okZ B zss) (h48 : B = 4 ∨ B = 8) (hC : f.h = C) (hB : f.b = B) (hr : f.r = r) (r3 : r ≤ 3) (hm : f.m = 0 ∨ f.m = 1) (c2 : C ≤ 2) :
    Calls Tryd.prog 13 #[fv f, vs] w fun e w' => e = .returned (.slice (some ⟨w.heap.size + 3, 0, none⟩) C C) ∧ Below w.heap.size w w' ∧ Grid (w.heap.size + 3) C B (M.nd f.m C B r zss) w' := by
  have hth : ∀ (q : Nat) (wx : World), Nds w f vs q (w.heap.size + 3) C B (M.nd f.m C B r zss) 0 wx → w.heap.size + 3 + C < q → q < wx.heap.size → Calls Tryd.prog 22 #[fv f, .func (.func 23) #[] #[.pointer (some ⟨w.heap.size + 1, 0, none⟩), .pointer (some ⟨w.heap.size, 0, none⟩), .pointer (some ⟨q, 0, none⟩)]] wx fun e w' => e = .returned (.tuple #[]) ∧ Nds w f vs q (w.heap.size + 3) C B (M.nd f.m C B r zss) (B * C) w' :=
    fun q wx h hq hs => through_any f C B _ _ _ wx hC hB c2 (by omega) (enters_of Tryd.func23 (by kernel_rfl) rfl) (fun k a b ha hb => ha.grow hb) (needs_told w f vs zss _ _ C B r _ hT hZ hl ok h48 hC hB hr r3 hm c2 (by omega) (by omega) hs) h
  obtain ⟨W2, hW2⟩ : ∃ W2, W2 = (w.alloc (.cells (fc f) 23)).alloc (.cells #[vs] 24) := ⟨_, rfl⟩
  have s2 : W2.heap.size = w.heap.size + 2 := by rw [hW2]; simp
  have q1 : Blk W2 w.heap.size (fc f) 23 := by rw [hW2]; exact (Blk.new w _ _).alloc _
  have q2 : Blk W2 (w.heap.size + 1) #[vs] 24 := by rw [hW2, ← alloc_size w (.cells (fc f) 23)]; exact Blk.new _ _ _
  have q3 : Below w.heap.size w W2 := by rw [hW2]; exact (bel1 _ _).alloc (bel1 _ _).size _
  have hbl : Calls Tryd.prog 14 #[fv f] W2 fun e w3 => e = .returned (.slice (some ⟨w.heap.size + 3, 0, none⟩) C C) ∧ Nds w f vs w3.heap.size (w.heap.size + 3) C B (M.nd f.m C B r zss) 0 (w3.alloc (.cells #[.slice (some ⟨w.heap.size + 3, 0, none⟩) C C] 24)) ∧ w.heap.size + 3 + C < w3.heap.size := by
    have hbl := blank_any f C B W2 hC hB c2 (by omega)
    rw [s2] at hbl
    refine hbl.mono ?_
    rintro e w3 ⟨rfl, b3, g3, s3⟩
    have fb := blk_below b3 q1 (by omega)
    have hb : Below w.heap.size w w3 := q3.trans (b3.mono (by omega))
    refine ⟨rfl, ⟨hb.alloc hb.size _, fb.alloc _, (blk_below b3 q2 (by omega)).alloc _, Blk.new w3 _ _, ?_⟩, by omega⟩
    exact (g3.grow ((Below.refl _ w3).alloc (Nat.le_refl _) _)).ext fun j _ => by rw [if_neg (by omega)]
  have hz : ∃ ax cx, vs = .slice ax zss.length cx := by obtain ⟨ax, cx, h, _⟩ := hZ.form; exact ⟨ax, cx, h⟩
  rw [hW2] at hbl
  clear q1 q2 q3 s2 hT hZ ok h48 hC hB hr r3 hm c2 hW2 W2
  obtain ⟨ax, cx, rfl⟩ := hz
  rw [hl] at *
  clear hl
  generalize M.nd f.m C B r zss = n at *
  obtain ⟨c_, r_, h_, b_, k_, m_, j_, p_, l_, y_⟩ := f
  unfold fv at hth hbl ⊢
  dsimp only [fc] at hth hbl ⊢
  have HT : Hid _ := hth
  clear hth
  go_enter Tryd.func13, Tryd.ntmps13
  go_wp2_with (first
    | (go_at_call 14; refine hbl.mono ?_; clear hbl; rintro e w3 ⟨rfl, h3, q3⟩; have xs := box_cells h3.fmt; dsimp only at xs; obtain ⟨x0, x1, x2, x3, x4, x5, x6, x7, x8, x9⟩ := xs; have H3 : Hid _ := h3; have HQ : Hid _ := q3; clear h3 q3)
    | (go_at_call 22; refine (HT.out w3.heap.size _ H3.out HQ.out (by rw [alloc_size]; exact Nat.lt_succ_self _)).mono ?_; clear HT H3 HQ; rintro e w4 ⟨rfl, h4⟩; have k4 : w4.cell? ⟨w3.heap.size, 0, none⟩ = some (.slice (some ⟨w.heap.size + 3, 0, none⟩) C C) := h4.lst.cell rfl; have H4 : Hid _ := h4; clear h4))
  go_ret
  exact ⟨rfl, H4.out.bel, H4.out.grid.ext (fun j hj => if_pos hj)⟩

end Alloc
end Go.Proofs.YthlpbekfjolenaaDoor
