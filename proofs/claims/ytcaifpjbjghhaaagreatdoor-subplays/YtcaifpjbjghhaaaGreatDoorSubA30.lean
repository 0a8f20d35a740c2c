import Derived.Test.YtcaifpjbjghhaaaGreatDoorSubA29
/-
  Feeding a splitter; resetting it. Conditions: as told at each.
-/
namespace Go.Proofs.YtcaifpjbjghhaaaGreatDoor
set_option linter.unusedVariables false
open Go.RowKit
namespace Poly
open Bank (Blk But)

theorem Spl.cells {lo gl m : Nat} {xs : List Int} {w : World} (h : Spl lo gl m xs w) : w.cell? ⟨gl + 1, 0, none⟩ = some (.int .i64 m) ∧ w.cell? ⟨gl + 1, 3, none⟩ = some (.slice (some ⟨gl, 0, none⟩) (10 * m) (10 * m)) := by
  obtain ⟨h0, h1, h2, h3, h4, vf, vw, h5, h6, h7⟩ := h
  exact ⟨h5.cell (o := 0) rfl, h5.cell (o := 3) rfl⟩
theorem Spl.seen {lo gl m : Nat} {xs : List Int} {w : World} (h : Spl lo gl m xs w) : Seen m (gl + 1) lo gl (.slice (some ⟨gl, 0, none⟩) (10 * m) (10 * m)) w := by
  obtain ⟨h0, h1, h2, h3, h4, vf, vw, h5, h6, h7⟩ := h
  exact ⟨by omega, by omega, h5.cell (o := 0) rfl, h5.cell (o := 3) rfl, vf, h5.cell (o := 1) rfl, h6⟩
/-- the line has turned, and nothing else of it -/
theorem Spl.relay {lo gl m : Nat} {xs ys : List Int} {w w' : World} (h : Spl lo gl m xs w) (hb : But gl w w') (hy : Blk w' gl (enc .i16 ys).toArray 182) (hl : ys.length = 10 * m) (hf : M.fits16 ys) : Spl lo gl m ys w' := by
  obtain ⟨h0, h1, h2, h3, h4, vf, vw, h5, h6, h7⟩ := h
  have hs := hb.size
  exact ⟨h0, by omega, hy, hl, hf, vf, vw, hb.blk h5 (by omega), h6.but hb (by omega) (.inr (Nat.le_refl _)), h7.but hb (by omega) (.inr (Nat.le_refl _))⟩

theorem folded_any {m M2 gl lo : Nat} {xs : List Int} {w : World} (hm : (m = 4 ∧ M2 = 8) ∨ (m = 8 ∧ M2 = 16)) (h : Spl lo gl m xs w) :
    Calls Tryz.prog 192 #[.pointer (some ⟨gl + 1, 0, none⟩)] w fun e w' => e = .returned (.slice (some ⟨w.heap.size, 0, none⟩) M2 M2) ∧
      Blk w' w.heap.size (enc .i32 (M.ys m xs)).toArray 21 ∧ Below w.heap.size w w' ∧ w'.heap.size = w.heap.size + 1 := by
  rcases hm with ⟨rfl, rfl⟩ | ⟨rfl, rfl⟩
  · exact folded_4 (gl + 1) gl lo gl xs w h.seen h.2.2.1 h.2.2.2.1 h.2.2.2.2.1
  · exact folded_8 (gl + 1) gl lo gl xs w h.seen h.2.2.1 h.2.2.2.1 h.2.2.2.2.1

/-- the sums over a splitter's waves -/
theorem splSums {m M2 gl lo H : Nat} {xs : List Int} {w : World} (sp : Int) (hm : (m = 4 ∧ M2 = 8 ∧ sp = 17) ∨ (m = 8 ∧ M2 = 16 ∧ sp = 18)) (h : Spl lo gl m xs w) (hH : Blk w H (enc .i32 (M.ys m xs)).toArray 21) :
    Calls Tryz.prog 191 #[.pointer (some ⟨gl + 1, 0, none⟩), .slice (some ⟨H, 0, none⟩) M2 M2, .int .i64 sp] w fun e w' => e = .returned (.slice (some ⟨w.heap.size, 0, none⟩) m m) ∧
      Blk w' w.heap.size (enc .i32 (M.spl m xs)).toArray 21 ∧ Below w.heap.size w w' ∧ w'.heap.size = w.heap.size + 1 := by
  obtain ⟨h0, h1, h2, h3, h4, vf, vw, h5, h6, h7⟩ := h
  have hr := reads_blk hH (fit32.2 (M.ys_fits m xs))
  rw [M.ys_length, show 2 * m = M2 from by omega] at hr
  have hH' := hH.lt
  have e := sums_any (gl + 1) lo gl H (H + 1) vw _ (M.ys m xs) ((List.range m).map (M.ws m)) sp m w (h5.cell (o := 2) rfl) h7 hr (by
    intro i hi
    have hi : i < m := by simpa using hi
    have e : ((List.range m).map (M.ws m)).getD i [] = M.ws m i := by simp [List.getD, hi]
    rw [e, M.ws_length, M.ys_length]) (by omega) (by omega) (by rw [M.ys_length]; omega) (by simp; omega) (by simp; omega) (by omega) (by omega) (by simp)
  refine e.mono ?_
  rintro e w' ⟨rfl, hb, hbel, hs⟩
  refine ⟨rfl, ?_, hbel, hs⟩
  have e2 : ((List.range m).map fun i => M.sat32 (M.rnd (Dot.dotTo (M.ys m xs) (((List.range m).map (M.ws m)).getD i []) (M.ys m xs).length) sp)) = M.spl m xs := by
    unfold M.spl
    apply List.map_congr_left
    intro i hi
    have hi := List.mem_range.1 hi
    have e : ((List.range m).map (M.ws m)).getD i [] = M.ws m i := by simp [List.getD, hi]
    rw [e, M.ys_length]
    unfold M.sh
    rcases hm with ⟨rfl, rfl, rfl⟩ | ⟨rfl, rfl, rfl⟩ <;> rfl
  rw [e2] at hb
  exact hb

/-- a line into which k samples of x have come -/
def Line (gl m k : Nat) (x xs : List Int) (w : World) : Prop :=
  ∃ cur : Array Value, Blk w gl cur 182 ∧ cur.size = 10 * m ∧ (∀ i, i < k → cur[m - 1 - i]? = some (.int .i16 (x.getD i 0))) ∧ ∀ p, m ≤ p → p < 10 * m → cur[p]? = some (.int .i16 (xs.getD (p - m) 0))
theorem line_start {gl m : Nat} {x xs : List Int} {w : World} (h : Blk w gl (enc .i16 (xs.take m ++ xs.take (10 * m - m))).toArray 182) (hl : xs.length = 10 * m) (hm : 1 ≤ m) : Line gl m 0 x xs w := by
  refine ⟨_, h, ?_, fun i hi => absurd hi (by omega), fun p h0 h1 => ?_⟩
  · simp [enc_length]; omega
  · rw [List.getElem?_toArray, enc_get (by simp; omega)]
    congr 2
    simp only [List.getD]
    rw [List.getElem?_append_right (by simp; omega), List.getElem?_take]
    simp only [List.length_take]
    rw [Nat.min_eq_left (by omega), if_pos (by omega)]
theorem Line.step {gl m k : Nat} {x xs : List Int} {w : World} (h : Line gl m k x xs w) (hk : k < m) {ix : Nat} (hix : ix = m - 1 - k) : Line gl m (k + 1) x xs (w.setCell ⟨gl, ix, none⟩ (.int .i16 (x.getD k 0))) := by
  obtain ⟨cur, h1, h2, h3, h4⟩ := h
  subst hix
  refine ⟨_, h1.set _ _, by simpa using h2, fun i hi => ?_, fun p h0 h5 => ?_⟩
  · rw [Array.getElem?_setIfInBounds]
    split
    · have : i = k := by omega
      subst this; rw [if_pos (by omega)]
    · exact h3 i (by omega)
  · rw [Array.getElem?_setIfInBounds, if_neg (by omega)]
    exact h4 p h0 h5
theorem Line.whole {gl m : Nat} {x xs : List Int} {w : World} (h : Line gl m m x xs w) (hx : x.length = m) (hl : xs.length = 10 * m) : Blk w gl (enc .i16 (M.nx m x xs)).toArray 182 := by
  obtain ⟨cur, h1, h2, h3, h4⟩ := h
  have e : cur = (enc .i16 (M.nx m x xs)).toArray := by
    apply Array.ext'
    apply List.ext_getElem?
    intro p
    by_cases hp : p < 10 * m
    · rw [Array.getElem?_toList, enc_get (by rw [M.nx_length hl]; exact hp)]
      by_cases hpm : p < m
      · have := h3 (m - 1 - p) (by omega)
        rw [show m - 1 - (m - 1 - p) = p from by omega] at this
        rw [this]
        congr 2
        simp only [M.nx, List.getD]
        rw [List.getElem?_take, if_pos hp, List.getElem?_append_left (by simp; omega), List.getElem?_reverse (by omega), hx]
      · rw [h4 p (by omega) hp]
        congr 2
        simp only [M.nx, List.getD]
        rw [List.getElem?_take, if_pos hp, List.getElem?_append_right (by simp; omega)]
        simp [hx]
    · rw [List.getElem?_eq_none (by simp; omega), List.getElem?_eq_none (by rw [enc_length, M.nx_length hl]; omega)]
  rw [← e]; exact h1
theorem Line.cell {gl m k : Nat} {x xs : List Int} {w : World} (h : Line gl m k x xs w) {ix : Nat} (hix : ix < 10 * m) : (∃ u, w.cell? ⟨gl, ix, none⟩ = some u) ∧ w.frozen? ⟨gl, ix, none⟩ = false := by
  obtain ⟨cur, h1, h2, _⟩ := h
  exact ⟨⟨cur[ix]'(by omega), h1.cell (by simp [h2, hix])⟩, h1.free ix⟩

set_option maxRecDepth 100000 in
set_option maxHeartbeats 1000000 in
theorem splitFeed (m M2 M10 lo gl lo' hi' : Nat) (sp : Int) (x xs : List Int) (vx : Value) (w : World) (hm : (m = 4 ∧ M2 = 8 ∧ M10 = 40 ∧ sp = 17) ∨ (m = 8 ∧ M2 = 16 ∧ M10 = 80 ∧ sp = 18)) (h : Spl lo gl m xs w) (hx : Reads .i16 lo' hi' w vx x) (hxl : x.length = m) (h1 : hi' ≤ w.heap.size) (hg : gl < lo' ∨ hi' ≤ gl) :
    Calls Tryz.prog 148 #[.pointer (some ⟨gl + 1, 0, none⟩), vx] w fun e w' => ∃ v, e = .returned (.tuple #[v, .int .i64 0]) ∧ Spl lo gl m (M.nx m x xs) w' ∧ But gl w w' ∧ Reads .i32 w.heap.size w'.heap.size w' v (M.spl m (M.nx m x xs)) := by
  obtain ⟨c0, c3⟩ := h.cells
  have e10 : 10 * m = M10 := by omega
  rw [e10] at c3
  obtain ⟨ax, cx, rfl⟩ := hx.form
  obtain ⟨bx, ox, rfl, q0, q1, hcx⟩ := hx.cell (by omega)
  rw [hxl] at hcx ⊢
  have hmv := moveOn16 gl m xs w h.2.2.1 (by have := h.2.2.2.1; omega) (by have := h.2.2.2.1; omega)
  rw [h.2.2.2.1, e10] at hmv
  have hlen := h.2.2.2.1
  have hxf : M.fits16 x := by obtain ⟨_, _, _, _, hw, _⟩ := hx; exact fit16.1 hw
  have hw1 : Line gl m 0 x xs (w.setRow gl (enc .i16 (xs.take m ++ xs.take (M10 - m))).toArray) := by
    rw [← e10]; exact line_start (Blk.setRow h.2.2.1 _) hlen (by omega)
  have hb1 : But gl w (w.setRow gl (enc .i16 (xs.take m ++ xs.take (M10 - m))).toArray) := But.setRow (Bank.But.refl _ _) _
  have hpt : ((((m : Int) == 4) = true) ∧ sp = 17) ∨ ((((m : Int) == 4) = false) ∧ sp = 18) := by
    rcases hm with ⟨rfl, _, _, rfl⟩ | ⟨rfl, _, _, rfl⟩
    · exact .inl ⟨rfl, rfl⟩
    · exact .inr ⟨rfl, rfl⟩
  have hend : ∀ wr, Line gl m m x xs wr → But gl w wr → Spl lo gl m (M.nx m x xs) wr := fun wr hL hb =>
    h.relay hb (hL.whole hxl hlen) (M.nx_length hlen) (M.nx_fits hxf h.2.2.2.2.1)
  have hcells : ∀ wr, But gl w wr → wr.cell? ⟨gl + 1, 0, none⟩ = some (.int .i64 m) ∧ wr.cell? ⟨gl + 1, 3, none⟩ = some (.slice (some ⟨gl, 0, none⟩) M10 M10) ∧ ∀ i, i < m → wr.cell? ⟨bx, ox + i, none⟩ = some (.int .i16 (x.getD i 0)) := by
    intro wr hb
    have k := hb.block (gl + 1) (by have := h.2.1; omega) (by omega)
    exact ⟨(cell_keep k).trans c0, (cell_keep k).trans c3, fun i hi => (cell_keep (hb.block bx (by omega) (by omega))).trans (hcx i hi)⟩
  generalize w.setRow gl (enc .i16 (xs.take m ++ xs.take (M10 - m))).toArray = w1 at hmv hw1 hb1
  have HE : Hid _ := hend
  have HC : Hid _ := hcells
  have HM : Hid _ := hm
  have m1 : (m : Int) ≤ 8 := by omega
  have m0 : (1 : Int) ≤ m := by omega
  have m3 : (M10 : Int) ≤ 80 := by omega
  have m4 : (m : Int) ≤ M10 := by omega
  have hml : m ≤ M10 := by omega
  have hne : ((m : Int) != (m : Int)) = false := by simp
  obtain ⟨c10, c13, _⟩ := HC.out w1 hb1
  clear hend hcells hcx hx hm h hxf hlen
  go_enter Tryz.func148, Tryz.ntmps148
  go_wp2_with (go_at_call 190; refine hmv.mono ?_; rintro e w' ⟨rfl, hw'⟩; subst hw')
  go_loopw [28] (fun i wr => ∃ k : Nat, k ≤ m ∧ i = .int .i64 k ∧ Line gl m k x xs wr ∧ But gl w wr) (fun i _ => m - (intOf i).toNat)
  case atStart => exact ⟨0, by omega, rfl, hw1, hb1⟩
  case round =>
    clear hmv hw1 hb1 c10 c13
    obtain ⟨k, hk, rfl, hL, hb⟩ := hrel
    obtain ⟨k0, k3, kx⟩ := HC.out wr hb
    by_cases hlt : k < m
    · have hlt' : (k : Int) < m := by omega
      have qx := kx k hlt
      obtain ⟨ix, hix⟩ : ∃ ix : Nat, ix = m - 1 - k := ⟨_, rfl⟩
      have hix' : (m : Int) - 1 - (k : Int) = (ix : Int) := by omega
      have hb0 : (0 : Int) ≤ ix ∧ (ix : Int) < M10 := by omega
      obtain ⟨⟨u, hu⟩, hfz⟩ := hL.cell (ix := ix) (by omega)
      have HIX : Hid (ix = m - 1 - k) := hix
      have hstep := hL.step hlt hix
      have HS : Hid _ := hstep
      generalize x.getD k 0 = y at qx HS
      clear kx HE hix hstep hL
      go_wp2
      go_roundw
      case rel => exact ⟨k + 1, by omega, by go_num, HS.out, hb.set (.inl rfl) _⟩
      case measure => simp [intOf]; omega
    · obtain rfl : k = m := by omega
      have hS := HE.out wr hL hb
      have hfold := folded_any (M2 := M2) (by have := HM.out; omega) (hS.drewN 1)
      have hsum : ∀ w2, Blk w2 wr.heap.size (enc .i32 (M.ys k (M.nx k x xs))).toArray 21 → Below wr.heap.size (wr.drewN 1) w2 → w2.heap.size = wr.heap.size + 1 → Calls Tryz.prog 191 #[.pointer (some ⟨gl + 1, 0, none⟩), .slice (some ⟨wr.heap.size, 0, none⟩) M2 M2, .int .i64 sp] w2 fun e w' =>
          ∃ v, e = .returned v ∧ Spl lo gl k (M.nx k x xs) w' ∧ But gl w w' ∧ Reads .i32 w.heap.size w'.heap.size w' v (M.spl k (M.nx k x xs)) := by
        intro w2 hb2 hbel hs2
        have hS2 : Spl lo gl k (M.nx k x xs) w2 := (hS.drewN 1).below hbel hS.2.1
        refine (splSums sp (by have := HM.out; omega) hS2 hb2).mono ?_
        rintro e w3 ⟨rfl, hb3, hbel3, hs3⟩
        have hws := hb.size
        refine ⟨_, rfl, hS2.below hbel3 hS2.2.1, ?_, ?_⟩
        · exact But.below' (But.below' (hb.drewN 1) hbel hws) hbel3 (by omega)
        · have hr := reads_blk hb3 (fit32.2 (M.spl_fits k _))
          rw [M.spl_length] at hr
          exact hr.mono (by omega) (by omega)
      have HS : Hid _ := hsum
      clear hsum kx HE HC hS
      rcases hpt with ⟨h4, rfl⟩ | ⟨h4, rfl⟩
      · go_wp2
        go_region_with (first
          | (go_at_call 192; refine hfold.mono ?_; rintro e w2 ⟨rfl, g1, g2, g3⟩; have hsum2 := HS.out w2 g1 g2 g3; clear g1 g2 g3)
          | (go_at_call 191; refine hsum2.mono ?_; rintro e w3 ⟨v, rfl, hfin⟩))
        all_goals
          go_wp2
          go_ret2
          exact ⟨v, rfl, hfin⟩
      · go_wp2
        go_region_with (first
          | (go_at_call 192; refine hfold.mono ?_; rintro e w2 ⟨rfl, g1, g2, g3⟩; have hsum2 := HS.out w2 g1 g2 g3; clear g1 g2 g3)
          | (go_at_call 191; refine hsum2.mono ?_; rintro e w3 ⟨v, rfl, hfin⟩))
        all_goals
          go_wp2
          go_ret2
          exact ⟨v, rfl, hfin⟩

end Poly
end Go.Proofs.YtcaifpjbjghhaaaGreatDoor

/-
  Feeding a joiner; resets. Conditions: as told at each.
-/
namespace Go.Proofs.YtcaifpjbjghhaaaGreatDoor
set_option linter.unusedVariables false
open Go.RowKit
namespace Poly
open Bank (Blk But)

theorem Joi.cells {lo gl m : Nat} {xs : List Int} {w : World} (h : Joi lo gl m xs w) : w.cell? ⟨gl + 1, 0, none⟩ = some (.int .i64 m) ∧ w.cell? ⟨gl + 1, 3, none⟩ = some (.slice (some ⟨gl, 0, none⟩) (20 * m) (20 * m)) := by
  obtain ⟨h0, h1, h2, h3, h4, vf, vw, h5, h6, h7⟩ := h
  exact ⟨h5.cell (o := 0) rfl, h5.cell (o := 3) rfl⟩
theorem Joi.seen {lo gl m : Nat} {xs : List Int} {w : World} (h : Joi lo gl m xs w) : Seen m (gl + 1) lo gl (.slice (some ⟨gl, 0, none⟩) (20 * m) (20 * m)) w := by
  obtain ⟨h0, h1, h2, h3, h4, vf, vw, h5, h6, h7⟩ := h
  exact ⟨by omega, by omega, h5.cell (o := 0) rfl, h5.cell (o := 3) rfl, vf, h5.cell (o := 1) rfl, h6⟩
theorem Joi.relay {lo gl m : Nat} {xs ys : List Int} {w w' : World} (h : Joi lo gl m xs w) (hb : But gl w w') (hy : Blk w' gl (enc .i32 ys).toArray 21) (hl : ys.length = 20 * m) (hf : M.fits32 ys) : Joi lo gl m ys w' := by
  obtain ⟨h0, h1, h2, h3, h4, vf, vw, h5, h6, h7⟩ := h
  have hs := hb.size
  exact ⟨h0, by omega, hy, hl, hf, vf, vw, hb.blk h5 (by omega), h6.but hb (by omega) (.inr (Nat.le_refl _)), h7.but hb (by omega) (.inr (Nat.le_refl _))⟩

end Poly
end Go.Proofs.YtcaifpjbjghhaaaGreatDoor

