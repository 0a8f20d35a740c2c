/-
  The law PcmWeaves walked. Conditions: each channel has at most 2^46 samples (the form's own reach gives it).
-/
import Derived.Test.YtnnljamkomlglaaPcmAlive
import Derived.Deep.RegionHeld3
namespace Go.Proofs.Ytnnljamkomlglaa
set_option linter.unusedVariables false
open Go.RowKit
namespace Pcm
open Bank (Blk But)
open Poly

theorem drew_b {e : Ending} {w w' : World} (h : ∃ m, w' = w.drewN m) : Below w.heap.size w w' ∧ w'.heap.size = w.heap.size := by
  obtain ⟨m, rfl⟩ := h
  exact ⟨below_drewN (Below.refl _ _) m, rfl⟩

set_option maxRecDepth 100000 in
theorem Weaves_far (v : Value) (l : List (List Int)) (w : World) (h : Poly.Rows .i16 0 w.heap.size w v l) (hl : 10 < l.length) :
    Calls Try.prog 4 #[v] w fun e w' => e = .returned (.bool true) ∧ Below w.heap.size w w' := by
  obtain ⟨a, cp, rfl, _⟩ := h.form
  have hal := alive_any w
  have l1 : (10 : Int) < l.length := by omega
  generalize l.length = n at *
  clear h hl
  go_enter Try.func4, Try.ntmps4
  go_wp2_with (go_at_call 7; refine hal.mono ?_; clear hal; rintro e w1 ⟨rfl, bel1⟩)
  go_ret
  exact ⟨rfl, bel1⟩

set_option maxRecDepth 100000 in
set_option maxHeartbeats 1000000 in
theorem Weaves_out (v : Value) (l : List (List Int)) (w : World) (h : Poly.Rows .i16 0 w.heap.size w v l) (hl : l.length ≤ 10) (h1 : l.length ≠ 1) (h2 : l.length ≠ 2) :
    Calls Try.prog 4 #[v] w fun e w' => e = .returned (.bool true) ∧ Below w.heap.size w w' := by
  obtain ⟨a, cp, rfl, _⟩ := h.form
  have hal := alive_any w
  have hW := fun wx (hr : Poly.Rows .i16 0 w.heap.size wx (.slice a l.length cp) l) => Weave_out 0 w.heap.size _ l wx hr h1 h2
  have l1 : ¬ (10 : Int) < l.length := by omega
  have l2 : ¬ (l.length : Int) = 1 := by omega
  have l3 : ¬ (l.length : Int) = 2 := by omega
  have HR : Hid (Poly.Rows _ _ _ _ _ _) := h
  generalize l.length = n at *
  clear h hl
  go_enter Try.func4, Try.ntmps4
  go_wp2_with (first
    | (go_at_call 7; refine hal.mono ?_; clear hal; rintro e w1 ⟨rfl, bel1⟩; have HR1 : Hid (Poly.Rows _ _ _ _ _ _) := HR.out.below bel1 (Nat.le_refl _); have HB1 : Hid (Below _ _ _) := bel1; clear bel1)
    | (go_at_call 15; refine (hW _ HR1.out).mono ?_; clear hW; rintro e w2 ⟨rfl, hw⟩; have HB2 : Hid (Below w1.heap.size w1 w2) := (drew_b (e := .outgrown) hw).1; clear hw))
  have d1 : decide ((n : Int) = 1) = false := decide_eq_false l2
  have d2 : decide ((n : Int) = 2) = false := decide_eq_false l3
  go_quiet (fail)
  go_wp2
  go_ret
  exact ⟨rfl, below_drewN (HB1.out.trans (Bits.Below.less HB2.out HB1.out.size)) _⟩

set_option maxRecDepth 100000 in
set_option maxHeartbeats 1000000 in
theorem Weaves_odd (v : Value) (xs ys : List Int) (w : World) (h : Poly.Rows .i16 0 w.heap.size w v [xs, ys]) (hne : xs.length ≠ ys.length) :
    Calls Try.prog 4 #[v] w fun e w' => e = .returned (.bool true) ∧ Below w.heap.size w w' := by
  obtain ⟨a, cp, rfl, _⟩ := h.form
  obtain ⟨b, off, rfl, k0, k1, hx⟩ := h.cell (by simp)
  obtain ⟨u, hu, hr⟩ := hx 0 (by simp)
  obtain ⟨u', hu', hr'⟩ := hx 1 (by simp)
  simp only [Nat.add_zero] at hu
  have hr : Reads .i16 0 w.heap.size w u xs := hr
  have hr' : Reads .i16 0 w.heap.size w u' ys := hr'
  obtain ⟨a', c', rfl⟩ := hr.form
  obtain ⟨a'', c'', rfl⟩ := hr'.form
  have hal := alive_any w
  have hW := fun wx (hr : Poly.Rows .i16 0 w.heap.size wx (.slice (some ⟨b, off, none⟩) 2 cp) [xs, ys]) => Weave_odd 0 w.heap.size _ xs ys wx hr hne
  have HR : Hid (Poly.Rows _ _ _ _ _ _) := h
  rw [show ([xs, ys] : List (List Int)).length = 2 from rfl] at HR ⊢
  clear h hx hr hr'
  have hne' : ¬ (xs.length : Int) = ys.length := by omega
  generalize xs.length = n at *
  generalize ys.length = m at *
  clear hne
  go_enter Try.func4, Try.ntmps4
  go_wp2_with (first
    | (go_at_call 7; refine hal.mono ?_; clear hal; rintro e w1 ⟨rfl, bel1⟩; have HR1 : Hid (Poly.Rows _ _ _ _ _ _) := HR.out.below bel1 (Nat.le_refl _); have HB1 : Hid (Below _ _ _) := bel1; clear bel1)
    | (go_at_call 15; refine (hW _ HR1.out).mono ?_; clear hW; rintro e w2 ⟨rfl, hw⟩; have HB2 : Hid (Below w1.heap.size w1 w2) := (drew_b (e := .outgrown) hw).1; clear hw))
  have b2 := HB1.out.trans (Bits.Below.less HB2.out HB1.out.size)
  have y0 : w2.cell? ⟨b, off, none⟩ = some (.slice a' n c') := (b2.cell k1).trans hu
  have y1 : w2.cell? ⟨b, off + 1, none⟩ = some (.slice a'' m c'') := (b2.cell k1).trans hu'
  have HB : Hid (Below _ _ _) := b2
  clear b2 hu hu'
  go_quiet (fail)
  go_wp2
  go_ret
  exact ⟨rfl, below_drewN HB.out _⟩

set_option maxRecDepth 100000 in
set_option maxHeartbeats 2000000 in
theorem Weaves_1 (n : Nat) (v : Value) (xs : List Int) (w : World) (h : Poly.Rows .i16 0 w.heap.size w v [xs]) (hn : xs.length = n) (hl : n ≤ 70368744177664) :
    Calls Try.prog 4 #[v] w fun e w' => e = .returned (.bool true) ∧ Below w.heap.size w w' := by
  obtain ⟨a, cp, rfl, _⟩ := h.form
  obtain ⟨b, off, rfl, k0, k1, hx⟩ := h.cell (by simp)
  have hln : ∀ k, k < 1 → (([xs] : List (List Int)).getD k []).length = n := fun k hk => by
    match k, hk with
    | 0, _ => exact hn
  have hx' : ∀ k, k < 1 → ∃ u cu, w.cell? ⟨b, off + k, none⟩ = some (.slice u n cu) ∧ Reads .i16 0 w.heap.size w (.slice u n cu) (([xs] : List (List Int)).getD k []) := fun k hk => by
    obtain ⟨u, hu, hr⟩ := hx k hk
    obtain ⟨au, cu, rfl⟩ := hr.form
    rw [hln k hk] at hu hr
    exact ⟨au, cu, hu, hr⟩
  have hfl : ∀ k, M.fits16 (([xs] : List (List Int)).getD k []) := fun k => by
    rcases Nat.lt_or_ge k 1 with hk | hk
    · obtain ⟨u, cu, _, hr⟩ := hx' k hk
      exact fit16.1 (by obtain ⟨_, _, _, _, hw, _⟩ := hr; exact hw)
    · rw [List.getD_eq_getElem?_getD, List.getElem?_eq_none (by simpa using hk)]; intro z hz; exact absurd hz (by simp)
  have hal := alive_any w
  obtain ⟨l, hpl⟩ : ∃ l : List (List Int), [xs] = l := ⟨_, rfl⟩
  have hll : l.length = 1 := by rw [← hpl]; rfl
  rw [hpl] at h hln hx' hfl ⊢
  rw [hll] at h ⊢
  clear hx hpl
  obtain ⟨N, hN⟩ : ∃ N, 1 * n = N := ⟨_, rfl⟩
  have hW := fun wx (hr : Poly.Rows .i16 0 w.heap.size wx (.slice (some ⟨b, off, none⟩) 1 cp) l) (hs : w.heap.size ≤ wx.heap.size) => Weave_ok 0 w.heap.size 1 n _ l wx hr hs (by omega) hll hln hfl hl
  have hWl := M.wov_length 1 n l
  rw [hN] at hWl
  obtain rfl : n = N := by omega
  have hCW : ∀ k, k < 1 → M.chn n (M.wov 1 n l) k 1 = l.getD k [] := fun k hk => M.chn_wov hk (hln k hk)
  generalize M.wov 1 n l = Z at hW hWl hCW
  have hCh := fun k lo hi vz wx (hr : Reads .i16 lo hi wx vz Z) (hh : hi ≤ wx.heap.size) (hs : n ≤ 3000) (hk : k < 1) => rChannel_any lo hi vz Z k 1 n wx hr hh (by omega) (by omega) hk (by omega)
  simp only [show ((1 : Nat) : Int) = 1 from rfl] at hCh
  have l1 : (n : Int) ≤ 70368744177664 := by omega
  have l0 : (0 : Int) ≤ n := by omega
  have n3 : 1 * (n : Int) = (n : Int) := by omega
  have HR : Hid (Poly.Rows _ _ _ _ _ _) := h
  have HX : Hid _ := hx'
  have HWl : Hid _ := hWl
  have HCW : Hid _ := hCW
  have Hln : Hid _ := hln
  obtain ⟨u0, cu0, hu0, hr0⟩ := hx' 0 (by omega)
  simp only [Nat.add_zero] at hu0
  have Hhl : Hid (n ≤ 70368744177664) := hl
  clear h hx' hWl hCW hln hfl hN hr0 hl
  go_enter Try.func4, Try.ntmps4
  go_wp2_with (first
    | (go_at_call 7; refine hal.mono ?_; clear hal; rintro e w1 ⟨rfl, bel1⟩; have HR1 : Hid (Poly.Rows _ _ _ _ _ _) := HR.out.below bel1 (Nat.le_refl _); have HB1 : Hid (Below _ _ _) := bel1; clear bel1)
    | (go_at_call 15; refine (hW _ HR1.out HB1.out.size).mono ?_; clear hW; rintro e w2 ⟨v2, rfl, r2, bel2⟩; obtain ⟨a2, c2, rfl⟩ := r2.form; rw [HWl.out] at r2 ⊢; have HR2 : Hid (Reads _ _ _ _ _ _) := r2; have HB2 : Hid (Below w1.heap.size w1 w2) := bel2; clear r2 bel2))
  have b2 := HB1.out.trans (Bits.Below.less HB2.out HB1.out.size)
  have y0 : w2.cell? ⟨b, off, none⟩ = some (.slice u0 n cu0) := (b2.cell k1).trans hu0
  have HB : Hid (Below _ _ _) := b2
  clear b2
  go_quiet (fail)
  obtain ⟨W, hWq⟩ : ∃ W, W = w2.drewN nq := ⟨_, rfl⟩
  rw [← hWq]
  have HB3 : Hid (Below w.heap.size w W) := by rw [hWq]; exact below_drewN HB.out nq
  have HR3 : Hid (Reads .i16 w1.heap.size W.heap.size W (.slice a2 n c2) Z) := by rw [hWq]; exact HR2.out
  have z0 : W.cell? ⟨b, off, none⟩ = some (.slice u0 n cu0) := (HB3.out.cell k1).trans hu0
  clear hWq HR2 HB y0 HB2 HB1 HR1 
  by_cases h3 : 3000 < n
  · have h3' : (3000 : Int) < n := by omega
    go_wp2
    go_ret
    exact ⟨rfl, HB3.out⟩
  · have h3' : ¬ (3000 : Int) < n := by omega
    have l1' : (n : Int) ≤ 3000 := by omega
    go_wp2
    go_loopw [5] (fun i wr => ∃ k : Nat, k ≤ 1 ∧ i = .int .i64 k ∧ Below W.heap.size W wr) (fun i _ => 1 - (intOf i).toNat)
    case atStart => exact ⟨0, by omega, rfl, Below.refl _ _⟩
    case round =>
      obtain ⟨k, hk, rfl, belr⟩ := hrel
      have sr := belr.size
      have br := HB3.out.trans (Bits.Below.less belr HB3.out.size)
      by_cases hlt : k < 1
      · obtain ⟨u, cu, hu, hru⟩ := HX.out k hlt
        have i1 : (0 : Int) ≤ k := by omega
        have i2 : (k : Int) < 1 := by omega
        have hur : wr.cell? ⟨b, off + k, none⟩ = some (.slice u n cu) := (br.cell k1).trans hu
        have hrr := hru.below br (Nat.le_refl _)
        have hzr := (HR3.out.below belr (Nat.le_refl _)).mono (Nat.le_refl _) sr
        have hC := hCh k _ _ _ wr.drew (by exact hzr) (Nat.le_refl _) (by omega) hlt
        rw [HCW.out k hlt] at hC
        have hbr : b < wr.drew.heap.size := Nat.lt_of_lt_of_le k1 br.size
        have Hrr : Hid (Reads .i16 0 w.heap.size wr.drew (.slice u n cu) _) := hrr
        have Hsr : Hid (w.heap.size ≤ wr.drew.heap.size) := br.size
        have Hsr2 : Hid (W.heap.size ≤ wr.heap.size) := sr
        have Hbl : Hid (Below _ _ _) := belr
        have hcn := Hln.out k hlt
        generalize l.getD k [] = Y at *
        have HY : Hid (Y.length = n) := hcn
        clear hzr hru hu hcn hrr sr belr hCh br HX
        go_wp2
        go_region_held3 (fun wx => wx.cell? ⟨b, off + k, none⟩ = some (.slice u n cu))
          (first | exact hur | exact q4 | exact q5)
          (first
            | (go_at_call 14; refine hC.mono ?_; clear hC; rintro e w4 ⟨v4, rfl, r4, bel4⟩; have q4 : w4.cell? ⟨b, off + k, none⟩ = some (.slice u n cu) := (bel4.cell hbr).trans hur)
            | (go_at_call 13; refine (same16b _ _ _ _ _ _ Y _ r4 (Hrr.out.below bel4 Hsr.out) (by have := HY.out; omega)).mono ?_; rintro e w5 ⟨rfl, bel5, sz5⟩; have q5 : w5.cell? ⟨b, off + k, none⟩ = some (.slice u n cu) := (bel5.cell (Nat.lt_of_lt_of_le hbr bel4.size)).trans q4))
        all_goals (
          go_wp2
          go_roundw
          case rel =>
            have b45 : Below wr.heap.size wr w5 := (show Below wr.heap.size wr w4 from ⟨bel4.os, bel4.tape, bel4.output, bel4.size, bel4.block⟩).trans (Bits.Below.less bel5 bel4.size)
            exact ⟨k + 1, by omega, by go_num, Hbl.out.trans (Bits.Below.less b45 Hsr2.out)⟩
          case measure => simp [intOf]; omega)
      · obtain rfl : 1 = k := by omega
        have HBr : Hid (Below _ _ _) := br
        clear br belr
        go_wp2
        go_ret
        exact ⟨rfl, HBr.out⟩

set_option maxRecDepth 100000 in
set_option maxHeartbeats 2000000 in
theorem Weaves_2 (n : Nat) (v : Value) (xs ys : List Int) (w : World) (h : Poly.Rows .i16 0 w.heap.size w v [xs, ys]) (hn : xs.length = n) (hm : ys.length = n) (hl : n ≤ 70368744177664) :
    Calls Try.prog 4 #[v] w fun e w' => e = .returned (.bool true) ∧ Below w.heap.size w w' := by
  obtain ⟨a, cp, rfl, _⟩ := h.form
  obtain ⟨b, off, rfl, k0, k1, hx⟩ := h.cell (by simp)
  have hln : ∀ k, k < 2 → (([xs, ys] : List (List Int)).getD k []).length = n := fun k hk => by
    match k, hk with
    | 0, _ => exact hn
    | 1, _ => exact hm
  have hx' : ∀ k, k < 2 → ∃ u cu, w.cell? ⟨b, off + k, none⟩ = some (.slice u n cu) ∧ Reads .i16 0 w.heap.size w (.slice u n cu) (([xs, ys] : List (List Int)).getD k []) := fun k hk => by
    obtain ⟨u, hu, hr⟩ := hx k hk
    obtain ⟨au, cu, rfl⟩ := hr.form
    rw [hln k hk] at hu hr
    exact ⟨au, cu, hu, hr⟩
  have hfl : ∀ k, M.fits16 (([xs, ys] : List (List Int)).getD k []) := fun k => by
    rcases Nat.lt_or_ge k 2 with hk | hk
    · obtain ⟨u, cu, _, hr⟩ := hx' k hk
      exact fit16.1 (by obtain ⟨_, _, _, _, hw, _⟩ := hr; exact hw)
    · rw [List.getD_eq_getElem?_getD, List.getElem?_eq_none (by simpa using hk)]; intro z hz; exact absurd hz (by simp)
  have hal := alive_any w
  obtain ⟨l, hpl⟩ : ∃ l : List (List Int), [xs, ys] = l := ⟨_, rfl⟩
  have hll : l.length = 2 := by rw [← hpl]; rfl
  rw [hpl] at h hln hx' hfl ⊢
  rw [hll] at h ⊢
  clear hx hpl
  obtain ⟨N, hN⟩ : ∃ N, 2 * n = N := ⟨_, rfl⟩
  have hW := fun wx (hr : Poly.Rows .i16 0 w.heap.size wx (.slice (some ⟨b, off, none⟩) 2 cp) l) (hs : w.heap.size ≤ wx.heap.size) => Weave_ok 0 w.heap.size 2 n _ l wx hr hs (by omega) hll hln hfl hl
  have hWl := M.wov_length 2 n l
  rw [hN] at hWl
  have n2 : (N : Int) ≤ 140737488355328 := by omega
  have hCW : ∀ k, k < 2 → M.chn n (M.wov 2 n l) k 2 = l.getD k [] := fun k hk => M.chn_wov hk (hln k hk)
  generalize M.wov 2 n l = Z at hW hWl hCW
  have hCh := fun k lo hi vz wx (hr : Reads .i16 lo hi wx vz Z) (hh : hi ≤ wx.heap.size) (hs : n ≤ 3000) (hk : k < 2) => rChannel_any lo hi vz Z k 2 n wx hr hh (by omega) (by omega) hk (by omega)
  simp only [show ((2 : Nat) : Int) = 2 from rfl] at hCh
  have l1 : (n : Int) ≤ 70368744177664 := by omega
  have l0 : (0 : Int) ≤ n := by omega
  have n3 : 2 * (n : Int) = (N : Int) := by omega
  have HR : Hid (Poly.Rows _ _ _ _ _ _) := h
  have HX : Hid _ := hx'
  have HWl : Hid _ := hWl
  have HCW : Hid _ := hCW
  have Hln : Hid _ := hln
  obtain ⟨u0, cu0, hu0, hr0⟩ := hx' 0 (by omega)
  simp only [Nat.add_zero] at hu0
  obtain ⟨u1, cu1, hu1, hr1⟩ := hx' 1 (by omega)
  clear hr1
  have Hhl : Hid (n ≤ 70368744177664) := hl
  clear h hx' hWl hCW hln hfl hN hr0 hl
  go_enter Try.func4, Try.ntmps4
  go_wp2_with (first
    | (go_at_call 7; refine hal.mono ?_; clear hal; rintro e w1 ⟨rfl, bel1⟩; have HR1 : Hid (Poly.Rows _ _ _ _ _ _) := HR.out.below bel1 (Nat.le_refl _); have HB1 : Hid (Below _ _ _) := bel1; clear bel1)
    | (go_at_call 15; refine (hW _ HR1.out HB1.out.size).mono ?_; clear hW; rintro e w2 ⟨v2, rfl, r2, bel2⟩; obtain ⟨a2, c2, rfl⟩ := r2.form; rw [HWl.out] at r2 ⊢; have HR2 : Hid (Reads _ _ _ _ _ _) := r2; have HB2 : Hid (Below w1.heap.size w1 w2) := bel2; clear r2 bel2))
  have b2 := HB1.out.trans (Bits.Below.less HB2.out HB1.out.size)
  have y0 : w2.cell? ⟨b, off, none⟩ = some (.slice u0 n cu0) := (b2.cell k1).trans hu0
  have y1 : w2.cell? ⟨b, off + 1, none⟩ = some (.slice u1 n cu1) := (b2.cell k1).trans hu1
  have HB : Hid (Below _ _ _) := b2
  clear b2
  go_quiet (fail)
  obtain ⟨W, hWq⟩ : ∃ W, W = w2.drewN nq := ⟨_, rfl⟩
  rw [← hWq]
  have HB3 : Hid (Below w.heap.size w W) := by rw [hWq]; exact below_drewN HB.out nq
  have HR3 : Hid (Reads .i16 w1.heap.size W.heap.size W (.slice a2 N c2) Z) := by rw [hWq]; exact HR2.out
  have z0 : W.cell? ⟨b, off, none⟩ = some (.slice u0 n cu0) := (HB3.out.cell k1).trans hu0
  clear hWq HR2 HB y0 HB2 HB1 HR1 y1
  by_cases h3 : 3000 < n
  · have h3' : (3000 : Int) < n := by omega
    go_wp2
    go_ret
    exact ⟨rfl, HB3.out⟩
  · have h3' : ¬ (3000 : Int) < n := by omega
    have l1' : (n : Int) ≤ 3000 := by omega
    go_wp2
    go_loopw [5] (fun i wr => ∃ k : Nat, k ≤ 2 ∧ i = .int .i64 k ∧ Below W.heap.size W wr) (fun i _ => 2 - (intOf i).toNat)
    case atStart => exact ⟨0, by omega, rfl, Below.refl _ _⟩
    case round =>
      obtain ⟨k, hk, rfl, belr⟩ := hrel
      have sr := belr.size
      have br := HB3.out.trans (Bits.Below.less belr HB3.out.size)
      by_cases hlt : k < 2
      · obtain ⟨u, cu, hu, hru⟩ := HX.out k hlt
        have i1 : (0 : Int) ≤ k := by omega
        have i2 : (k : Int) < 2 := by omega
        have hur : wr.cell? ⟨b, off + k, none⟩ = some (.slice u n cu) := (br.cell k1).trans hu
        have hrr := hru.below br (Nat.le_refl _)
        have hzr := (HR3.out.below belr (Nat.le_refl _)).mono (Nat.le_refl _) sr
        have hC := hCh k _ _ _ wr.drew (by exact hzr) (Nat.le_refl _) (by omega) hlt
        rw [HCW.out k hlt] at hC
        have hbr : b < wr.drew.heap.size := Nat.lt_of_lt_of_le k1 br.size
        have Hrr : Hid (Reads .i16 0 w.heap.size wr.drew (.slice u n cu) _) := hrr
        have Hsr : Hid (w.heap.size ≤ wr.drew.heap.size) := br.size
        have Hsr2 : Hid (W.heap.size ≤ wr.heap.size) := sr
        have Hbl : Hid (Below _ _ _) := belr
        have hcn := Hln.out k hlt
        generalize l.getD k [] = Y at *
        have HY : Hid (Y.length = n) := hcn
        clear hzr hru hu hcn hrr sr belr hCh br HX
        go_wp2
        go_region_held3 (fun wx => wx.cell? ⟨b, off + k, none⟩ = some (.slice u n cu))
          (first | exact hur | exact q4 | exact q5)
          (first
            | (go_at_call 14; refine hC.mono ?_; clear hC; rintro e w4 ⟨v4, rfl, r4, bel4⟩; have q4 : w4.cell? ⟨b, off + k, none⟩ = some (.slice u n cu) := (bel4.cell hbr).trans hur)
            | (go_at_call 13; refine (same16b _ _ _ _ _ _ Y _ r4 (Hrr.out.below bel4 Hsr.out) (by have := HY.out; omega)).mono ?_; rintro e w5 ⟨rfl, bel5, sz5⟩; have q5 : w5.cell? ⟨b, off + k, none⟩ = some (.slice u n cu) := (bel5.cell (Nat.lt_of_lt_of_le hbr bel4.size)).trans q4))
        all_goals (
          go_wp2
          go_roundw
          case rel =>
            have b45 : Below wr.heap.size wr w5 := (show Below wr.heap.size wr w4 from ⟨bel4.os, bel4.tape, bel4.output, bel4.size, bel4.block⟩).trans (Bits.Below.less bel5 bel4.size)
            exact ⟨k + 1, by omega, by go_num, Hbl.out.trans (Bits.Below.less b45 Hsr2.out)⟩
          case measure => simp [intOf]; omega)
      · obtain rfl : 2 = k := by omega
        have HBr : Hid (Below _ _ _) := br
        clear br belr
        go_wp2
        go_ret
        exact ⟨rfl, HBr.out⟩

theorem PcmWeaves_walk (v : Value) (l : List (List Int)) (w : World) (h : Poly.Rows .i16 0 w.heap.size w v l) (hl : ∀ k, k < l.length → (l.getD k []).length ≤ 70368744177664) :
    Calls Try.prog 4 #[v] w fun e w' => e = .returned (.bool true) ∧ Below w.heap.size w w' := by
  rcases Nat.lt_or_ge 10 l.length with h0 | h0
  · exact Weaves_far v l w h h0
  · by_cases h1 : l.length = 1
    · obtain ⟨xs, rfl⟩ : ∃ xs, l = [xs] := List.length_eq_one_iff.1 h1
      exact Weaves_1 _ v xs w h rfl (hl 0 (by simp))
    · by_cases h2 : l.length = 2
      · obtain ⟨xs, ys, rfl⟩ : ∃ xs ys, l = [xs, ys] := by
          match l, h2 with
          | [x, y], _ => exact ⟨x, y, rfl⟩
        by_cases h3 : xs.length = ys.length
        · exact Weaves_2 _ v xs ys w h rfl h3.symm (hl 0 (by simp))
        · exact Weaves_odd v xs ys w h h3
      · exact Weaves_out v l w h h0 h1 h2

end Pcm
end Go.Proofs.Ytnnljamkomlglaa
