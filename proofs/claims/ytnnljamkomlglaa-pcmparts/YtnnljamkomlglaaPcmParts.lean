/-
  The law PcmParts walked. Conditions: none.
-/
import Derived.Test.YtnnljamkomlglaaPcmAlive
import Derived.Deep.RegionHeld3
namespace Go.Proofs.Ytnnljamkomlglaa
set_option linter.unusedVariables false
open Go.RowKit
namespace Pcm
open Bank (Blk But)
open Poly

theorem rEnergy_b (lo hi : Nat) (v : Value) (xs : List Int) (w : World) (h : Reads .i16 lo hi w v xs) (hl : xs.length ≤ 1000000) :
    Calls Try.prog 12 #[v] w fun e w' => e = .returned (.int .u64 (M.en xs xs.length)) ∧ Below w.heap.size w w' ∧ w'.heap.size = w.heap.size := by
  refine (rEnergy_any lo hi v xs w h hl).mono ?_
  rintro e w' ⟨rfl, m, rfl⟩
  exact ⟨rfl, below_drewN (Below.refl _ _) m, rfl⟩

set_option maxRecDepth 100000 in
theorem Parts_far (c : Int) (v : Value) (xs : List Int) (w : World) (h : Reads .i16 0 w.heap.size w v xs) (hl : 5000 < xs.length) :
    Calls Try.prog 3 #[v, .int .i64 c] w fun e w' => e = .returned (.bool true) ∧ Below w.heap.size w w' := by
  obtain ⟨a, cp, rfl⟩ := h.form
  have hal := alive_any w
  have l1 : (5000 : Int) < xs.length := by omega
  generalize xs.length = n at *
  clear h hl
  go_enter Try.func3, Try.ntmps3
  go_wp2_with (go_at_call 7; refine hal.mono ?_; clear hal; rintro e w1 ⟨rfl, bel1⟩)
  go_ret
  exact ⟨rfl, bel1⟩

set_option maxRecDepth 100000 in
set_option maxHeartbeats 1000000 in
theorem Parts_out (c : Int) (v : Value) (xs : List Int) (w : World) (h : Reads .i16 0 w.heap.size w v xs) (hl : xs.length ≤ 5000) (c1 : c ≠ 1) (c2 : c ≠ 2) :
    Calls Try.prog 3 #[v, .int .i64 c] w fun e w' => e = .returned (.bool true) ∧ Below w.heap.size w w' := by
  obtain ⟨a, cp, rfl⟩ := h.form
  have hal := alive_any w
  have l1 : (xs.length : Int) ≤ 5000 := by omega
  have n1 : ¬ c = 1 := c1
  have n2 : ¬ c = 2 := c2
  have HR : Hid (Reads _ _ _ _ _ _) := h
  clear h
  go_enter Try.func3, Try.ntmps3
  go_wp2_with (first
    | (go_at_call 7; refine hal.mono ?_; clear hal; rintro e w1 ⟨rfl, bel1⟩; have HR1 : Hid (Reads _ _ _ _ _ _) := HR.out.below bel1 (Nat.le_refl _); have HB1 : Hid (Below _ _ _) := bel1; clear bel1)
    | (go_at_call 8; refine (Part_out _ _ c _ xs _ HR1.out c1 c2).mono ?_; rintro e w' ⟨rfl, hw⟩; rw [hw]; clear hw w'; have HR2 : Hid (Reads .i16 0 w.heap.size w1 (.slice a xs.length cp) xs) := HR1.out; clear HR1)
    | (go_at_call 9; refine (Peak_any _ _ _ xs _ HR2.out (by omega)).mono ?_; rintro e w' ⟨rfl, hw⟩; rw [hw]; clear hw w')
    | (go_at_call 10; refine (rPeak_any _ _ _ xs _ HR2.out (by omega)).mono ?_; rintro e w' ⟨rfl, hw⟩; rw [hw]; clear hw w')
    | (go_at_call 11; refine (Energy_any _ _ _ xs _ HR2.out (by omega)).mono ?_; rintro e w' ⟨rfl, hw⟩; rw [hw]; clear hw w')
    | (go_at_call 12; refine (rEnergy_b _ _ _ xs _ HR2.out (by omega)).mono ?_; rintro e w3 ⟨rfl, bel3, sz3⟩; have HB3 : Hid (Below _ _ _) := bel3; have Hs3 : Hid (_ = _) := sz3; clear bel3 sz3))
  go_ret
  exact ⟨rfl, HB1.out.trans (Bits.Below.less HB3.out HB1.out.size)⟩

set_option maxRecDepth 100000 in
set_option maxHeartbeats 1000000 in
theorem Parts_odd (v : Value) (xs : List Int) (w : World) (h : Reads .i16 0 w.heap.size w v xs) (hl : xs.length ≤ 5000) (ho : xs.length % 2 = 1) :
    Calls Try.prog 3 #[v, .int .i64 2] w fun e w' => e = .returned (.bool true) ∧ Below w.heap.size w w' := by
  obtain ⟨a, cp, rfl⟩ := h.form
  have hal := alive_any w
  have l1 : (xs.length : Int) ≤ 5000 := by omega
  have o1 : (xs.length : Int).tmod 2 = 1 := by rw [Int.tmod_eq_emod_of_nonneg (by omega)]; omega
  have o2 : (xs.length : Int) % 2 = 1 := by omega
  have Ho : Hid (xs.length % 2 = 1) := ho
  clear ho
  have HR : Hid (Reads _ _ _ _ _ _) := h
  clear h
  go_enter Try.func3, Try.ntmps3
  go_wp2_with (first
    | (go_at_call 7; refine hal.mono ?_; clear hal; rintro e w1 ⟨rfl, bel1⟩; have HR1 : Hid (Reads _ _ _ _ _ _) := HR.out.below bel1 (Nat.le_refl _); have HB1 : Hid (Below _ _ _) := bel1; clear bel1)
    | (go_at_call 8; refine (Part_odd _ _ _ xs _ HR1.out Ho.out).mono ?_; rintro e w' ⟨rfl, hw⟩; rw [hw]; clear hw w'; have HR2 : Hid (Reads .i16 0 w.heap.size w1 (.slice a xs.length cp) xs) := HR1.out; clear HR1)
    | (go_at_call 9; refine (Peak_any _ _ _ xs _ HR2.out (by omega)).mono ?_; rintro e w' ⟨rfl, hw⟩; rw [hw]; clear hw w')
    | (go_at_call 10; refine (rPeak_any _ _ _ xs _ HR2.out (by omega)).mono ?_; rintro e w' ⟨rfl, hw⟩; rw [hw]; clear hw w')
    | (go_at_call 11; refine (Energy_any _ _ _ xs _ HR2.out (by omega)).mono ?_; rintro e w' ⟨rfl, hw⟩; rw [hw]; clear hw w')
    | (go_at_call 12; refine (rEnergy_b _ _ _ xs _ HR2.out (by omega)).mono ?_; rintro e w3 ⟨rfl, bel3, sz3⟩; have HB3 : Hid (Below _ _ _) := bel3; have Hs3 : Hid (_ = _) := sz3; clear bel3 sz3))
  go_ret
  exact ⟨rfl, HB1.out.trans (Bits.Below.less HB3.out HB1.out.size)⟩

set_option maxRecDepth 100000 in
set_option maxHeartbeats 2000000 in
theorem Parts_ok_1 (n : Nat) (v : Value) (xs : List Int) (w : World) (h : Reads .i16 0 w.heap.size w v xs) (hl : xs.length ≤ 5000) (hn : xs.length = 1 * n) :
    Calls Try.prog 3 #[v, .int .i64 1] w fun e w' => e = .returned (.bool true) ∧ Below w.heap.size w w' := by
  obtain ⟨a, cp, rfl⟩ := h.form
  have hal := alive_any w
  have l1 : (xs.length : Int) ≤ 5000 := by omega
  have o1 : (xs.length : Int).tmod 1 = 0 := by first | simp | (rw [Int.tmod_eq_emod_of_nonneg (by omega)]; omega)
  have o2 : (xs.length : Int) % 1 = 0 := by omega
  have hfx : M.fits16 xs := fit16.1 (by obtain ⟨_, _, _, _, hw, _⟩ := h; exact hw)
  have hPart := fun wx hi (hr : Reads .i16 0 hi wx (.slice a xs.length cp) xs) (hh : hi ≤ wx.heap.size) => Part_ok 0 hi 1 n _ xs wx hr hh (by omega) (by omega) hn
  have hChan := fun k lo hi wx (hr : Reads .i16 lo hi wx (.slice a xs.length cp) xs) (hh : hi ≤ wx.heap.size) (hk : k < 1) => rChannel_any lo hi _ xs k 1 n wx hr hh (by omega) hn hk (by omega)
  have hWeave := fun lo hi v wx (hr : Poly.Rows .i16 lo hi wx v (M.chs n xs 1)) (hh : hi ≤ wx.heap.size) => Weave_ok lo hi 1 n v (M.chs n xs 1) wx hr hh (by omega) (M.chs_length _ _ _) (fun k hk => by rw [M.chs_get hk]; exact M.chn_length _ _ _ _) (fun k => by
    rcases Nat.lt_or_ge k 1 with h | h
    · rw [M.chs_get h]; exact M.chn_fits hfx
    · rw [List.getD_eq_getElem?_getD, List.getElem?_eq_none (by rw [M.chs_length]; exact h)]; intro z hz; exact absurd hz (by simp)) (by omega)
  rw [M.wov_chs (by omega) hn] at hWeave
  simp only [show ((1 : Nat) : Int) = 1 from rfl] at hPart hChan
  have hcl := fun k => M.chn_length n xs k 1
  have hcg := fun k (hk : k < 1) => M.chs_get (n := n) (xs := xs) hk
  have hcL := M.chs_length n xs 1
  have HR : Hid (Reads _ _ _ _ _ _) := h
  have Hn : Hid (n ≤ 5000) := by show _ ≤ _; omega
  have Hhl : Hid (xs.length ≤ 5000) := hl
  have Hcl : Hid _ := hcl
  have Hcg : Hid _ := hcg
  have HcL : Hid _ := hcL
  clear h hn hcl hcg hcL
  go_enter Try.func3, Try.ntmps3
  go_wp2_with (first
    | (go_at_call 7; refine hal.mono ?_; clear hal; rintro e w1 ⟨rfl, bel1⟩; have HR1 : Hid (Reads _ _ _ _ _ _) := HR.out.below bel1 (Nat.le_refl _); have HB1 : Hid (Below _ _ _) := bel1; clear bel1)
    | (go_at_call 8; refine (hPart _ _ HR1.out HB1.out.size).mono ?_; clear hPart; rintro e w2 ⟨v2, rfl, rw2, bel2⟩
       obtain ⟨a2, c2, rfl, hac2⟩ := rw2.form
       rw [HcL.out] at rw2 hac2 ⊢
       have HR2 : Hid (Reads .i16 0 w.heap.size w2 (.slice a xs.length cp) xs) := HR1.out.below bel2 HB1.out.size
       have HRw : Hid (Poly.Rows _ _ _ _ _ _) := rw2
       have HB2 : Hid (Below _ _ _) := bel2
       clear rw2 bel2 HR1)
    | (go_at_call 9; refine (Peak_any _ _ _ xs _ HR2.out (by omega)).mono ?_; rintro e w' ⟨rfl, hw⟩; rw [hw]; clear hw w')
    | (go_at_call 10; refine (rPeak_any _ _ _ xs _ HR2.out (by omega)).mono ?_; rintro e w' ⟨rfl, hw⟩; rw [hw]; clear hw w')
    | (go_at_call 11; refine (Energy_any _ _ _ xs _ HR2.out (by omega)).mono ?_; rintro e w' ⟨rfl, hw⟩; rw [hw]; clear hw w')
    | (go_at_call 12; refine (rEnergy_b _ _ _ xs _ HR2.out (by omega)).mono ?_; rintro e w3 ⟨rfl, bel3, sz3⟩; have HB3 : Hid (Below _ _ _) := bel3; have Hs3 : Hid (_ = _) := sz3; clear bel3 sz3))
  have b3 : Below w1.heap.size w1 w3 := HB2.out.trans (Bits.Below.less HB3.out HB2.out.size)
  have R3 : Poly.Rows .i16 w1.heap.size w3.heap.size w3 _ _ := (HRw.out.below HB3.out (Nat.le_refl _)).mono (Nat.le_refl _) HB3.out.size
  have X3 : Reads .i16 0 w.heap.size w3 _ _ := HR2.out.below HB3.out (Nat.le_trans HB1.out.size HB2.out.size)
  obtain ⟨b, off, rfl, k0, k1, hx⟩ := R3.cell (by rw [HcL.out]; decide)
  have hx' : ∀ k, k < 1 → ∃ u cu, w3.cell? ⟨b, off + k, none⟩ = some (.slice u n cu) ∧ Reads .i16 w1.heap.size w3.heap.size w3 (.slice u n cu) (M.chn n xs k 1) := fun k hk => by
    obtain ⟨u, hu, hr⟩ := hx k (by rw [HcL.out]; exact hk)
    rw [Hcg.out k hk] at hr
    obtain ⟨au, cu, rfl⟩ := hr.form
    rw [Hcl.out k] at hu hr
    exact ⟨au, cu, hu, hr⟩
  have HR3 : Hid (Poly.Rows _ _ _ _ _ _) := R3
  have HX3 : Hid (Reads _ _ _ _ _ _) := X3
  have Hb3 : Hid (Below _ _ _) := b3
  have HX : Hid _ := hx'
  have Hk1 : Hid (b < w3.heap.size) := k1
  clear R3 X3 b3 hx hx' k0 k1 HRw HR2
  go_loopw [7] (fun i wr => ∃ k : Nat, k ≤ 1 ∧ i = .int .i64 k ∧ Below w3.heap.size w3 wr) (fun i _ => 1 - (intOf i).toNat)
  case atStart => exact ⟨0, by omega, rfl, Below.refl _ _⟩
  case round =>
    obtain ⟨k, hk, rfl, belr⟩ := hrel
    have sr := belr.size
    by_cases hlt : k < 1
    · obtain ⟨u, cu, hu, hru⟩ := HX.out k hlt
      have i1 : (0 : Int) ≤ k := by omega
      have i2 : (k : Int) < 1 := by omega
      have hur : wr.cell? ⟨b, off + k, none⟩ = some (.slice u n cu) := (belr.cell Hk1.out).trans hu
      have hrr := hru.below belr (Nat.le_refl _)
      have hxr := HX3.out.below belr (Nat.le_trans HB1.out.size Hb3.out.size)
      have hsz : w.heap.size ≤ wr.drew.heap.size := Nat.le_trans (Nat.le_trans HB1.out.size Hb3.out.size) sr
      have hC := hChan k 0 w.heap.size wr.drew (by exact hxr) hsz hlt
      have hbr : b < wr.drew.heap.size := Nat.lt_of_lt_of_le Hk1.out sr
      have Hrr : Hid (Reads _ _ _ wr.drew _ _) := hrr
      have Hsr : Hid (w3.heap.size ≤ wr.drew.heap.size) := sr
      have Hbl : Hid (Below _ _ _) := belr
      have hcn := Hcl.out k
      generalize M.chn n xs k 1 = Y at *
      have HY : Hid (Y.length = n) := hcn
      clear hxr hru hu hcn hrr sr belr hChan hWeave HX
      go_wp2
      go_region_held3 (fun wx => wx.cell? ⟨b, off + k, none⟩ = some (.slice u n cu))
        (first | exact hur | exact q4 | exact q5)
        (first
          | (go_at_call 14; refine hC.mono ?_; clear hC; rintro e w4 ⟨v4, rfl, r4, bel4⟩; have q4 : w4.cell? ⟨b, off + k, none⟩ = some (.slice u n cu) := (bel4.cell hbr).trans hur)
          | (go_at_call 13; refine (same16b _ _ _ _ _ _ Y _ (Hrr.out.below bel4 Hsr.out) r4 (by have := HY.out; have := Hn.out; omega)).mono ?_; rintro e w5 ⟨rfl, bel5, sz5⟩; have q5 : w5.cell? ⟨b, off + k, none⟩ = some (.slice u n cu) := (bel5.cell (Nat.lt_of_lt_of_le hbr bel4.size)).trans q4))
      all_goals (
        go_wp2
        go_roundw
        case rel =>
          have b45 : Below wr.heap.size wr w5 := (show Below wr.heap.size wr w4 from ⟨bel4.os, bel4.tape, bel4.output, bel4.size, bel4.block⟩).trans (Bits.Below.less bel5 bel4.size)
          exact ⟨k + 1, by omega, by go_num, Hbl.out.trans (Bits.Below.less b45 Hsr.out)⟩
        case measure => simp [intOf]; omega)
    · obtain rfl : 1 = k := by omega
      have hrr := (HR3.out.below belr (Nat.le_refl _)).mono (Nat.le_refl _) sr
      have hxr := HX3.out.below belr (Nat.le_trans HB1.out.size Hb3.out.size)
      have hW := hWeave _ _ _ wr hrr (Nat.le_refl _)
      have HX4 : Hid (Reads _ _ _ _ _ _) := hxr
      have Hbl : Hid (Below _ _ _) := belr
      have Hsr : Hid (w3.heap.size ≤ wr.heap.size) := sr
      clear hrr hxr hWeave hChan belr sr
      go_wp2_with (first
        | (go_at_call 15; refine hW.mono ?_; clear hW; rintro e w4 ⟨v4, rfl, r4, bel4⟩; have HR4 : Hid (Reads _ _ _ _ _ _) := r4; have HB4 : Hid (Below _ _ _) := bel4; clear r4 bel4)
        | (go_at_call 13; refine (same16b _ _ _ _ _ _ xs _ HR4.out (HX4.out.below HB4.out (Nat.le_trans (Nat.le_trans HB1.out.size Hb3.out.size) Hsr.out)) (by have := Hhl.out; omega)).mono ?_; rintro e w5 ⟨rfl, bel5, sz5⟩; have HB5 : Hid (Below _ _ _) := bel5; clear bel5 sz5))
      go_ret
      have t1 := HB1.out
      have t2 := t1.trans (Bits.Below.less Hb3.out t1.size)
      have t3 := t2.trans (Bits.Below.less Hbl.out t2.size)
      have t4 := t3.trans (Bits.Below.less HB4.out t3.size)
      exact ⟨rfl, t4.trans (Bits.Below.less HB5.out t4.size)⟩

set_option maxRecDepth 100000 in
set_option maxHeartbeats 2000000 in
theorem Parts_ok_2 (n : Nat) (v : Value) (xs : List Int) (w : World) (h : Reads .i16 0 w.heap.size w v xs) (hl : xs.length ≤ 5000) (hn : xs.length = 2 * n) :
    Calls Try.prog 3 #[v, .int .i64 2] w fun e w' => e = .returned (.bool true) ∧ Below w.heap.size w w' := by
  obtain ⟨a, cp, rfl⟩ := h.form
  have hal := alive_any w
  have l1 : (xs.length : Int) ≤ 5000 := by omega
  have o1 : (xs.length : Int).tmod 2 = 0 := by first | simp | (rw [Int.tmod_eq_emod_of_nonneg (by omega)]; omega)
  have o2 : (xs.length : Int) % 2 = 0 := by omega
  have hfx : M.fits16 xs := fit16.1 (by obtain ⟨_, _, _, _, hw, _⟩ := h; exact hw)
  have hPart := fun wx hi (hr : Reads .i16 0 hi wx (.slice a xs.length cp) xs) (hh : hi ≤ wx.heap.size) => Part_ok 0 hi 2 n _ xs wx hr hh (by omega) (by omega) hn
  have hChan := fun k lo hi wx (hr : Reads .i16 lo hi wx (.slice a xs.length cp) xs) (hh : hi ≤ wx.heap.size) (hk : k < 2) => rChannel_any lo hi _ xs k 2 n wx hr hh (by omega) hn hk (by omega)
  have hWeave := fun lo hi v wx (hr : Poly.Rows .i16 lo hi wx v (M.chs n xs 2)) (hh : hi ≤ wx.heap.size) => Weave_ok lo hi 2 n v (M.chs n xs 2) wx hr hh (by omega) (M.chs_length _ _ _) (fun k hk => by rw [M.chs_get hk]; exact M.chn_length _ _ _ _) (fun k => by
    rcases Nat.lt_or_ge k 2 with h | h
    · rw [M.chs_get h]; exact M.chn_fits hfx
    · rw [List.getD_eq_getElem?_getD, List.getElem?_eq_none (by rw [M.chs_length]; exact h)]; intro z hz; exact absurd hz (by simp)) (by omega)
  rw [M.wov_chs (by omega) hn] at hWeave
  simp only [show ((2 : Nat) : Int) = 2 from rfl] at hPart hChan
  have hcl := fun k => M.chn_length n xs k 2
  have hcg := fun k (hk : k < 2) => M.chs_get (n := n) (xs := xs) hk
  have hcL := M.chs_length n xs 2
  have HR : Hid (Reads _ _ _ _ _ _) := h
  have Hn : Hid (n ≤ 5000) := by show _ ≤ _; omega
  have Hhl : Hid (xs.length ≤ 5000) := hl
  have Hcl : Hid _ := hcl
  have Hcg : Hid _ := hcg
  have HcL : Hid _ := hcL
  clear h hn hcl hcg hcL
  go_enter Try.func3, Try.ntmps3
  go_wp2_with (first
    | (go_at_call 7; refine hal.mono ?_; clear hal; rintro e w1 ⟨rfl, bel1⟩; have HR1 : Hid (Reads _ _ _ _ _ _) := HR.out.below bel1 (Nat.le_refl _); have HB1 : Hid (Below _ _ _) := bel1; clear bel1)
    | (go_at_call 8; refine (hPart _ _ HR1.out HB1.out.size).mono ?_; clear hPart; rintro e w2 ⟨v2, rfl, rw2, bel2⟩
       obtain ⟨a2, c2, rfl, hac2⟩ := rw2.form
       rw [HcL.out] at rw2 hac2 ⊢
       have HR2 : Hid (Reads .i16 0 w.heap.size w2 (.slice a xs.length cp) xs) := HR1.out.below bel2 HB1.out.size
       have HRw : Hid (Poly.Rows _ _ _ _ _ _) := rw2
       have HB2 : Hid (Below _ _ _) := bel2
       clear rw2 bel2 HR1)
    | (go_at_call 9; refine (Peak_any _ _ _ xs _ HR2.out (by omega)).mono ?_; rintro e w' ⟨rfl, hw⟩; rw [hw]; clear hw w')
    | (go_at_call 10; refine (rPeak_any _ _ _ xs _ HR2.out (by omega)).mono ?_; rintro e w' ⟨rfl, hw⟩; rw [hw]; clear hw w')
    | (go_at_call 11; refine (Energy_any _ _ _ xs _ HR2.out (by omega)).mono ?_; rintro e w' ⟨rfl, hw⟩; rw [hw]; clear hw w')
    | (go_at_call 12; refine (rEnergy_b _ _ _ xs _ HR2.out (by omega)).mono ?_; rintro e w3 ⟨rfl, bel3, sz3⟩; have HB3 : Hid (Below _ _ _) := bel3; have Hs3 : Hid (_ = _) := sz3; clear bel3 sz3))
  have b3 : Below w1.heap.size w1 w3 := HB2.out.trans (Bits.Below.less HB3.out HB2.out.size)
  have R3 : Poly.Rows .i16 w1.heap.size w3.heap.size w3 _ _ := (HRw.out.below HB3.out (Nat.le_refl _)).mono (Nat.le_refl _) HB3.out.size
  have X3 : Reads .i16 0 w.heap.size w3 _ _ := HR2.out.below HB3.out (Nat.le_trans HB1.out.size HB2.out.size)
  obtain ⟨b, off, rfl, k0, k1, hx⟩ := R3.cell (by rw [HcL.out]; decide)
  have hx' : ∀ k, k < 2 → ∃ u cu, w3.cell? ⟨b, off + k, none⟩ = some (.slice u n cu) ∧ Reads .i16 w1.heap.size w3.heap.size w3 (.slice u n cu) (M.chn n xs k 2) := fun k hk => by
    obtain ⟨u, hu, hr⟩ := hx k (by rw [HcL.out]; exact hk)
    rw [Hcg.out k hk] at hr
    obtain ⟨au, cu, rfl⟩ := hr.form
    rw [Hcl.out k] at hu hr
    exact ⟨au, cu, hu, hr⟩
  have HR3 : Hid (Poly.Rows _ _ _ _ _ _) := R3
  have HX3 : Hid (Reads _ _ _ _ _ _) := X3
  have Hb3 : Hid (Below _ _ _) := b3
  have HX : Hid _ := hx'
  have Hk1 : Hid (b < w3.heap.size) := k1
  clear R3 X3 b3 hx hx' k0 k1 HRw HR2
  go_loopw [7] (fun i wr => ∃ k : Nat, k ≤ 2 ∧ i = .int .i64 k ∧ Below w3.heap.size w3 wr) (fun i _ => 2 - (intOf i).toNat)
  case atStart => exact ⟨0, by omega, rfl, Below.refl _ _⟩
  case round =>
    obtain ⟨k, hk, rfl, belr⟩ := hrel
    have sr := belr.size
    by_cases hlt : k < 2
    · obtain ⟨u, cu, hu, hru⟩ := HX.out k hlt
      have i1 : (0 : Int) ≤ k := by omega
      have i2 : (k : Int) < 2 := by omega
      have hur : wr.cell? ⟨b, off + k, none⟩ = some (.slice u n cu) := (belr.cell Hk1.out).trans hu
      have hrr := hru.below belr (Nat.le_refl _)
      have hxr := HX3.out.below belr (Nat.le_trans HB1.out.size Hb3.out.size)
      have hsz : w.heap.size ≤ wr.drew.heap.size := Nat.le_trans (Nat.le_trans HB1.out.size Hb3.out.size) sr
      have hC := hChan k 0 w.heap.size wr.drew (by exact hxr) hsz hlt
      have hbr : b < wr.drew.heap.size := Nat.lt_of_lt_of_le Hk1.out sr
      have Hrr : Hid (Reads _ _ _ wr.drew _ _) := hrr
      have Hsr : Hid (w3.heap.size ≤ wr.drew.heap.size) := sr
      have Hbl : Hid (Below _ _ _) := belr
      have hcn := Hcl.out k
      generalize M.chn n xs k 2 = Y at *
      have HY : Hid (Y.length = n) := hcn
      clear hxr hru hu hcn hrr sr belr hChan hWeave HX
      go_wp2
      go_region_held3 (fun wx => wx.cell? ⟨b, off + k, none⟩ = some (.slice u n cu))
        (first | exact hur | exact q4 | exact q5)
        (first
          | (go_at_call 14; refine hC.mono ?_; clear hC; rintro e w4 ⟨v4, rfl, r4, bel4⟩; have q4 : w4.cell? ⟨b, off + k, none⟩ = some (.slice u n cu) := (bel4.cell hbr).trans hur)
          | (go_at_call 13; refine (same16b _ _ _ _ _ _ Y _ (Hrr.out.below bel4 Hsr.out) r4 (by have := HY.out; have := Hn.out; omega)).mono ?_; rintro e w5 ⟨rfl, bel5, sz5⟩; have q5 : w5.cell? ⟨b, off + k, none⟩ = some (.slice u n cu) := (bel5.cell (Nat.lt_of_lt_of_le hbr bel4.size)).trans q4))
      all_goals (
        go_wp2
        go_roundw
        case rel =>
          have b45 : Below wr.heap.size wr w5 := (show Below wr.heap.size wr w4 from ⟨bel4.os, bel4.tape, bel4.output, bel4.size, bel4.block⟩).trans (Bits.Below.less bel5 bel4.size)
          exact ⟨k + 1, by omega, by go_num, Hbl.out.trans (Bits.Below.less b45 Hsr.out)⟩
        case measure => simp [intOf]; omega)
    · obtain rfl : 2 = k := by omega
      have hrr := (HR3.out.below belr (Nat.le_refl _)).mono (Nat.le_refl _) sr
      have hxr := HX3.out.below belr (Nat.le_trans HB1.out.size Hb3.out.size)
      have hW := hWeave _ _ _ wr hrr (Nat.le_refl _)
      have HX4 : Hid (Reads _ _ _ _ _ _) := hxr
      have Hbl : Hid (Below _ _ _) := belr
      have Hsr : Hid (w3.heap.size ≤ wr.heap.size) := sr
      clear hrr hxr hWeave hChan belr sr
      go_wp2_with (first
        | (go_at_call 15; refine hW.mono ?_; clear hW; rintro e w4 ⟨v4, rfl, r4, bel4⟩; have HR4 : Hid (Reads _ _ _ _ _ _) := r4; have HB4 : Hid (Below _ _ _) := bel4; clear r4 bel4)
        | (go_at_call 13; refine (same16b _ _ _ _ _ _ xs _ HR4.out (HX4.out.below HB4.out (Nat.le_trans (Nat.le_trans HB1.out.size Hb3.out.size) Hsr.out)) (by have := Hhl.out; omega)).mono ?_; rintro e w5 ⟨rfl, bel5, sz5⟩; have HB5 : Hid (Below _ _ _) := bel5; clear bel5 sz5))
      go_ret
      have t1 := HB1.out
      have t2 := t1.trans (Bits.Below.less Hb3.out t1.size)
      have t3 := t2.trans (Bits.Below.less Hbl.out t2.size)
      have t4 := t3.trans (Bits.Below.less HB4.out t3.size)
      exact ⟨rfl, t4.trans (Bits.Below.less HB5.out t4.size)⟩

theorem PcmParts_walk (c : Int) (v : Value) (xs : List Int) (w : World) (h : Reads .i16 0 w.heap.size w v xs) :
    Calls Try.prog 3 #[v, .int .i64 c] w fun e w' => e = .returned (.bool true) ∧ Below w.heap.size w w' := by
  rcases Nat.lt_or_ge 5000 xs.length with hl | hl
  · exact Parts_far c v xs w h hl
  · by_cases c1 : c = 1
    · subst c1; exact Parts_ok_1 xs.length v xs w h hl (by omega)
    · by_cases c2 : c = 2
      · subst c2
        rcases Nat.mod_two_eq_zero_or_one xs.length with ho | ho
        · exact Parts_ok_2 (xs.length / 2) v xs w h hl (by omega)
        · exact Parts_odd v xs w h hl ho
      · exact Parts_out c v xs w h hl c1 c2

end Pcm
end Go.Proofs.Ytnnljamkomlglaa
