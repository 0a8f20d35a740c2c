/-
  The law PcmStores walked. Conditions: none.
-/
import Derived.Test.YtnnljamkomlglaaPcmDuo
import Derived.Test.YtnnljamkomlglaaPcmOpen
import Derived.Deep.RegionHeld3
namespace Go.Proofs.Ytnnljamkomlglaa
set_option linter.unusedVariables false
open Go.RowKit
namespace Pcm
open Bank (Blk But)
open Poly

set_option maxRecDepth 100000 in
theorem Stores_far (most : Int) (v : Value) (zs : List Act) (w : World) (h : Acts w v zs) (hl : 60 < zs.length) :
    Calls Try.prog 5 #[.int .i64 most, v] w fun e w' => e = .returned (.bool true) ∧ Below w.heap.size w w' := by
  obtain ⟨a, cp, rfl⟩ := h.form
  have hal := alive_any w
  have l1 : (60 : Int) < zs.length := by omega
  generalize zs.length = n at *
  clear h hl
  go_enter Try.func5, Try.ntmps5
  go_wp2_with (go_at_call 7; refine hal.mono ?_; clear hal; rintro e w1 ⟨rfl, bel1⟩)
  go_ret
  exact ⟨rfl, bel1⟩

set_option maxRecDepth 100000 in
theorem Stores_err (most : Int) (v : Value) (zs : List Act) (w : World) (h : Acts w v zs) (hl : zs.length ≤ 60) (hm : most < 0 ∨ 4096 < most) :
    Calls Try.prog 5 #[.int .i64 most, v] w fun e w' => e = .returned (.bool true) ∧ Below w.heap.size w w' := by
  obtain ⟨a, cp, rfl⟩ := h.form
  have hal := alive_any w
  have hN := fun wx => NewStore_err most wx hm
  have l1 : ¬ (60 : Int) < zs.length := by omega
  generalize zs.length = n at *
  clear h hl
  rcases (by omega : most < 0 ∨ (¬ most < 0 ∧ 4096 < most)) with h | ⟨h, h'⟩
  all_goals (
    clear hm
    go_enter Try.func5, Try.ntmps5
    go_wp2_with (first
      | (go_at_call 7; refine hal.mono ?_; clear hal; rintro e w1 ⟨rfl, bel1⟩)
      | (go_at_call 16; refine (hN _).mono ?_; clear hN; rintro e w' ⟨rfl, hw⟩; rw [hw]; clear hw w'))
    go_ret
    exact ⟨rfl, bel1⟩)

set_option maxRecDepth 100000 in
set_option maxHeartbeats 4000000 in
theorem Stores_ok (most : Int) (v : Value) (zs : List Act) (w : World) (h : Acts w v zs) (hl : zs.length ≤ 60) (m0 : 0 ≤ most) (m1 : most ≤ 4096) :
    Calls Try.prog 5 #[.int .i64 most, v] w fun e w' => e = .returned (.bool true) ∧ Below w.heap.size w w' := by
  obtain ⟨a, cp, rfl⟩ := h.form
  have hal := alive_any w
  have hN := fun wx => NewStore_ok most wx m0 m1
  have l1 : (zs.length : Int) ≤ 60 := by omega
  have n1 : ¬ most < 0 := by omega
  have n2 : ¬ 4096 < most := by omega
  have HA : Hid (Acts _ _ _) := h
  obtain ⟨L, hL⟩ : ∃ L, zs.length = L := ⟨_, rfl⟩
  rw [hL] at HA hl l1 ⊢
  have HL : Hid _ := hL
  clear h hL
  go_enter Try.func5, Try.ntmps5
  go_wp2_with (first
    | (go_at_call 7; refine hal.mono ?_; clear hal; rintro e w1 ⟨rfl, bel1⟩; have HB1 : Hid (Below _ _ _) := bel1; clear bel1)
    | (go_at_call 16; refine (hN _).mono ?_; clear hN; rintro e w2 ⟨rfl, S2, bel2, sz2⟩; have HD0 : Hid (Duo w1.heap.size w1.heap.size w2.heap.size most [] (w2.alloc (.cells #[.int .i64 most, .slice none 0 0] 43))) := duo_new most w1 w2 m0 m1 S2 bel2 sz2; have HB2 : Hid (Below _ _ _) := bel2; clear S2 bel2 sz2))
  go_loopw [8] (fun i wr => ∃ (k : Nat) (q : List Int), k ≤ L ∧ i = .int .i64 k ∧ Duo w1.heap.size w1.heap.size w2.heap.size most q wr ∧ Below w1.heap.size w1 wr) (fun i _ => L - (intOf i).toNat)
  case atStart => exact ⟨0, [], by omega, rfl, HD0.out, HB2.out.alloc HB2.out.size _⟩
  case round =>
    clear HD0 HB2
    obtain ⟨k, q, hk, rfl, hD, hbr⟩ := hrel
    have hbw : Below w.heap.size w wr := HB1.out.trans (Bits.Below.less hbr HB1.out.size)
    by_cases hlt : k < L
    · obtain ⟨⟨K, n, xs⟩, hz⟩ : ∃ z, zs[k]? = some z := ⟨_, List.getElem?_eq_getElem (by rw [HL.out]; exact hlt)⟩
      obtain ⟨b, off, rfl, hb, a', c', y0, y1, y2, hx⟩ := Acts.cell HA.out hz
      have i1 : (0 : Int) ≤ k := by omega
      have i2 : (k : Int) < L := by omega
      have r0 : wr.cell? ⟨b, off + k * 3, none⟩ = some (.int .i64 K) := (hbw.cell hb).trans y0
      have r1 : wr.cell? ⟨b, off + k * 3 + 1, none⟩ = some (.int .i64 n) := (hbw.cell hb).trans y1
      have r2 : wr.cell? ⟨b, off + k * 3 + 2, none⟩ = some (.slice a' xs.length c') := (hbw.cell hb).trans y2
      have hxr := (hx.below hbw (Nat.le_refl _)).mono (Nat.le_refl _) HB1.out.size
      have hbN : b < w1.heap.size := Nat.lt_of_lt_of_le hb HB1.out.size
      have HBr : Hid (Below w1.heap.size w1 wr) := hbr
      have hf := Acts.fits HA.out _ (List.mem_of_getElem? hz)
      clear y0 y1 y2 hx hz hbr HA
      by_cases hbig : 5000 < xs.length
      · have g0 : (5000 : Int) < xs.length := by omega
        have HBw : Hid (Below _ _ _) := hbw
        clear hbw hD hxr
        go_wp2
        go_ret
        exact ⟨rfl, HBw.out⟩
      · have g0 : ¬ (5000 : Int) < xs.length := by omega
        clear hbw
        rcases (by omega : K = 0 ∨ K = 1 ∨ K = 2 ∨ (¬ K = 0 ∧ ¬ K = 1 ∧ ¬ K = 2)) with rfl | rfl | rfl | ⟨g1, g2, g3⟩
        · obtain ⟨E, Q, hP⟩ := duo_put _ _ _ most q _ xs wr.drew hD.drew (by exact hxr) (by omega)
          clear hD hxr
          go_wp2
          go_region_held3 (fun wx => wx.cell? ⟨b, off + k * 3 + 2, none⟩ = some (.slice a' xs.length c'))
            (first | exact r2 | exact q3 | exact q4)
            (first
              | (go_at_call 17; refine hP.mono ?_; clear hP; rintro e w3 ⟨rfl, bel3, hP3⟩; have q3 : w3.cell? ⟨b, off + k * 3 + 2, none⟩ = some (.slice a' xs.length c') := (bel3.cell hbN).trans r2)
              | (go_at_call 18; refine hP3.mono ?_; clear hP3; rintro e w4 ⟨rfl, bel4, D4⟩; have q4 : w4.cell? ⟨b, off + k * 3 + 2, none⟩ = some (.slice a' xs.length c') := (bel4.cell hbN).trans q3))
          have B4 : Below w1.heap.size w1 w4 := (HBr.out.trans ⟨bel3.os, bel3.tape, bel3.output, bel3.size, bel3.block⟩).trans bel4
          have HB4 : Hid (Below _ _ _) := B4
          clear B4 bel3 bel4 q3 q4
          go_wp2
          obtain ⟨lm, _, ac, cc, z1⟩ := D4.cells
          have hLn := fun wy (h : Duo w1.heap.size w1.heap.size w2.heap.size most Q wy) => duo_len _ _ _ _ _ wy h
          have HD : Hid (Duo _ _ _ _ _ _) := D4
          go_quiet (first | (go_at_call 22; exact Calls.quiet_of_same (hLn _ (by exact HD.out))))
          go_wp2
          go_roundw
          case rel => exact ⟨k + 1, Q, by omega, by go_num, HD.out.drewN _, below_drewN (HB4.out) _⟩
          case measure => simp [intOf]; omega
        · obtain ⟨Q, hP⟩ := duo_take _ _ _ most n q wr.drew hD.drew
          clear hD hxr
          go_wp2
          go_region_held3 (fun wx => wx.cell? ⟨b, off + k * 3 + 1, none⟩ = some (.int .i64 n))
            (first | exact r1 | exact q3 | exact q4 | exact q5)
            (first
              | (go_at_call 19; refine hP.mono ?_; clear hP; rintro e w3 ⟨v3, rfl, bel3, hP3⟩; have q3 : w3.cell? ⟨b, off + k * 3 + 1, none⟩ = some (.int .i64 n) := (bel3.cell hbN).trans r1)
              | (go_at_call 20; refine hP3.mono ?_; clear hP3; rintro e w4 ⟨v4, rfl, bel4, hP4⟩; have q4 : w4.cell? ⟨b, off + k * 3 + 1, none⟩ = some (.int .i64 n) := (bel4.cell hbN).trans q3)
              | (go_at_call 13; refine hP4.mono ?_; clear hP4; rintro e w5 ⟨rfl, bel5, D5⟩; have q5 : w5.cell? ⟨b, off + k * 3 + 1, none⟩ = some (.int .i64 n) := (bel5.cell hbN).trans q4))
          have B5 : Below w1.heap.size w1 w5 := ((HBr.out.trans ⟨bel3.os, bel3.tape, bel3.output, bel3.size, bel3.block⟩).trans bel4).trans bel5
          have HB5 : Hid (Below _ _ _) := B5
          clear B5 bel3 bel4 bel5 q3 q4 q5
          go_wp2
          obtain ⟨lm, _, ac, cc, z1⟩ := D5.cells
          have hLn := fun wy (h : Duo w1.heap.size w1.heap.size w2.heap.size most Q wy) => duo_len _ _ _ _ _ wy h
          have HD : Hid (Duo _ _ _ _ _ _) := D5
          go_quiet (first | (go_at_call 22; exact Calls.quiet_of_same (hLn _ (by exact HD.out))))
          go_wp2
          go_roundw
          case rel => exact ⟨k + 1, Q, by omega, by go_num, HD.out.drewN _, below_drewN (HB5.out) _⟩
          case measure => simp [intOf]; omega
        · have hP := duo_clear _ _ _ most q wr hD
          obtain ⟨Q, hQ⟩ : ∃ Q : List Int, Q = [] := ⟨_, rfl⟩
          rw [← hQ] at hP
          have q0 : (Q.length : Int) = 0 := by rw [hQ]; rfl
          clear hD hxr hQ
          go_wp2_with (go_at_call 21; refine hP.mono ?_; clear hP; rintro e w3 ⟨rfl, ⟨u3, cu3⟩, fr3, bel3, D3⟩; have HB3 : Hid (Below _ _ _) := HBr.out.trans bel3; have HD3 : Hid (Duo _ _ _ _ _ _) := D3; clear bel3 D3)
          have D3 := HD3.out
          have z1 : (w3.setCell ⟨w2.heap.size, 1, none⟩ (.slice none 0 0)).cell? ⟨w2.heap.size, 1, none⟩ = some (.slice none 0 0) := by simp [World.cell?_setCell_same, cu3]
          have hLn := fun wy (h : Duo w1.heap.size w1.heap.size w2.heap.size most Q wy) => duo_len _ _ _ _ _ wy h
          have HD : Hid (Duo _ _ _ _ _ _) := D3
          go_quiet (first | (go_at_call 22; exact Calls.quiet_of_same (hLn _ (by exact HD.out))))
          go_wp2
          go_roundw
          case rel => exact ⟨k + 1, Q, by omega, by go_num, HD.out.drewN _, below_drewN (HB3.out) _⟩
          case measure => simp [intOf]; omega
        · clear hxr
          obtain ⟨Q, hQ⟩ : ∃ Q, Q = q := ⟨_, rfl⟩
          rw [← hQ] at hD
          clear hQ
          go_wp2
          obtain ⟨lm, _, ac, cc, z1⟩ := hD.cells
          have hLn := fun wy (h : Duo w1.heap.size w1.heap.size w2.heap.size most Q wy) => duo_len _ _ _ _ _ wy h
          have HD : Hid (Duo _ _ _ _ _ _) := hD
          go_quiet (first | (go_at_call 22; exact Calls.quiet_of_same (hLn _ (by exact HD.out))))
          go_wp2
          go_roundw
          case rel => exact ⟨k + 1, Q, by omega, by go_num, HD.out.drewN _, below_drewN (HBr.out) _⟩
          case measure => simp [intOf]; omega
    · obtain rfl : L = k := by omega
      have hPn := fun vx wx => Put_nil vx wx
      have hTn := fun wx => Take_nil 3 wx
      have hLn := fun wx => Len_nil wx
      have hCn := fun wx => Clear_nil wx
      have HBw : Hid (Below _ _ _) := hbw
      clear hbw hbr hD
      go_wp2_with (first
        | (go_at_call 21; refine (hCn _).mono ?_; rintro e w' ⟨rfl, hw⟩; rw [hw]; clear hw w')
        | (go_at_call 17; refine (hPn _ _).mono ?_; rintro e w' ⟨rfl, hw⟩; rw [hw]; clear hw w')
        | (go_at_call 19; refine (hTn _).mono ?_; rintro e w' ⟨rfl, hw⟩; rw [hw]; clear hw w')
        | (go_at_call 22; refine (hLn _).mono ?_; rintro e w' ⟨rfl, hw⟩; rw [hw]; clear hw w'))
      go_ret
      exact ⟨rfl, HBw.out⟩

theorem PcmStores_walk (most : Int) (v : Value) (zs : List Act) (w : World) (h : Acts w v zs) :
    Calls Try.prog 5 #[.int .i64 most, v] w fun e w' => e = .returned (.bool true) ∧ Below w.heap.size w w' := by
  rcases Nat.lt_or_ge 60 zs.length with hl | hl
  · exact Stores_far most v zs w h hl
  · rcases (by omega : (most < 0 ∨ 4096 < most) ∨ (0 ≤ most ∧ most ≤ 4096)) with hm | hm
    · exact Stores_err most v zs w h hl hm
    · exact Stores_ok most v zs w h hl hm.1 hm.2

end Pcm
end Go.Proofs.Ytnnljamkomlglaa
