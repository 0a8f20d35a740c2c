/-
  The law AllocShares: its example, its bound, its comparison, its walk. Conditions: the offsets stand as their initialisers lay them.
-/
import Derived.Test.YthlpbekfjolenaaDoorAllocShare
import Derived.Test.YthlpbekfjolenaaDoorAllocMay
namespace Go.Proofs.YthlpbekfjolenaaDoor
set_option linter.unusedVariables false
open Go.RowKit
namespace Alloc
open Bank (Blk But)
open Poly (alloc_size enc enc_get cell_keep below_drew)
open _root_.Go.Proofs.YthlpbekfjolenaaDoor.Form (fv fc bel1 blk_below box_cells of_drew box_behind)

/-- more than are looked at -/
def FarP (zss : List (List Int)) : Prop := 10 < zss.length ∨ ∃ zs ∈ zss, 100 < zs.length
def Yes (C : Prop) (w : World) (e : Ending) (w' : World) : Prop := w' = w ∧ ((e = .returned (.bool true) ∧ C) ∨ (e = .returned (.bool false) ∧ ¬ C))

theorem Yes.yes {C : Prop} {w w' : World} {e : Ending} (h : Yes C w e w') (c : C) : e = .returned (.bool true) ∧ w' = w := by
  obtain ⟨hw, ⟨h, _⟩ | ⟨_, h⟩⟩ := h
  · exact ⟨h, hw⟩
  · exact absurd c h
theorem Yes.no {C : Prop} {w w' : World} {e : Ending} (h : Yes C w e w') (c : ¬ C) : e = .returned (.bool false) ∧ w' = w := by
  obtain ⟨hw, ⟨_, h⟩ | ⟨h, _⟩⟩ := h
  · exact absurd h c
  · exact ⟨h, hw⟩

set_option maxHeartbeats 1000000 in
theorem Far_any (vs : Value) (zss : List (List Int)) (w : World) (hZ : Poly.Rows .i64 0 w.heap.size w vs zss) :
    Calls Tryd.prog 5 #[vs] w fun e w' => Yes (FarP zss) w e w' := by
  obtain ⟨ax, cx, rfl, lx⟩ := hZ.form
  have HZ : Hid _ := hZ
  clear hZ
  obtain ⟨L, hL⟩ : ∃ L, zss.length = L := ⟨_, rfl⟩
  have HL : Hid (zss.length = L) := hL
  rw [hL]
  clear hL lx
  by_cases h10 : 10 < L
  · have h10' : (10 : Int) < L := by omega
    go_enter Tryd.func5, Tryd.ntmps5
    go_wp2
    go_ret
    exact ⟨rfl, .inl ⟨rfl, .inl (by rw [HL.out]; exact h10)⟩⟩
  · have h10' : ¬ (10 : Int) < L := by omega
    have h11 : (L : Int) ≤ 10 := by omega
    go_enter Tryd.func5, Tryd.ntmps5
    go_wp2
    go_loopw [3] (fun i wr => ∃ q : Nat, q ≤ L ∧ i = .int .i64 q ∧ wr = w ∧ ∀ k, k < q → (zss.getD k []).length ≤ 100) (fun i _ => L - (intOf i).toNat)
    case atStart => exact ⟨0, by omega, rfl, rfl, fun k hk => absurd hk (by omega)⟩
    case round =>
      obtain ⟨q, hq, rfl, hw, hall⟩ := hrel
      subst hw
      have HA : Hid _ := hall
      clear hall
      by_cases hlt : q < L
      · have hlt' : (q : Int) < L := by omega
        obtain ⟨b, off, rfl, _, _, hx⟩ := Poly.Rows.cell HZ.out (by rw [HL.out]; omega)
        obtain ⟨u, hu, hr⟩ := hx q (by rw [HL.out]; exact hlt)
        obtain ⟨a3, c3, rfl⟩ := hr.form
        clear hx hr
        have HM : Hid (zss.getD q [] ∈ zss) := by
          show _ ∈ _
          rw [List.getD_eq_getElem?_getD, List.getElem?_eq_getElem (by rw [HL.out]; exact hlt)]; exact List.getElem_mem _
        obtain ⟨zs, hzs⟩ : ∃ zs, zss.getD q [] = zs := ⟨_, rfl⟩
        rw [hzs] at hu HM
        have HG : Hid (zss.getD q [] = zs) := hzs
        clear hzs
        obtain ⟨l, hl⟩ : ∃ l, zs.length = l := ⟨_, rfl⟩
        have HLz : Hid (zs.length = l) := hl
        rw [hl] at hu
        clear hl
        by_cases hf : 100 < l
        · have hf' : (100 : Int) < l := by omega
          go_wp2
          go_ret
          exact ⟨rfl, .inl ⟨rfl, .inr ⟨zs, HM.out, by rw [HLz.out]; exact hf⟩⟩⟩
        · have hf' : ¬ (100 : Int) < l := by omega
          go_wp2
          go_roundw
          case rel =>
            refine ⟨q + 1, by omega, by go_num, by first | rfl | trivial, fun j hj => ?_⟩
            rcases (by omega : j < q ∨ j = q) with h | rfl
            · exact HA.out j h
            · rw [HG.out, HLz.out]; omega
          case measure => simp [intOf]; omega
      · obtain rfl : q = L := by omega
        go_wp2
        go_ret
        refine ⟨rfl, .inr ⟨rfl, fun h => ?_⟩⟩
        rcases h with h | ⟨zs, hm, hl⟩
        · rw [HL.out] at h; omega
        · obtain ⟨i, hi, rfl⟩ := List.getElem_of_mem hm
          have := HA.out i (by rw [← HL.out]; exact hi)
          rw [List.getD_eq_getElem?_getD, List.getElem?_eq_getElem hi] at this
          simp at this
          omega

set_option maxHeartbeats 4000000 in
theorem same_any (a C B b off c : Nat) (F : Nat → Int) (w : World) (h : Grid a C B F w) (hC : C = 1 ∨ C = 2) (hB : B = 4 ∨ B = 8) (hx : ∀ j, j < B * C → w.cell? ⟨b, off + j, none⟩ = some (.int .i64 (F j))) (hb : b < w.heap.size) :
    Calls Tryd.prog 9 #[.slice (some ⟨a, 0, none⟩) C C, .slice (some ⟨b, off, none⟩) (B * C) c] w fun e w' => e = .returned (.bool true) ∧ Below w.heap.size w w' := by
  have HX : Hid (∀ wr j, Below w.heap.size w wr → j < B * C → wr.cell? ⟨b, off + j, none⟩ = some (.int .i64 (F j))) := fun wr j hw hj => (cell_keep (hw.block b hb)).trans (hx j hj)
  have hl := h.lt
  have HH : Hid (∀ wr q, Below w.heap.size w wr → q < C → wr.cell? ⟨a, q, none⟩ = some (.slice (some ⟨a + 1 + q, 0, none⟩) B B)) := fun wr q hw hq => (cell_keep (hw.block a (by omega))).trans (h.at_head hq)
  have HA : Hid (∀ wr q k, Below w.heap.size w wr → q < C → k < B → wr.cell? ⟨a + 1 + q, k, none⟩ = some (.int .i64 (F (k * C + q)))) := fun wr q k hw hq hk => (cell_keep (hw.block _ (by omega))).trans (h.at hq hk)
  clear h hx hl hb
  rcases hC with rfl | rfl
  · rcases hB with rfl | rfl
    · go_enter Tryd.func9, Tryd.ntmps9
      go_wp2
      go_loopw [5] (fun i wr => ∃ k : Nat, k ≤ 4 ∧ i = .int .i64 k ∧ Below w.heap.size w wr) (fun i _ => 4 - (intOf i).toNat)
      case atStart => exact ⟨0, by omega, rfl, Below.refl _ _⟩
      case round =>
        obtain ⟨k, hk, rfl, hbw⟩ := hrel
        have HB : Hid _ := hbw
        clear hbw
        by_cases hlt : k < 4
        · have hlt' : (k : Int) < 4 := by omega
          go_wp2
          go_loopw [6] (fun i w2 => ∃ q : Nat, q ≤ 1 ∧ i = .int .i64 q ∧ Below w.heap.size w w2) (fun i _ => 1 - (intOf i).toNat)
          case atStart => exact ⟨0, by omega, rfl, HB.out⟩
          case round =>
            clear HB
            obtain ⟨q, hq, rfl, hbw⟩ := hrel
            by_cases hql : q < 1
            · have hql' : (q : Int) < 1 := by omega
              have x1 := HH.out wr q hbw hql
              have hd : decide ((4 : Int) ≤ (k : Int)) = false := by simp; omega
              have x2 := HA.out wr q k hbw hql hlt
              obtain ⟨j, hj⟩ : ∃ j : Nat, k * 1 + q = j := ⟨_, rfl⟩
              have hjI : (k : Int) + q = (j : Int) := by omega
              have hjN : j < 4 := by omega
              have hjI2 : (j : Int) < 4 := by omega
              have x3 := HX.out wr j hbw hjN
              rw [hj] at x2
              have HB : Hid _ := hbw
              clear hbw hj
              generalize F j = y at *
              go_wp2
              go_quiet (fail)
              go_wp2
              go_roundw
              case rel => exact ⟨q + 1, by omega, by go_num, Poly.below_drewN HB.out _⟩
              case measure => simp [intOf]; omega
            · obtain rfl : q = 1 := by omega
              have HB : Hid _ := hbw
              clear hbw
              go_wp2
              go_roundw
              case rel => exact ⟨k + 1, by omega, by go_num, HB.out⟩
              case measure => simp [intOf]; omega
        · obtain rfl : k = 4 := by omega
          have x0 := HH.out wr 0 HB.out (by omega)
          go_wp2
          go_ret
          exact ⟨rfl, HB.out⟩
    · go_enter Tryd.func9, Tryd.ntmps9
      go_wp2
      go_loopw [5] (fun i wr => ∃ k : Nat, k ≤ 8 ∧ i = .int .i64 k ∧ Below w.heap.size w wr) (fun i _ => 8 - (intOf i).toNat)
      case atStart => exact ⟨0, by omega, rfl, Below.refl _ _⟩
      case round =>
        obtain ⟨k, hk, rfl, hbw⟩ := hrel
        have HB : Hid _ := hbw
        clear hbw
        by_cases hlt : k < 8
        · have hlt' : (k : Int) < 8 := by omega
          go_wp2
          go_loopw [6] (fun i w2 => ∃ q : Nat, q ≤ 1 ∧ i = .int .i64 q ∧ Below w.heap.size w w2) (fun i _ => 1 - (intOf i).toNat)
          case atStart => exact ⟨0, by omega, rfl, HB.out⟩
          case round =>
            clear HB
            obtain ⟨q, hq, rfl, hbw⟩ := hrel
            by_cases hql : q < 1
            · have hql' : (q : Int) < 1 := by omega
              have x1 := HH.out wr q hbw hql
              have hd : decide ((8 : Int) ≤ (k : Int)) = false := by simp; omega
              have x2 := HA.out wr q k hbw hql hlt
              obtain ⟨j, hj⟩ : ∃ j : Nat, k * 1 + q = j := ⟨_, rfl⟩
              have hjI : (k : Int) + q = (j : Int) := by omega
              have hjN : j < 8 := by omega
              have hjI2 : (j : Int) < 8 := by omega
              have x3 := HX.out wr j hbw hjN
              rw [hj] at x2
              have HB : Hid _ := hbw
              clear hbw hj
              generalize F j = y at *
              go_wp2
              go_quiet (fail)
              go_wp2
              go_roundw
              case rel => exact ⟨q + 1, by omega, by go_num, Poly.below_drewN HB.out _⟩
              case measure => simp [intOf]; omega
            · obtain rfl : q = 1 := by omega
              have HB : Hid _ := hbw
              clear hbw
              go_wp2
              go_roundw
              case rel => exact ⟨k + 1, by omega, by go_num, HB.out⟩
              case measure => simp [intOf]; omega
        · obtain rfl : k = 8 := by omega
          have x0 := HH.out wr 0 HB.out (by omega)
          go_wp2
          go_ret
          exact ⟨rfl, HB.out⟩
  · rcases hB with rfl | rfl
    · go_enter Tryd.func9, Tryd.ntmps9
      go_wp2
      go_loopw [5] (fun i wr => ∃ k : Nat, k ≤ 4 ∧ i = .int .i64 k ∧ Below w.heap.size w wr) (fun i _ => 4 - (intOf i).toNat)
      case atStart => exact ⟨0, by omega, rfl, Below.refl _ _⟩
      case round =>
        obtain ⟨k, hk, rfl, hbw⟩ := hrel
        have HB : Hid _ := hbw
        clear hbw
        by_cases hlt : k < 4
        · have hlt' : (k : Int) < 4 := by omega
          go_wp2
          go_loopw [6] (fun i w2 => ∃ q : Nat, q ≤ 2 ∧ i = .int .i64 q ∧ Below w.heap.size w w2) (fun i _ => 2 - (intOf i).toNat)
          case atStart => exact ⟨0, by omega, rfl, HB.out⟩
          case round =>
            clear HB
            obtain ⟨q, hq, rfl, hbw⟩ := hrel
            by_cases hql : q < 2
            · have hql' : (q : Int) < 2 := by omega
              have x1 := HH.out wr q hbw hql
              have hd : decide ((4 : Int) ≤ (k : Int)) = false := by simp; omega
              have x2 := HA.out wr q k hbw hql hlt
              obtain ⟨j, hj⟩ : ∃ j : Nat, k * 2 + q = j := ⟨_, rfl⟩
              have hjI : (k : Int) * 2 + q = (j : Int) := by omega
              have hjN : j < 8 := by omega
              have hjI2 : (j : Int) < 8 := by omega
              have x3 := HX.out wr j hbw hjN
              rw [hj] at x2
              have HB : Hid _ := hbw
              clear hbw hj
              generalize F j = y at *
              go_wp2
              go_quiet (fail)
              go_wp2
              go_roundw
              case rel => exact ⟨q + 1, by omega, by go_num, Poly.below_drewN HB.out _⟩
              case measure => simp [intOf]; omega
            · obtain rfl : q = 2 := by omega
              have HB : Hid _ := hbw
              clear hbw
              go_wp2
              go_roundw
              case rel => exact ⟨k + 1, by omega, by go_num, HB.out⟩
              case measure => simp [intOf]; omega
        · obtain rfl : k = 4 := by omega
          have x0 := HH.out wr 0 HB.out (by omega)
          go_wp2
          go_ret
          exact ⟨rfl, HB.out⟩
    · go_enter Tryd.func9, Tryd.ntmps9
      go_wp2
      go_loopw [5] (fun i wr => ∃ k : Nat, k ≤ 8 ∧ i = .int .i64 k ∧ Below w.heap.size w wr) (fun i _ => 8 - (intOf i).toNat)
      case atStart => exact ⟨0, by omega, rfl, Below.refl _ _⟩
      case round =>
        obtain ⟨k, hk, rfl, hbw⟩ := hrel
        have HB : Hid _ := hbw
        clear hbw
        by_cases hlt : k < 8
        · have hlt' : (k : Int) < 8 := by omega
          go_wp2
          go_loopw [6] (fun i w2 => ∃ q : Nat, q ≤ 2 ∧ i = .int .i64 q ∧ Below w.heap.size w w2) (fun i _ => 2 - (intOf i).toNat)
          case atStart => exact ⟨0, by omega, rfl, HB.out⟩
          case round =>
            clear HB
            obtain ⟨q, hq, rfl, hbw⟩ := hrel
            by_cases hql : q < 2
            · have hql' : (q : Int) < 2 := by omega
              have x1 := HH.out wr q hbw hql
              have hd : decide ((8 : Int) ≤ (k : Int)) = false := by simp; omega
              have x2 := HA.out wr q k hbw hql hlt
              obtain ⟨j, hj⟩ : ∃ j : Nat, k * 2 + q = j := ⟨_, rfl⟩
              have hjI : (k : Int) * 2 + q = (j : Int) := by omega
              have hjN : j < 16 := by omega
              have hjI2 : (j : Int) < 16 := by omega
              have x3 := HX.out wr j hbw hjN
              rw [hj] at x2
              have HB : Hid _ := hbw
              clear hbw hj
              generalize F j = y at *
              go_wp2
              go_quiet (fail)
              go_wp2
              go_roundw
              case rel => exact ⟨q + 1, by omega, by go_num, Poly.below_drewN HB.out _⟩
              case measure => simp [intOf]; omega
            · obtain rfl : q = 2 := by omega
              have HB : Hid _ := hbw
              clear hbw
              go_wp2
              go_roundw
              case rel => exact ⟨k + 1, by omega, by go_num, HB.out⟩
              case measure => simp [intOf]; omega
        · obtain rfl : k = 8 := by omega
          have x0 := HH.out wr 0 HB.out (by omega)
          go_wp2
          go_ret
          exact ⟨rfl, HB.out⟩

end Alloc
end Go.Proofs.YthlpbekfjolenaaDoor
