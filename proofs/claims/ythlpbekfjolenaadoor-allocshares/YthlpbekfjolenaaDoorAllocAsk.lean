/-
  Contracts of package alloc: what is refused. Conditions: as told at each.
-/
import Derived.Test.YthlpbekfjolenaaDoorAllocFall
namespace Go.Proofs.YthlpbekfjolenaaDoor
set_option linter.unusedVariables false
open Go.RowKit
namespace Alloc
open Bank (Blk But)
open Poly (alloc_size enc cell_keep below_drew)
open _root_.Go.Proofs.YthlpbekfjolenaaDoor.Form (fv fc bel1 blk_below box_cells of_drew box_behind)

/-- an answer 0 if P holds, else 1 -/
def Okz (P : Prop) (w : World) (e : Ending) (w' : World) : Prop := Below w.heap.size w w' ∧ ((e = .returned (.int .i64 0) ∧ P) ∨ (e = .returned (.int .i64 1) ∧ ¬ P))
theorem okS_F {f : M.Fmt} (hc : f.c = 1) : M.okF f ↔ M.okS f := ⟨fun h => h.resolve_right fun h => by have := h.1; omega, .inl⟩

theorem refuse_form (f : M.Fmt) (vs : Value) (w : World) (h : ¬ M.okS f) : Calls Tryd.prog 12 #[fv f, vs] w fun e w' => e = .returned (.int .i64 110) ∧ Below w.heap.size w w' := by
  by_cases hc : f.c = 1
  · have hch := fun wx => Form.Check_no f wx (fun h' => h ((okS_F hc).1 h'))
    clear h
    obtain ⟨c_, r_, h_, b_, k_, m_, j_, p_, l_, y_⟩ := f
    obtain rfl : c_ = 1 := hc
    unfold fv at hch ⊢
    dsimp only at hch ⊢
    go_enter Tryd.func12, Tryd.ntmps12
    go_wp2_with (go_at_call 21; refine (hch _).mono ?_; clear hch; rintro e w2 ⟨rfl, b2⟩; have B2 : Hid _ := b2; clear b2)
    go_ret
    exact ⟨rfl, (box_behind (f := ⟨1, r_, h_, b_, k_, m_, j_, p_, l_, y_⟩) B2.out).2⟩
  · clear h
    obtain ⟨c_, r_, h_, b_, k_, m_, j_, p_, l_, y_⟩ := f
    replace hc : ¬ c_ = 1 := hc
    unfold fv
    dsimp only
    go_enter Tryd.func12, Tryd.ntmps12
    go_wp2
    go_ret
    exact ⟨rfl, bel1 _ _⟩

set_option maxHeartbeats 1000000 in
theorem refuse_rest (f : M.Fmt) (vs : Value) (zss : List (List Int)) (C B : Nat) (w : World) (h : M.okS f) (hC : f.h = C) (hB : f.b = B) (hZ : Poly.Rows .i64 0 w.heap.size w vs zss) :
    Calls Tryd.prog 12 #[fv f, vs] w fun e w' => Okz (zss.length = C ∧ M.okZ B zss) w e w' := by
  have hch := fun wx => Form.Check_ok f wx (.inl h)
  have c0 : 1 ≤ C ∧ C ≤ 2 := by have := h.2.2.1; omega
  have b0 : 4 ≤ B ∧ B ≤ 8 := by have := h.2.2.2.1; omega
  have hc : f.c = 1 := h.1
  clear h
  obtain ⟨ax, cx, rfl, lx⟩ := hZ.form
  have HZ : Hid _ := hZ
  clear hZ
  obtain ⟨c_, r_, h_, b_, k_, m_, j_, p_, l_, y_⟩ := f
  obtain rfl : c_ = 1 := hc
  obtain rfl : h_ = C := hC
  obtain rfl : b_ = B := hB
  unfold fv at hch ⊢
  dsimp only at hch ⊢

  have HCh : Hid _ := hch
  clear hch
  by_cases hl : zss.length = C
  · have hl' : (zss.length : Int) = C := by omega
    obtain ⟨b1, o1, rfl, _, l1, hx⟩ := Poly.Rows.cell HZ.out (by omega)
    rw [hl] at hx
    obtain ⟨P, hP⟩ : ∃ P, (zss.length = C ∧ M.okZ B zss) = P := ⟨_, rfl⟩
    rw [hP, hl]
    have HP : Hid (P ↔ zss.length = C ∧ M.okZ B zss) := by show P ↔ _; rw [hP]
    clear hP
    have HX : Hid _ := hx
    clear hx HZ hl'
    have HL : Hid (zss.length = C ∧ b1 < w.heap.size) := ⟨hl, l1⟩
    clear hl l1
    have hC1 : (1 : Int) ≤ C := by omega
    have hC2 : (C : Int) ≤ 2 := by omega
    have hB2 : (B : Int) ≤ 8 := by omega
    have hB1 : (4 : Int) ≤ B := by omega
    go_enter Tryd.func12, Tryd.ntmps12
    go_wp2_with (go_at_call 21; refine (HCh.out _).mono ?_; clear HCh; rintro e w2 ⟨rfl, b2⟩; have x2 : w2.cell? ⟨w.heap.size, 2, none⟩ = some (.int .i64 (C : Int)) := (box_cells (box_behind (f := ⟨1, r_, C, B, k_, m_, j_, p_, l_, y_⟩) b2).1).2.2.1; have x3 : w2.cell? ⟨w.heap.size, 3, none⟩ = some (.int .i64 (B : Int)) := (box_cells (box_behind (f := ⟨1, r_, C, B, k_, m_, j_, p_, l_, y_⟩) b2).1).2.2.2.1; have B2 : Hid (Below w.heap.size w w2) := (box_behind (f := ⟨1, r_, C, B, k_, m_, j_, p_, l_, y_⟩) b2).2; clear b2)
    go_loopw [24] (fun i wr => ∃ q : Nat, q ≤ C ∧ i = .int .i64 q ∧ wr = w2 ∧ ∀ k, k < q → (zss.getD k []).length = B ∧ ∀ z ∈ zss.getD k [], 0 ≤ z ∧ z ≤ 15) (fun i _ => C - (intOf i).toNat)
    case atStart => exact ⟨0, by omega, rfl, rfl, fun k hk => absurd hk (by omega)⟩
    case round =>
      obtain ⟨q, hq, rfl, hw, hall⟩ := hrel
      subst hw
      have HA : Hid _ := hall
      clear hall
      by_cases hlt : q < C
      · have hlt' : (q : Int) < C := by omega
        obtain ⟨u, hu, hr⟩ := HX.out q hlt
        have z1 : wr.cell? ⟨b1, o1 + q, none⟩ = some u := (cell_keep (B2.out.block b1 HL.out.2)).trans hu
        obtain ⟨a3, c3, rfl⟩ := hr.form
        have HR : Hid _ := hr
        clear hr hu
        have HM : Hid (zss.getD q [] ∈ zss) := by
          show _ ∈ _
          rw [List.getD_eq_getElem?_getD, List.getElem?_eq_getElem (by rw [HL.out.1]; exact hlt)]; exact List.getElem_mem _
        obtain ⟨zs, hzs⟩ : ∃ zs, zss.getD q [] = zs := ⟨_, rfl⟩
        rw [hzs] at z1 HR HM
        have HG : Hid (zss.getD q [] = zs) := hzs
        clear hzs
        by_cases hz : zs.length = B
        · rw [hz] at z1
          have HR2 : Hid (Poly.Reads .i64 0 w.heap.size w (.slice a3 B c3) zs) := by show Poly.Reads _ _ _ _ _ _; rw [← hz]; exact HR.out
          clear HR
          obtain ⟨b4, o4, rfl, _, l4, hy⟩ := HR2.out.cell (by rw [hz]; omega)
          have HY : Hid (∀ i, i < B → wr.cell? ⟨b4, o4 + i, none⟩ = some (.int .i64 (zs.getD i 0))) := fun i hi => (cell_keep (B2.out.block b4 l4)).trans (hy i (by rw [hz]; exact hi))
          have HLz : Hid (zs.length = B) := hz
          clear hz hy HR2 l4
          go_wp2
          go_loopw [35] (fun i wx => ∃ k : Nat, k ≤ B ∧ i = .int .i64 k ∧ wx = wr ∧ ∀ j, j < k → 0 ≤ zs.getD j 0 ∧ zs.getD j 0 ≤ 15) (fun i _ => B - (intOf i).toNat)
          case atStart => exact ⟨0, by omega, rfl, rfl, fun k hk => absurd hk (by omega)⟩
          case round =>
            obtain ⟨k, hk, rfl, hw, hin⟩ := hrel
            subst hw
            have HI : Hid _ := hin
            clear hin
            by_cases hkl : k < B
            · have hkl' : (k : Int) < B := by omega
              have y1 := HY.out k hkl
              have HMz : Hid (zs.getD k 0 ∈ zs) := by
                show _ ∈ _
                rw [List.getD_eq_getElem?_getD, List.getElem?_eq_getElem (by rw [HLz.out]; exact hkl)]; exact List.getElem_mem _
              obtain ⟨z, hz⟩ : ∃ z, zs.getD k 0 = z := ⟨_, rfl⟩
              rw [hz] at y1 HMz
              have HGz : Hid (zs.getD k 0 = z) := hz
              clear hz
              rcases (by omega : z < 0 ∨ (¬ z < 0 ∧ 15 < z) ∨ (¬ z < 0 ∧ ¬ 15 < z)) with h1 | ⟨h1, h2⟩ | ⟨h1, h2⟩
              · go_wp2
                go_ret
                refine ⟨B2.out, .inr ⟨rfl, fun h => ?_⟩⟩
                have := ((HP.out.1 h).2 _ HM.out).2 _ HMz.out; omega
              · go_wp2
                go_ret
                refine ⟨B2.out, .inr ⟨rfl, fun h => ?_⟩⟩
                have := ((HP.out.1 h).2 _ HM.out).2 _ HMz.out; omega
              · go_wp2
                go_roundw
                case rel =>
                  refine ⟨k + 1, by omega, by go_num, by first | rfl | trivial, fun j hj => ?_⟩
                  rcases (by omega : j < k ∨ j = k) with h | rfl
                  · exact HI.out j h
                  · rw [HGz.out]; omega
                case measure => simp [intOf]; omega
            · obtain rfl : k = B := by omega
              go_wp2
              go_roundw
              case rel =>
                refine ⟨q + 1, by omega, by go_num, by first | rfl | trivial, fun j hj => ?_⟩
                rcases (by omega : j < q ∨ j = q) with h | rfl
                · exact HA.out j h
                · rw [HG.out]
                  refine ⟨HLz.out, fun z hz => ?_⟩
                  obtain ⟨i, hi, rfl⟩ := List.getElem_of_mem hz
                  have := HI.out i (by rw [← HLz.out]; exact hi)
                  rwa [List.getD_eq_getElem?_getD, List.getElem?_eq_getElem hi] at this
              case measure => simp [intOf]; omega
        · have hz' : ¬ (zs.length : Int) = B := by omega
          go_wp2
          go_ret
          exact ⟨B2.out, .inr ⟨rfl, fun h => hz ((HP.out.1 h).2 _ HM.out).1⟩⟩
      · obtain rfl : q = C := by omega
        go_wp2
        go_ret
        refine ⟨B2.out, .inl ⟨rfl, HP.out.2 ⟨HL.out.1, fun zs hzs => ?_⟩⟩⟩
        obtain ⟨i, hi, rfl⟩ := List.getElem_of_mem hzs
        have := HA.out i (by rw [← HL.out.1]; exact hi)
        rwa [List.getD_eq_getElem?_getD, List.getElem?_eq_getElem hi] at this
  · have hl' : ¬ (zss.length : Int) = C := by omega
    clear HZ
    go_enter Tryd.func12, Tryd.ntmps12
    go_wp2_with (go_at_call 21; refine (HCh.out _).mono ?_; clear HCh; rintro e w2 ⟨rfl, b2⟩; have x2 : w2.cell? ⟨w.heap.size, 2, none⟩ = some (.int .i64 (C : Int)) := (box_cells (box_behind (f := ⟨1, r_, C, B, k_, m_, j_, p_, l_, y_⟩) b2).1).2.2.1; have B2 : Hid (Below w.heap.size w w2) := (box_behind (f := ⟨1, r_, C, B, k_, m_, j_, p_, l_, y_⟩) b2).2; clear b2)
    go_ret
    exact ⟨B2.out, .inr ⟨rfl, fun h => hl h.1⟩⟩

end Alloc
end Go.Proofs.YthlpbekfjolenaaDoor
