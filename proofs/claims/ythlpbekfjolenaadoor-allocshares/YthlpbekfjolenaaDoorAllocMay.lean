/-
  The document's answer for layer 12: which scales are some of a format. Conditions: as told at each.
-/
import Derived.Test.YthlpbekfjolenaaDoorAllocRefS
import Derived.Test.YthlpbekfjolenaaDoorFormSub
namespace Go.Proofs.YthlpbekfjolenaaDoor
set_option linter.unusedVariables false
open Go.RowKit
namespace Alloc
open Bank (Blk But)
open Poly (alloc_size enc cell_keep below_drew)
open _root_.Go.Proofs.YthlpbekfjolenaaDoor.Form (fv fc bel1 blk_below box_cells of_drew box_behind Says)

theorem rSub_ok (f : M.Fmt) (w : World) (h : M.okS f) : Calls Tryd.prog 18 #[fv f] w fun e w' => e = .returned (.bool true) ∧ Below w.heap.size w w' := by
  refine (Form.rSub_any f w).mono ?_
  rintro e w' ⟨q, rfl, hb, hq⟩
  obtain rfl : q = true := hq.2 h
  exact ⟨rfl, hb⟩
theorem rSub_no (f : M.Fmt) (w : World) (h : ¬ M.okS f) : Calls Tryd.prog 18 #[fv f] w fun e w' => e = .returned (.bool false) ∧ Below w.heap.size w w' := by
  refine (Form.rSub_any f w).mono ?_
  rintro e w' ⟨q, rfl, hb, hq⟩
  obtain rfl : q = false := Bool.eq_false_iff.2 (fun h' => h (hq.1 h'))
  exact ⟨rfl, hb⟩

theorem rMay_form (f : M.Fmt) (vs : Value) (w : World) (h : ¬ M.okS f) : Calls Tryd.prog 8 #[fv f, vs] w fun e w' => e = .returned (.int .i64 110) ∧ Below w.heap.size w w' := by
  have hch := fun wx => rSub_no f wx h
  clear h
  obtain ⟨c_, r_, h_, b_, k_, m_, j_, p_, l_, y_⟩ := f
  unfold fv at hch ⊢
  dsimp only at hch ⊢
  go_enter Tryd.func8, Tryd.ntmps8
  go_wp2_with (go_at_call 18; refine (hch _).mono ?_; clear hch; rintro e w2 ⟨rfl, b2⟩; have B2 : Hid _ := b2; clear b2)
  go_ret
  exact ⟨rfl, (box_behind (f := ⟨c_, r_, h_, b_, k_, m_, j_, p_, l_, y_⟩) B2.out).2⟩

set_option maxHeartbeats 2000000 in
theorem rMay_rest (f : M.Fmt) (vs : Value) (zss : List (List Int)) (C B : Nat) (w : World) (h : M.okS f) (hC : f.h = C) (hB : f.b = B) (hZ : Poly.Rows .i64 0 w.heap.size w vs zss) :
    Calls Tryd.prog 8 #[fv f, vs] w fun e w' => Okz (zss.length = C ∧ M.okZ B zss) w e w' := by
  have hch := fun wx => rSub_ok f wx h
  have c0 : 1 ≤ C ∧ C ≤ 2 := by have := h.2.2.1; omega
  have b0 : 4 ≤ B ∧ B ≤ 8 := by have := h.2.2.2.1; omega
  clear h
  obtain ⟨ax, cx, rfl, lx⟩ := hZ.form
  have HZ : Hid _ := hZ
  clear hZ
  obtain ⟨c_, r_, h_, b_, k_, m_, j_, p_, l_, y_⟩ := f
  obtain rfl : h_ = C := hC
  obtain rfl : b_ = B := hB
  unfold fv at hch ⊢
  dsimp only at hch ⊢
  have HCh : Hid _ := hch
  clear hch
  by_cases hl : zss.length = C
  · have hl' : (zss.length : Int) = C := by omega
    obtain ⟨b1, o1, rfl, _, l1, hx⟩ := Poly.Rows.cell HZ.out (by omega)
    rw [hl] at hx
    obtain ⟨P, hP⟩ : ∃ P, (zss.length = C ∧ M.okZ B zss) = P := ⟨_, rfl⟩
    rw [hP, hl]
    have HP : Hid (P ↔ zss.length = C ∧ M.okZ B zss) := by show P ↔ _; rw [hP]
    clear hP
    have HX : Hid _ := hx
    clear hx HZ hl'
    have HL : Hid (zss.length = C ∧ b1 < w.heap.size) := ⟨hl, l1⟩
    clear hl l1
    have hC1 : (1 : Int) ≤ C := by omega
    have hC2 : (C : Int) ≤ 2 := by omega
    have hB1 : (4 : Int) ≤ B := by omega
    have hB2 : (B : Int) ≤ 8 := by omega
    go_enter Tryd.func8, Tryd.ntmps8
    go_wp2_with (go_at_call 18; refine (HCh.out _).mono ?_; clear HCh; rintro e w2 ⟨rfl, b2⟩; have bx := box_behind (f := ⟨c_, r_, C, B, k_, m_, j_, p_, l_, y_⟩) b2; have x2 : w2.cell? ⟨w.heap.size, 2, none⟩ = some (.int .i64 (C : Int)) := (box_cells bx.1).2.2.1; have x3 : w2.cell? ⟨w.heap.size, 3, none⟩ = some (.int .i64 (B : Int)) := (box_cells bx.1).2.2.2.1; have B2 : Hid (Below w.heap.size w w2) := bx.2; have HB3 : Hid (w2.cell? ⟨w.heap.size, 3, none⟩ = some (.int .i64 (B : Int))) := x3; clear b2 bx)
    go_loopw [5] (fun i wr => ∃ q : Nat, q ≤ C ∧ i = .int .i64 q ∧ Below w.heap.size w wr ∧ wr.cell? ⟨w.heap.size, 3, none⟩ = some (.int .i64 (B : Int)) ∧ ∀ k, k < q → (zss.getD k []).length = B ∧ ∀ z ∈ zss.getD k [], 0 ≤ z ∧ z ≤ 15) (fun i _ => C - (intOf i).toNat)
    case atStart => exact ⟨0, by omega, rfl, B2.out, HB3.out, fun k hk => absurd hk (by omega)⟩
    case round =>
      obtain ⟨q, hq, rfl, bwr, x3, hall⟩ := hrel
      have HA : Hid _ := hall
      have HBW : Hid (Below w.heap.size w wr) := bwr
      clear hall bwr
      by_cases hlt : q < C
      · have hlt' : (q : Int) < C := by omega
        obtain ⟨u, hu, hr⟩ := HX.out q hlt
        have z1 : wr.cell? ⟨b1, o1 + q, none⟩ = some u := (cell_keep (HBW.out.block b1 HL.out.2)).trans hu
        obtain ⟨a3, c3, rfl⟩ := hr.form
        have HR : Hid _ := hr
        clear hr hu
        have HM : Hid (zss.getD q [] ∈ zss) := by
          show _ ∈ _
          rw [List.getD_eq_getElem?_getD, List.getElem?_eq_getElem (by rw [HL.out.1]; exact hlt)]; exact List.getElem_mem _
        obtain ⟨zs, hzs⟩ : ∃ zs, zss.getD q [] = zs := ⟨_, rfl⟩
        rw [hzs] at z1 HR HM
        have HG : Hid (zss.getD q [] = zs) := hzs
        clear hzs
        by_cases hz : zs.length = B
        · rw [hz] at z1
          have HR2 : Hid (Poly.Reads .i64 0 w.heap.size w (.slice a3 B c3) zs) := by show Poly.Reads _ _ _ _ _ _; rw [← hz]; exact HR.out
          clear HR
          obtain ⟨b4, o4, rfl, _, l4, hy⟩ := Poly.Reads.cell HR2.out (by rw [hz]; omega)
          have HY : Hid (∀ i, i < B → wr.cell? ⟨b4, o4 + i, none⟩ = some (.int .i64 (zs.getD i 0))) := fun i hi => (cell_keep (HBW.out.block b4 l4)).trans (hy i (by rw [hz]; exact hi))
          have HLz : Hid (zs.length = B) := hz
          have HZ1 : Hid (wr.cell? ⟨b1, o1 + q, none⟩ = some (.slice (some ⟨b4, o4, none⟩) B c3) ∧ wr.cell? ⟨w.heap.size, 3, none⟩ = some (.int .i64 (B : Int))) := ⟨z1, x3⟩
          clear hz hy HR2 l4
          go_wp2
          go_quiet (fail)
          go_wp2
          obtain ⟨V, hV⟩ : ∃ V, V = wr := ⟨_, rfl⟩
          subst hV
          obtain ⟨V2, hV2⟩ : ∃ V2, V2 = V.drewN nq := ⟨_, rfl⟩
          rw [← hV2]
          have HV2 : Hid (Below w.heap.size w V2 ∧ V2.cell? ⟨w.heap.size, 3, none⟩ = some (.int .i64 (B : Int)) ∧ V2.cell? ⟨b1, o1 + q, none⟩ = some (.slice (some ⟨b4, o4, none⟩) B c3) ∧ ∀ i, i < B → V2.cell? ⟨b4, o4 + i, none⟩ = some (.int .i64 (zs.getD i 0))) := by
            show _ ∧ _
            rw [hV2]; exact ⟨Poly.below_drewN HBW.out nq, HZ1.out.2, HZ1.out.1, HY.out⟩
          clear hV2 z1 x3 HY HBW HZ1
          go_loopw [6] (fun i wx => ∃ k : Nat, k ≤ B ∧ i = .int .i64 k ∧ wx = V2 ∧ ∀ j, j < k → 0 ≤ zs.getD j 0 ∧ zs.getD j 0 ≤ 15) (fun i _ => B - (intOf i).toNat)
          case atStart => exact ⟨0, by omega, rfl, rfl, fun k hk => absurd hk (by omega)⟩
          case round =>
            obtain ⟨k, hk, rfl, hw, hin⟩ := hrel
            subst hw
            have HI : Hid _ := hin
            clear hin
            obtain ⟨BV, x3, z1, hy⟩ := HV2.out
            have BV2 : Hid _ := BV
            clear BV
            by_cases hkl : k < B
            · have hkl' : (k : Int) < B := by omega
              have y1 := hy k hkl
              have HMz : Hid (zs.getD k 0 ∈ zs) := by
                show _ ∈ _
                rw [List.getD_eq_getElem?_getD, List.getElem?_eq_getElem (by rw [HLz.out]; exact hkl)]; exact List.getElem_mem _
              obtain ⟨z, hz⟩ : ∃ z, zs.getD k 0 = z := ⟨_, rfl⟩
              rw [hz] at y1 HMz
              have HGz : Hid (zs.getD k 0 = z) := hz
              clear hz hy
              rcases (by omega : z < 0 ∨ (¬ z < 0 ∧ 15 < z) ∨ (¬ z < 0 ∧ ¬ 15 < z)) with h1 | ⟨h1, h2⟩ | ⟨h1, h2⟩
              · go_wp2
                go_ret
                refine ⟨BV2.out, .inr ⟨rfl, fun h => ?_⟩⟩
                have := ((HP.out.1 h).2 _ HM.out).2 _ HMz.out; omega
              · go_wp2
                go_ret
                refine ⟨BV2.out, .inr ⟨rfl, fun h => ?_⟩⟩
                have := ((HP.out.1 h).2 _ HM.out).2 _ HMz.out; omega
              · go_wp2
                go_roundw
                case rel =>
                  refine ⟨k + 1, by omega, by go_num, by first | rfl | trivial, fun j hj => ?_⟩
                  rcases (by omega : j < k ∨ j = k) with h | rfl
                  · exact HI.out j h
                  · rw [HGz.out]; omega
                case measure => simp [intOf]; omega
            · obtain rfl : k = B := by omega
              clear hy
              have HX3 : Hid (wr.cell? ⟨w.heap.size, 3, none⟩ = some (.int .i64 (k : Int))) := x3
              go_wp2
              go_roundw
              case rel =>
                refine ⟨q + 1, by omega, by go_num, BV2.out, HX3.out, fun j hj => ?_⟩
                rcases (by omega : j < q ∨ j = q) with h | rfl
                · exact HA.out j h
                · rw [HG.out]
                  refine ⟨HLz.out, fun z hz => ?_⟩
                  obtain ⟨i, hi, rfl⟩ := List.getElem_of_mem hz
                  have := HI.out i (by rw [← HLz.out]; exact hi)
                  rwa [List.getD_eq_getElem?_getD, List.getElem?_eq_getElem hi] at this
              case measure => simp [intOf]; omega
        · have hz' : ¬ (zs.length : Int) = B := by omega
          go_wp2
          go_quiet (fail)
          go_wp2
          go_ret
          exact ⟨Poly.below_drewN HBW.out _, .inr ⟨rfl, fun h => hz ((HP.out.1 h).2 _ HM.out).1⟩⟩
      · obtain rfl : q = C := by omega
        go_wp2
        go_ret
        refine ⟨HBW.out, .inl ⟨rfl, HP.out.2 ⟨HL.out.1, fun zs hzs => ?_⟩⟩⟩
        obtain ⟨i, hi, rfl⟩ := List.getElem_of_mem hzs
        have := HA.out i (by rw [← HL.out.1]; exact hi)
        rwa [List.getD_eq_getElem?_getD, List.getElem?_eq_getElem hi] at this
  · have hl' : ¬ (zss.length : Int) = C := by omega
    clear HZ
    go_enter Tryd.func8, Tryd.ntmps8
    go_wp2_with (go_at_call 18; refine (HCh.out _).mono ?_; clear HCh; rintro e w2 ⟨rfl, b2⟩; have bx := box_behind (f := ⟨c_, r_, C, B, k_, m_, j_, p_, l_, y_⟩) b2; have x2 : w2.cell? ⟨w.heap.size, 2, none⟩ = some (.int .i64 (C : Int)) := (box_cells bx.1).2.2.1; have B2 : Hid (Below w.heap.size w w2) := bx.2; clear b2 bx)
    go_ret
    exact ⟨B2.out, .inr ⟨rfl, fun h => hl h.1⟩⟩

theorem rMay_ok (f : M.Fmt) (vs : Value) (zss : List (List Int)) (C B r : Nat) (w : World) (h : Good f zss C B r) (hZ : Poly.Rows .i64 0 w.heap.size w vs zss) :
    Calls Tryd.prog 8 #[fv f, vs] w fun e w' => e = .returned (.int .i64 0) ∧ Below w.heap.size w w' := by
  refine (rMay_rest f vs zss C B w h.ok h.hC h.hB hZ).mono ?_
  rintro e w' ⟨hb, ⟨he, _⟩ | ⟨_, hn⟩⟩
  · exact ⟨he, hb⟩
  · exact absurd ⟨h.len, h.sca⟩ hn
theorem rMay_err (E : Int) (f : M.Fmt) (vs : Value) (zss : List (List Int)) (w : World) (h : Errs E f zss) (hZ : Poly.Rows .i64 0 w.heap.size w vs zss) :
    Calls Tryd.prog 8 #[fv f, vs] w fun e w' => e = .returned (.int .i64 E) ∧ Below w.heap.size w w' := by
  rcases h with ⟨h, rfl⟩ | ⟨h, hn, rfl⟩
  · exact rMay_form f vs w h
  · have h2 := h.2.2.1; have h3 := h.2.2.2.1
    refine (rMay_rest f vs zss f.h.toNat f.b.toNat w h (by omega) (by omega) hZ).mono ?_
    rintro e w' ⟨hb, ⟨_, h1⟩ | ⟨he, _⟩⟩
    · exact absurd ⟨by have := h1.1; omega, h1.2⟩ hn
    · exact ⟨he, hb⟩

end Alloc
end Go.Proofs.YthlpbekfjolenaaDoor
