/-
  Contracts of package alloc: a go through the bands with what is left, and the fall of the slice. Conditions: as told at each.
-/
import Derived.Test.YthlpbekfjolenaaDoorAllocFill
namespace Go.Proofs.YthlpbekfjolenaaDoor
set_option linter.unusedVariables false
open Go.RowKit
namespace Alloc
open Bank (Blk But)
open Poly (alloc_size enc cell_keep below_drew)
open _root_.Go.Proofs.YthlpbekfjolenaaDoor.Form (fv fc bel1 blk_below box_cells of_drew)
variable {W : World} {g : Nat} {f : M.Fmt} {a d C B : Nat} {n β : Nat → Int} {s x : Int} {w w' : World}

theorem fill_any (w : World) (bg : Bool) (h : Shr W g f a d C B n β s x w) (hC : f.h = C) (hB : f.b = B) (hn : ∀ j, -5 ≤ n j ∧ n j ≤ 15) (hβ : ∀ j, 0 ≤ β j ∧ β j ≤ 16) (hx : 0 ≤ x ∧ x ≤ f.p) (hp : f.p ≤ 10000) (c2 : C ≤ 2) (b8 : B ≤ 8) (s0 : -100 ≤ s ∧ s ≤ 100) :
    Calls Tryd.prog 17 #[.pointer (some ⟨g, 0, none⟩), .bool bg] w fun e w' => e = .returned (.tuple #[]) ∧ Shr W g f a d C B n (fun j => M.bts bg n s f.p β x (B * C) j) s (M.sg bg n s f.p β x (B * C)) w' := by
  have h2 : Fil W g f a d C B n s w.heap.size bg (fun k => M.bts bg n s f.p β x k) (fun k => M.sg bg n s f.p β x k) 0 ((w.alloc (.cells #[.pointer (some ⟨g, 0, none⟩)] 37)).alloc (.cells #[.bool bg] 4)) :=
    ⟨⟨(h.grow ((bel1 _ _).alloc (bel1 _ _).size _)).ext fun j _ => (M.bts_zero bg n s f.p β x j).symm, ⟨(Blk.new w _ _).alloc _, h.obj.lt⟩⟩, by rw [← alloc_size w (.cells #[.pointer (some ⟨g, 0, none⟩)] 37)]; exact Blk.new _ _ _⟩
  have hth : Calls Tryd.prog 22 #[fv f, .func (.func 29) #[] #[.pointer (some ⟨w.heap.size, 0, none⟩), .pointer (some ⟨w.heap.size + 1, 0, none⟩)]] ((w.alloc (.cells #[.pointer (some ⟨g, 0, none⟩)] 37)).alloc (.cells #[.bool bg] 4)) fun e w' => e = .returned (.tuple #[]) ∧ Fil W g f a d C B n s w.heap.size bg (fun k => M.bts bg n s f.p β x k) (fun k => M.sg bg n s f.p β x k) (B * C) w' :=
    through_any f C B _ _ _ _ hC hB c2 b8 (enters_of Tryd.func29 (by kernel_rfl) rfl) (fun k a b ha hb => ha.grow hb) (fill_told _ _ (by simp; omega) bg hn hβ hx hp c2 b8 s0) h2
  have xs := obj_cells h2.giv.shr.obj
  have x14 : ((w.alloc (.cells #[.pointer (some ⟨g, 0, none⟩)] 37)).alloc (.cells #[.bool bg] 4)).cell? ⟨w.heap.size, 0, none⟩ = some (.pointer (some ⟨g, 0, none⟩)) := h2.giv.box.1.cell rfl
  clear h h2 hC hB hn hβ c2 b8 s0 hx hp
  generalize hF : (fun k => M.bts bg n s f.p β x k) = F at *
  generalize hG : (fun k => M.sg bg n s f.p β x k) = G at *
  have HR : Hid (∀ w, Fil W g f a d C B n s w.heap.size bg F G (B * C) w → True) := fun _ _ => trivial
  obtain ⟨H, hH⟩ : ∃ H, H = w.heap.size := ⟨_, rfl⟩
  have HF : Hid (∀ w4 : World, Fil W g f a d C B n s w.heap.size bg F G (B * C) w4 → Shr W g f a d C B n (fun j => M.bts bg n s f.p β x (B * C) j) s (M.sg bg n s f.p β x (B * C)) w4) := by
    intro w4 h4
    have := h4.giv.shr
    rw [← hF, ← hG] at this
    exact this
  clear hF hG hH H HR
  generalize (fun j => M.bts bg n s f.p β x (B * C) j) = β' at *
  generalize M.sg bg n s f.p β x (B * C) = x' at *
  obtain ⟨c_, r_, h_, b_, k_, m_, j_, p_, l_, y_⟩ := f
  unfold fv at hth
  dsimp only at xs hth
  obtain ⟨x0, x1, x2, x3, x4, x5, x6, x7, x8, x9, x10, x11, x12, x13⟩ := xs
  go_enter Tryd.func17, Tryd.ntmps17
  go_wp2_with (go_at_call 22; refine hth.mono ?_; clear hth; rintro e w4 ⟨rfl, h4⟩; have H4 : Hid _ := h4; clear h4)
  go_end0
  exact ⟨rfl, HF.out _ H4.out⟩

set_option maxHeartbeats 2000000 in
theorem fall_any (w : World) {p sl : Int} {N : Nat} (h : Shr W g f a d C B n β 0 0 w) (hC : f.h = C) (hB : f.b = B) (hN : B * C = N) (hn : ∀ j, -5 ≤ n j ∧ n j ≤ 15) (c2 : C ≤ 2) (b8 : B ≤ 8) (hp : f.p = p) (p0 : 0 < p) (p1 : p ≤ 10000) (hl : M.lst n N p sl) (hs : -21 < sl) :
    Calls Tryd.prog 15 #[.pointer (some ⟨g, 0, none⟩)] w fun e w' => e = .returned (.tuple #[]) ∧ Shr W g f a d C B n β (M.fin n N p sl) (M.x0 n N p sl) w' := by
  have HG : Hid (∀ wx, Shr W g f a d C B n β 0 0 wx → Calls Tryd.prog 26 #[.pointer (some ⟨g, 0, none⟩)] wx fun e w' => e = .returned (.int .i64 (M.mx n N)) ∧ Shr W g f a d C B n β 0 0 w') := fun wx h => hN ▸ greatest_any wx h hC hB hn c2 b8
  have HC : Hid (∀ t x wx, Shr W g f a d C B n β t x wx → -100 ≤ t ∧ t ≤ 100 → Calls Tryd.prog 27 #[.pointer (some ⟨g, 0, none⟩)] wx fun e w' => e = .returned (.int .i64 (M.cst n N t)) ∧ Shr W g f a d C B n β t x w') := fun t x wx h ht => hN ▸ costs_any wx h hC hB hn c2 b8 ht
  have mb := M.mx_bd n N (fun j _ => (hn j).2)
  have HT : Hid (M.tot n N (M.mx n N + 1) = 0) := M.mx_top n N _ (by omega)
  have N16 : N ≤ 16 := by
    have : B * C ≤ 8 * 2 := Nat.mul_le_mul b8 c2
    omega
  have HTT : Hid (∀ t, M.tot n N (t - 1) = M.tot n N t + M.cst n N t ∧ 0 ≤ M.cst n N t ∧ M.cst n N t ≤ 32 ∧ 0 ≤ M.tot n N t) := fun t => ⟨M.tot_pred n N t, (M.cst_bd n N t).1, by have := (M.cst_bd n N t).2; omega, (M.tot_bd n N t).1⟩
  have HL : Hid (M.lst n N p sl) := hl
  have H : Hid _ := h
  have y1 := h.obj.free 12
  have y2 : w.cell? ⟨g, 12, none⟩ = some (.int .i64 0) := h.obj.cell rfl
  clear h hC hB hN hn c2 b8 N16 hl
  obtain ⟨z0, z1⟩ := mb
  generalize hz : M.mx n N = z at *
  clear hz
  go_enter Tryd.func15, Tryd.ntmps15
  go_wp2_with (first
    | (go_at_call 26; refine (HG.out _ H.out).mono ?_; clear HG H y1 y2; rintro e w2 ⟨rfl, h2⟩; have y1 := h2.obj.free 12; have y2 : w2.cell? ⟨g, 12, none⟩ = some (.int .i64 0) := h2.obj.cell rfl; have H2 : Hid _ := h2; clear h2)
    | (go_at_call 27; refine (HC.out _ _ _ (H2.out.slice _) ⟨by omega, by omega⟩).mono ?_; clear y1 y2 H2; rintro e w3 ⟨rfl, h3⟩; have H3 : Hid _ := h3; clear h3))
  go_loopw [2] (fun i wr => ∃ t : Int, i = .int .i64 (M.cst n N t) ∧ M.tot n N t < p ∧ -21 < t ∧ t ≤ 16 ∧ Shr W g f a d C B n β t (M.tot n N t) wr) (fun _ wr => ((wr.cell? ⟨g, 12, none⟩).elim 0 intOf + 21).toNat)
  case atStart => exact ⟨z + 1, rfl, by rw [HT.out]; exact p0, by omega, by omega, by rw [HT.out]; exact H3.out⟩
  case round =>
    clear H3 HT
    obtain ⟨t, rfl, ht, t0, t1, hs⟩ := hrel
    obtain ⟨e1, K0, K1, T0⟩ := HTT.out t
    have x7 : wr.cell? ⟨g, 7, none⟩ = some (.int .i64 p) := by rw [← hp]; exact hs.obj.cell rfl
    have x12 : wr.cell? ⟨g, 12, none⟩ = some (.int .i64 t) := hs.obj.cell rfl
    have x13 : wr.cell? ⟨g, 13, none⟩ = some (.int .i64 (M.tot n N t)) := hs.obj.cell rfl
    have f12 := hs.obj.free 12
    have f13 := hs.obj.free 13
    have HS : Hid _ := hs
    have HE : Hid (M.tot n N (t - 1) = M.tot n N t + M.cst n N t) := e1
    have Hp : Hid (f.p = p) := hp
    clear hs e1 hp
    by_cases hlt : M.tot n N t + M.cst n N t < p
    · have hst := M.lst_lt HL.out (by rw [HE.out]; exact hlt)
      generalize M.tot n N t = T at *
      generalize M.cst n N t = K at *
      go_wp2
      go_quiet (fail)
      go_wp2_with (go_at_call 27; refine (HC.out (t - 1) (T + K) _ (((HS.out.drewN _).sum _).slice _) ⟨by omega, by omega⟩).mono ?_; rintro e w3 ⟨rfl, h3⟩; have z12 : w3.cell? ⟨g, 12, none⟩ = some (.int .i64 (t - 1)) := h3.obj.cell rfl; have H3 : Hid _ := h3; clear h3)
      go_roundw
      case rel => exact ⟨t - 1, rfl, by rw [HE.out]; exact hlt, by omega, by omega, by rw [HE.out]; exact H3.out⟩
      case measure => simp [x12, z12, intOf]; omega
    · have hst : t = sl := M.lst_one ⟨ht, by rw [HE.out]; omega⟩ HL.out
      have HF : Hid (M.fin n N p sl = (if M.tot n N (t - 1) = p then t - 1 else t) ∧ M.x0 n N p sl = M.tot n N (if M.tot n N (t - 1) = p then t - 1 else t)) := by
        show _ ∧ _
        unfold M.x0 M.fin; rw [hst]; exact ⟨rfl, rfl⟩
      clear hst
      by_cases he : M.tot n N t + M.cst n N t = p
      · have HF2 : Hid (M.fin n N p sl = t - 1 ∧ M.x0 n N p sl = p) := by
          rw [← HE.out] at he
          show _ ∧ _
          rw [HF.out.1, HF.out.2, if_pos he]; exact ⟨rfl, he⟩
        clear HF
        generalize M.tot n N t = T at *
        generalize M.cst n N t = K at *
        go_wp2
        go_quiet (fail)
        go_wp2
        go_quiet (fail)
        go_wp2
        go_end0
        exact ⟨rfl, by rw [HF2.out.1, HF2.out.2]; exact ((HS.out.drewN _).sum _).slice _⟩
      · have HF2 : Hid (M.fin n N p sl = t ∧ M.x0 n N p sl = M.tot n N t) := by
          rw [← HE.out] at he
          show _ ∧ _
          rw [HF.out.1, HF.out.2, if_neg he]; exact ⟨rfl, rfl⟩
        clear HF
        generalize M.tot n N t = T at *
        generalize M.cst n N t = K at *
        have he' : (T + K == p) = false := by simp [he]
        go_wp2
        go_quiet (fail)
        go_wp2
        go_quiet (fail)
        go_wp2
        go_end0
        exact ⟨rfl, by rw [HF2.out.1, HF2.out.2]; exact (HS.out.drewN _).drewN _⟩

end Alloc
end Go.Proofs.YthlpbekfjolenaaDoor
