import Derived.Deep.DeepCutAuto
import Derived.Test.YtcaifpjbjghhaaaGreatDoorSubP22
/-
  The document's answer for layer 12: what bands get. Conditions: as told at each.
-/
namespace Go.Proofs.YtcaifpjbjghhaaaGreatDoor
set_option linter.unusedVariables false
open Go.RowKit
namespace Alloc
open Bank (Blk But)
open Poly (alloc_size enc enc_get cell_keep below_drew Gat Fill)
open _root_.Go.Proofs.YtcaifpjbjghhaaaGreatDoor.Form (fv fc bel1 blk_below box_cells of_drew box_behind)

structure Bits (W : World) (N : Nat) (G : Nat → Int) (wr : World) : Prop where
  row : Fill .i64 3 W.heap.size N N G wr
  bel : Below W.heap.size W wr
theorem Bits.set {W w : World} {N k : Nat} {G G' : Nat → Int} (h : Bits W N G w) (hk : k < N) {x : Int} (hx : x = G' k) (ho : ∀ j, j ≠ k → G' j = G j) : Bits W N G' (w.setCell ⟨W.heap.size, k, none⟩ (.int .i64 x)) := by
  obtain ⟨⟨tab, h1, h2, h3⟩, hb⟩ := h
  refine ⟨⟨_, h1.set _ _, by simpa using h2, fun j hj => ?_⟩, hb.setCell (Nat.le_refl _) _⟩
  rw [Array.getElem?_setIfInBounds]
  split
  · rename_i e; subst e; rw [if_pos (by omega), hx]
  · rename_i e; rw [h3 j hj, ho j (fun h => e h.symm)]
theorem Bits.ext {W w : World} {N : Nat} {G G' : Nat → Int} (h : Bits W N G w) (e : ∀ j, j < N → G j = G' j) : Bits W N G' w := by
  obtain ⟨⟨tab, h1, h2, h3⟩, hb⟩ := h
  exact ⟨⟨tab, h1, h2, fun j hj => by rw [h3 j hj, e j hj]⟩, hb⟩
theorem Bits.at {W w : World} {N k : Nat} {G : Nat → Int} (h : Bits W N G w) (hk : k < N) : w.cell? ⟨W.heap.size, k, none⟩ = some (.int .i64 (G k)) := by
  obtain ⟨⟨tab, h1, h2, h3⟩, hb⟩ := h
  exact h1.cell (h3 k hk)
theorem Bits.free {W w : World} {N : Nat} {G : Nat → Int} (h : Bits W N G w) (k : Nat) : w.frozen? ⟨W.heap.size, k, none⟩ = false := by
  obtain ⟨⟨tab, h1, h2, h3⟩, hb⟩ := h
  exact h1.free k
theorem Bits.new (W : World) (N : Nat) : Bits W N (fun _ => 0) (W.alloc (.cells (enc .i64 (List.replicate N 0)).toArray 3)) := by
  refine ⟨⟨_, Blk.new W _ _, by simp [enc], fun j hj => ?_⟩, bel1 _ _⟩
  rw [List.getElem?_toArray, enc_get (by simpa using hj)]
  simp [List.getD, hj]

end Alloc
end Go.Proofs.YtcaifpjbjghhaaaGreatDoor

/-
  The document's answer of layer 11: which formats there are. Conditions: none.
-/
namespace Go.Proofs.YtcaifpjbjghhaaaGreatDoor
set_option linter.unusedVariables false
open Go.RowKit
namespace Form
open Bank (Blk But)
open Poly (alloc_size)

set_option maxRecDepth 100000 in
set_option maxHeartbeats 6400000 in
theorem rSub_any (f : M.Fmt) (w : World) : Calls Tryz.prog 16 #[fv f] w fun e w' => Says (M.okS f) w e w' := by
  obtain ⟨O, hO⟩ : ∃ O, M.okS f = O := ⟨_, rfl⟩
  rw [hO]
  have HO : Hid (M.okS f = O) := hO
  clear hO
  have hd := fun wx => rBits_S f wx
  obtain ⟨z, hz⟩ : ∃ z, M.bitS f = z := ⟨_, rfl⟩
  rw [hz] at hd
  have hbd := fun h1 h2 h3 h4 => M.bitS_bd (f := f) h1 h2 h3 h4
  rw [hz] at hbd
  have HZ : Hid (M.bitS f = z) := hz
  clear hz
  obtain ⟨c, r, h, b, k, m, j, p, l, y⟩ := f
  unfold fv at hd ⊢
  dsimp only at hd hbd ⊢
  have HD : Hid _ := hd
  have HBD : Hid _ := hbd
  clear hd hbd
  obtain ⟨B1, hB1⟩ : ∃ B : Bool, B = true ↔ ¬ (c = 1 ∧ l = 0 ∧ y = 0) := ⟨decide _, decide_eq_true_iff⟩
  obtain ⟨B3, hB3⟩ : ∃ B : Bool, B = true ↔ ¬ (0 ≤ r ∧ r ≤ 3 ∧ 1 ≤ h ∧ h ≤ 2 ∧ 0 ≤ m ∧ m ≤ 1) := ⟨decide _, decide_eq_true_iff⟩
  obtain ⟨B5, hB5⟩ : ∃ B : Bool, B = true ↔ ¬ ((b = 4 ∨ b = 8) ∧ (k = 4 ∨ k = 8 ∨ k = 12 ∨ k = 16)) := ⟨decide _, decide_eq_true_iff⟩
  obtain ⟨B7, hB7⟩ : ∃ B : Bool, B = true ↔ ¬ (j = 0 ∨ (j = 1 ∧ h = 2)) := ⟨decide _, decide_eq_true_iff⟩
  have H1 : Hid _ := hB1
  have H3 : Hid _ := hB3
  have H5 : Hid _ := hB5
  have H7 : Hid _ := hB7
  clear hB1 hB3 hB5 hB7
  go_enter Tryz.func16, Tryz.ntmps16
  go_upto_region 1 with fail
  obtain ⟨W, hW⟩ : ∃ W, W = w.alloc (.cells #[.int .i64 c, .int .i64 r, .int .i64 h, .int .i64 b, .int .i64 k, .int .i64 m, .int .i64 j, .int .i64 p, .int .i64 l, .int .i64 y] 23) := ⟨_, rfl⟩
  rw [← hW]
  have belW : Below w.heap.size w W := by rw [hW]; exact bel1 _ _
  have hbox : Blk W w.heap.size (fc ⟨c, r, h, b, k, m, j, p, l, y⟩) 23 := by rw [hW]; exact Blk.new _ _ _
  clear hW
  have xs := box_cells hbox
  dsimp only at xs
  obtain ⟨x0, x1, x2, x3, x4, x5, x6, x7, x8, x9⟩ := xs
  have HBOX : Hid _ := hbox
  clear hbox
  go_cut [15] (fun v wx => v = .bool B1 ∧ wx = W)
  case first =>
    rcases (by omega : (c ≠ 1) ∨ (c = 1 ∧ l ≠ 0) ∨ (c = 1 ∧ l = 0 ∧ y ≠ 0) ∨ (c = 1 ∧ l = 0 ∧ y = 0)) with t0 | ⟨t0, t1⟩ | ⟨t0, t1, t2⟩ | ⟨t0, t1, t2⟩
    · have e0 : (c == 1) = false := by simpa using t0
      go_wp2
      go_meet
      refine ⟨congrArg Value.bool (Bool.eq_iff_iff.2 (Iff.trans ?_ H1.out.symm)), rfl⟩
      first | (simp; done) | (simp; omega) | omega
    · subst t0
      have e1 : (l == 0) = false := by simpa using t1
      go_wp2
      go_meet
      refine ⟨congrArg Value.bool (Bool.eq_iff_iff.2 (Iff.trans ?_ H1.out.symm)), rfl⟩
      first | (simp; done) | (simp; omega) | omega
    · subst t0
      subst t1
      have e2 : (y == 0) = false := by simpa using t2
      go_wp2
      go_meet
      refine ⟨congrArg Value.bool (Bool.eq_iff_iff.2 (Iff.trans ?_ H1.out.symm)), rfl⟩
      first | (simp; done) | (simp; omega) | omega
    · subst t0
      subst t1
      subst t2
      go_wp2
      go_meet
      refine ⟨congrArg Value.bool (Bool.eq_iff_iff.2 (Iff.trans ?_ H1.out.symm)), rfl⟩
      first | (simp; done) | (simp; omega) | omega
  obtain ⟨rfl, hwc⟩ := hcut
  rw [hwc]
  clear hwc wc
  rcases Bool.eq_false_or_eq_true B1 with hb | hb
  · have hno : ¬ O := by rw [← HO.out]; intro h'; have h2 := H1.out.1 hb; unfold M.okS at h'; dsimp only at h'; omega
    have HN : Hid (¬ O) := hno
    rw [hb]
    clear hno hb
    go_wp2
    go_ret
    exact ⟨false, rfl, belW, by simp; exact HN.out⟩
  have g1 : c = 1 ∧ l = 0 ∧ y = 0 := by
    refine Decidable.byContradiction fun h' => ?_
    have := H1.out.2 h'
    rw [hb] at this
    cases this
  have G1 : Hid _ := g1
  rw [hb]
  clear hb g1
  go_upto_region 3 with fail
  go_cut [43] (fun v wx => v = .bool B3 ∧ wx = W)
  case first =>
    rcases (by omega : (r < 0) ∨ (0 ≤ r ∧ 3 < r) ∨ (0 ≤ r ∧ r ≤ 3 ∧ h < 1) ∨ (0 ≤ r ∧ r ≤ 3 ∧ 1 ≤ h ∧ 2 < h) ∨ (0 ≤ r ∧ r ≤ 3 ∧ 1 ≤ h ∧ h ≤ 2 ∧ m < 0) ∨ (0 ≤ r ∧ r ≤ 3 ∧ 1 ≤ h ∧ h ≤ 2 ∧ 0 ≤ m ∧ 1 < m) ∨ (0 ≤ r ∧ r ≤ 3 ∧ 1 ≤ h ∧ h ≤ 2 ∧ 0 ≤ m ∧ m ≤ 1)) with t0 | ⟨t0, t1⟩ | ⟨t0, t1, t2⟩ | ⟨t0, t1, t2, t3⟩ | ⟨t0, t1, t2, t3, t4⟩ | ⟨t0, t1, t2, t3, t4, t5⟩ | ⟨t0, t1, t2, t3, t4, t5⟩
    · go_wp2
      go_meet
      refine ⟨congrArg Value.bool (Bool.eq_iff_iff.2 (Iff.trans ?_ H3.out.symm)), rfl⟩
      first | (simp; done) | (simp; omega) | omega
    · go_wp2
      go_meet
      refine ⟨congrArg Value.bool (Bool.eq_iff_iff.2 (Iff.trans ?_ H3.out.symm)), rfl⟩
      first | (simp; done) | (simp; omega) | omega
    · go_wp2
      go_meet
      refine ⟨congrArg Value.bool (Bool.eq_iff_iff.2 (Iff.trans ?_ H3.out.symm)), rfl⟩
      first | (simp; done) | (simp; omega) | omega
    · go_wp2
      go_meet
      refine ⟨congrArg Value.bool (Bool.eq_iff_iff.2 (Iff.trans ?_ H3.out.symm)), rfl⟩
      first | (simp; done) | (simp; omega) | omega
    · go_wp2
      go_meet
      refine ⟨congrArg Value.bool (Bool.eq_iff_iff.2 (Iff.trans ?_ H3.out.symm)), rfl⟩
      first | (simp; done) | (simp; omega) | omega
    · go_wp2
      go_meet
      refine ⟨congrArg Value.bool (Bool.eq_iff_iff.2 (Iff.trans ?_ H3.out.symm)), rfl⟩
      first | (simp; done) | (simp; omega) | omega
    · go_wp2
      go_meet
      refine ⟨congrArg Value.bool (Bool.eq_iff_iff.2 (Iff.trans ?_ H3.out.symm)), rfl⟩
      first | (simp; done) | (simp; omega) | omega
  obtain ⟨rfl, hwc⟩ := hcut
  rw [hwc]
  clear hwc wc
  rcases Bool.eq_false_or_eq_true B3 with hb | hb
  · have hno : ¬ O := by rw [← HO.out]; intro h'; have h2 := H3.out.1 hb; unfold M.okS at h'; dsimp only at h'; omega
    have HN : Hid (¬ O) := hno
    rw [hb]
    clear hno hb
    go_wp2
    go_ret
    exact ⟨false, rfl, belW, by simp; exact HN.out⟩
  have g3 : 0 ≤ r ∧ r ≤ 3 ∧ 1 ≤ h ∧ h ≤ 2 ∧ 0 ≤ m ∧ m ≤ 1 := by
    refine Decidable.byContradiction fun h' => ?_
    have := H3.out.2 h'
    rw [hb] at this
    cases this
  have G3 : Hid _ := g3
  rw [hb]
  clear hb g3
  go_upto_region 5 with fail
  go_cut [71] (fun v wx => v = .bool B5 ∧ wx = W)
  case first =>
    rcases (by omega : (b ≠ 4 ∧ b ≠ 8) ∨ (b = 4 ∧ k = 4) ∨ (b = 4 ∧ k ≠ 4 ∧ k = 8) ∨ (b = 4 ∧ k ≠ 4 ∧ k ≠ 8 ∧ k = 12) ∨ (b = 4 ∧ k ≠ 4 ∧ k ≠ 8 ∧ k ≠ 12 ∧ k = 16) ∨ (b = 4 ∧ k ≠ 4 ∧ k ≠ 8 ∧ k ≠ 12 ∧ k ≠ 16) ∨ (b ≠ 4 ∧ b = 8 ∧ k = 4) ∨ (b ≠ 4 ∧ b = 8 ∧ k ≠ 4 ∧ k = 8) ∨ (b ≠ 4 ∧ b = 8 ∧ k ≠ 4 ∧ k ≠ 8 ∧ k = 12) ∨ (b ≠ 4 ∧ b = 8 ∧ k ≠ 4 ∧ k ≠ 8 ∧ k ≠ 12 ∧ k = 16) ∨ (b ≠ 4 ∧ b = 8 ∧ k ≠ 4 ∧ k ≠ 8 ∧ k ≠ 12 ∧ k ≠ 16)) with ⟨t0, t1⟩ | ⟨t0, t1⟩ | ⟨t0, t1, t2⟩ | ⟨t0, t1, t2, t3⟩ | ⟨t0, t1, t2, t3, t4⟩ | ⟨t0, t1, t2, t3, t4⟩ | ⟨t0, t1, t2⟩ | ⟨t0, t1, t2, t3⟩ | ⟨t0, t1, t2, t3, t4⟩ | ⟨t0, t1, t2, t3, t4, t5⟩ | ⟨t0, t1, t2, t3, t4, t5⟩
    · have e0 : (b == 4) = false := by simpa using t0
      have e1 : (b == 8) = false := by simpa using t1
      go_wp2
      go_meet
      refine ⟨congrArg Value.bool (Bool.eq_iff_iff.2 (Iff.trans ?_ H5.out.symm)), rfl⟩
      first | (simp; done) | (simp; omega) | omega
    · subst t0
      subst t1
      go_wp2
      go_meet
      refine ⟨congrArg Value.bool (Bool.eq_iff_iff.2 (Iff.trans ?_ H5.out.symm)), rfl⟩
      first | (simp; done) | (simp; omega) | omega
    · subst t0
      have e1 : (k == 4) = false := by simpa using t1
      subst t2
      go_wp2
      go_meet
      refine ⟨congrArg Value.bool (Bool.eq_iff_iff.2 (Iff.trans ?_ H5.out.symm)), rfl⟩
      first | (simp; done) | (simp; omega) | omega
    · subst t0
      have e1 : (k == 4) = false := by simpa using t1
      have e2 : (k == 8) = false := by simpa using t2
      subst t3
      go_wp2
      go_meet
      refine ⟨congrArg Value.bool (Bool.eq_iff_iff.2 (Iff.trans ?_ H5.out.symm)), rfl⟩
      first | (simp; done) | (simp; omega) | omega
    · subst t0
      have e1 : (k == 4) = false := by simpa using t1
      have e2 : (k == 8) = false := by simpa using t2
      have e3 : (k == 12) = false := by simpa using t3
      subst t4
      go_wp2
      go_meet
      refine ⟨congrArg Value.bool (Bool.eq_iff_iff.2 (Iff.trans ?_ H5.out.symm)), rfl⟩
      first | (simp; done) | (simp; omega) | omega
    · subst t0
      have e1 : (k == 4) = false := by simpa using t1
      have e2 : (k == 8) = false := by simpa using t2
      have e3 : (k == 12) = false := by simpa using t3
      have e4 : (k == 16) = false := by simpa using t4
      go_wp2
      go_meet
      refine ⟨congrArg Value.bool (Bool.eq_iff_iff.2 (Iff.trans ?_ H5.out.symm)), rfl⟩
      first | (simp; done) | (simp; omega) | omega
    · have e0 : (b == 4) = false := by simpa using t0
      subst t1
      subst t2
      go_wp2
      go_meet
      refine ⟨congrArg Value.bool (Bool.eq_iff_iff.2 (Iff.trans ?_ H5.out.symm)), rfl⟩
      first | (simp; done) | (simp; omega) | omega
    · have e0 : (b == 4) = false := by simpa using t0
      subst t1
      have e2 : (k == 4) = false := by simpa using t2
      subst t3
      go_wp2
      go_meet
      refine ⟨congrArg Value.bool (Bool.eq_iff_iff.2 (Iff.trans ?_ H5.out.symm)), rfl⟩
      first | (simp; done) | (simp; omega) | omega
    · have e0 : (b == 4) = false := by simpa using t0
      subst t1
      have e2 : (k == 4) = false := by simpa using t2
      have e3 : (k == 8) = false := by simpa using t3
      subst t4
      go_wp2
      go_meet
      refine ⟨congrArg Value.bool (Bool.eq_iff_iff.2 (Iff.trans ?_ H5.out.symm)), rfl⟩
      first | (simp; done) | (simp; omega) | omega
    · have e0 : (b == 4) = false := by simpa using t0
      subst t1
      have e2 : (k == 4) = false := by simpa using t2
      have e3 : (k == 8) = false := by simpa using t3
      have e4 : (k == 12) = false := by simpa using t4
      subst t5
      go_wp2
      go_meet
      refine ⟨congrArg Value.bool (Bool.eq_iff_iff.2 (Iff.trans ?_ H5.out.symm)), rfl⟩
      first | (simp; done) | (simp; omega) | omega
    · have e0 : (b == 4) = false := by simpa using t0
      subst t1
      have e2 : (k == 4) = false := by simpa using t2
      have e3 : (k == 8) = false := by simpa using t3
      have e4 : (k == 12) = false := by simpa using t4
      have e5 : (k == 16) = false := by simpa using t5
      go_wp2
      go_meet
      refine ⟨congrArg Value.bool (Bool.eq_iff_iff.2 (Iff.trans ?_ H5.out.symm)), rfl⟩
      first | (simp; done) | (simp; omega) | omega
  obtain ⟨rfl, hwc⟩ := hcut
  rw [hwc]
  clear hwc wc
  rcases Bool.eq_false_or_eq_true B5 with hb | hb
  · have hno : ¬ O := by rw [← HO.out]; intro h'; have h2 := H5.out.1 hb; unfold M.okS at h'; dsimp only at h'; omega
    have HN : Hid (¬ O) := hno
    rw [hb]
    clear hno hb
    go_wp2
    go_ret
    exact ⟨false, rfl, belW, by simp; exact HN.out⟩
  have g5 : (b = 4 ∨ b = 8) ∧ (k = 4 ∨ k = 8 ∨ k = 12 ∨ k = 16) := by
    refine Decidable.byContradiction fun h' => ?_
    have := H5.out.2 h'
    rw [hb] at this
    cases this
  have G5 : Hid _ := g5
  rw [hb]
  clear hb g5
  go_upto_region 7 with fail
  go_cut [84] (fun v wx => v = .bool B7 ∧ wx = W)
  case first =>
    rcases (by omega : (j = 0) ∨ (j ≠ 0 ∧ j ≠ 1) ∨ (j ≠ 0 ∧ j = 1 ∧ h ≠ 2) ∨ (j ≠ 0 ∧ j = 1 ∧ h = 2)) with t0 | ⟨t0, t1⟩ | ⟨t0, t1, t2⟩ | ⟨t0, t1, t2⟩
    · subst t0
      go_wp2
      go_meet
      refine ⟨congrArg Value.bool (Bool.eq_iff_iff.2 (Iff.trans ?_ H7.out.symm)), rfl⟩
      first | (simp; done) | (simp; omega) | omega
    · have e0 : (j == 0) = false := by simpa using t0
      have e1 : (j == 1) = false := by simpa using t1
      go_wp2
      go_meet
      refine ⟨congrArg Value.bool (Bool.eq_iff_iff.2 (Iff.trans ?_ H7.out.symm)), rfl⟩
      first | (simp; done) | (simp; omega) | omega
    · have e0 : (j == 0) = false := by simpa using t0
      subst t1
      have e2 : (h == 2) = false := by simpa using t2
      go_wp2
      go_meet
      refine ⟨congrArg Value.bool (Bool.eq_iff_iff.2 (Iff.trans ?_ H7.out.symm)), rfl⟩
      first | (simp; done) | (simp; omega) | omega
    · have e0 : (j == 0) = false := by simpa using t0
      subst t1
      subst t2
      go_wp2
      go_meet
      refine ⟨congrArg Value.bool (Bool.eq_iff_iff.2 (Iff.trans ?_ H7.out.symm)), rfl⟩
      first | (simp; done) | (simp; omega) | omega
  obtain ⟨rfl, hwc⟩ := hcut
  rw [hwc]
  clear hwc wc
  rcases Bool.eq_false_or_eq_true B7 with hb | hb
  · have hno : ¬ O := by rw [← HO.out]; intro h'; have h2 := H7.out.1 hb; unfold M.okS at h'; dsimp only at h'; omega
    have HN : Hid (¬ O) := hno
    rw [hb]
    clear hno hb
    go_wp2
    go_ret
    exact ⟨false, rfl, belW, by simp; exact HN.out⟩
  have g7 : j = 0 ∨ (j = 1 ∧ h = 2) := by
    refine Decidable.byContradiction fun h' => ?_
    have := H7.out.2 h'
    rw [hb] at this
    cases this
  have G7 : Hid _ := g7
  rw [hb]
  clear hb g7
  go_upto_region 9 with fail
  have gb : 4 ≤ b ∧ b ≤ 8 := by have := G5.out; omega
  have gh : h = 1 ∨ h = 2 := by have := G3.out; omega
  have hend : ∀ q : Bool, (q = true ↔ (2 ≤ p ∧ p ≤ 250 ∧ p ≤ 16 * b * h ∧ z ≤ 4096)) → (q = true ↔ O) := by
    intro q hq
    rw [hq, ← HO.out]
    have g1 := G1.out
    have g3 := G3.out
    have g5 := G5.out
    have g7 := G7.out
    have gz := HZ.out
    unfold M.okS
    rw [gz]
    dsimp only
    constructor
    · rintro ⟨q0, q1, q2, q3⟩
      exact ⟨g1.1, ⟨g3.1, g3.2.1⟩, gh, g5.1, g5.2, by omega, g7, q0, q2, q1, g1.2.1, g1.2.2, q3⟩
    · rintro ⟨_, _, _, _, _, _, _, q0, q2, q1, _, _, q3⟩
      exact ⟨q0, q1, q2, q3⟩
  have HE : Hid _ := hend
  have hd2 : 2 ≤ p → p ≤ 250 → ∀ wx, _ := fun p0 p1 wx => HD.out wx G1.out.1 G5.out.1 gh G5.out.2 (by omega)
  have hbd2 : 2 ≤ p → p ≤ 250 → 32 ≤ z ∧ z ≤ 4200 := fun p0 p1 => HBD.out G5.out.2 (by omega) G5.out.1 gh
  have HD2 : Hid _ := hd2
  have HBD2 : Hid _ := hbd2
  clear hend hd2 hbd2
  rcases gh with rfl | rfl
  · rcases (by omega : (p < 2) ∨ (2 ≤ p ∧ 250 < p) ∨ (2 ≤ p ∧ p ≤ 250 ∧ 16 * b < p) ∨ (2 ≤ p ∧ p ≤ 250 ∧ p ≤ 16 * b)) with t0 | ⟨t0, t1⟩ | ⟨t0, t1, t2⟩ | ⟨t0, t1, t2⟩
    · go_wp2
      go_ret
      exact ⟨_, rfl, belW, HE.out _ (by simp; omega)⟩
    · go_wp2
      go_ret
      exact ⟨_, rfl, belW, HE.out _ (by simp; omega)⟩
    · go_wp2
      go_ret
      exact ⟨_, rfl, belW, HE.out _ (by simp; omega)⟩
    · have hd := HD2.out t0 t1
      have hz := HBD2.out t0 t1
      go_wp2_with (go_at_call 56; refine (hd _).mono ?_; rintro e w2 ⟨rfl, bel2⟩; clear hd)
      go_ret
      exact ⟨_, rfl, belW.trans (bel2.mono belW.size), HE.out _ (by simp; omega)⟩
  · rcases (by omega : (p < 2) ∨ (2 ≤ p ∧ 250 < p) ∨ (2 ≤ p ∧ p ≤ 250 ∧ 32 * b < p) ∨ (2 ≤ p ∧ p ≤ 250 ∧ p ≤ 32 * b)) with t0 | ⟨t0, t1⟩ | ⟨t0, t1, t2⟩ | ⟨t0, t1, t2⟩
    · go_wp2
      go_ret
      exact ⟨_, rfl, belW, HE.out _ (by simp; omega)⟩
    · go_wp2
      go_ret
      exact ⟨_, rfl, belW, HE.out _ (by simp; omega)⟩
    · go_wp2
      go_ret
      exact ⟨_, rfl, belW, HE.out _ (by simp; omega)⟩
    · have hd := HD2.out t0 t1
      have hz := HBD2.out t0 t1
      go_wp2_with (go_at_call 56; refine (hd _).mono ?_; rintro e w2 ⟨rfl, bel2⟩; clear hd)
      go_ret
      exact ⟨_, rfl, belW.trans (bel2.mono belW.size), HE.out _ (by simp; omega)⟩

end Form
end Go.Proofs.YtcaifpjbjghhaaaGreatDoor

/-
  The document's answer for layer 12: which scales are some of a format. Conditions: as told at each.
-/
namespace Go.Proofs.YtcaifpjbjghhaaaGreatDoor
set_option linter.unusedVariables false
open Go.RowKit
namespace Alloc
open Bank (Blk But)
open Poly (alloc_size enc cell_keep below_drew)
open _root_.Go.Proofs.YtcaifpjbjghhaaaGreatDoor.Form (fv fc bel1 blk_below box_cells of_drew box_behind Says)

theorem rSub_ok (f : M.Fmt) (w : World) (h : M.okS f) : Calls Tryz.prog 16 #[fv f] w fun e w' => e = .returned (.bool true) ∧ Below w.heap.size w w' := by
  refine (Form.rSub_any f w).mono ?_
  rintro e w' ⟨q, rfl, hb, hq⟩
  obtain rfl : q = true := hq.2 h
  exact ⟨rfl, hb⟩
theorem rSub_no (f : M.Fmt) (w : World) (h : ¬ M.okS f) : Calls Tryz.prog 16 #[fv f] w fun e w' => e = .returned (.bool false) ∧ Below w.heap.size w w' := by
  refine (Form.rSub_any f w).mono ?_
  rintro e w' ⟨q, rfl, hb, hq⟩
  obtain rfl : q = false := Bool.eq_false_iff.2 (fun h' => h (hq.1 h'))
  exact ⟨rfl, hb⟩

end Alloc
end Go.Proofs.YtcaifpjbjghhaaaGreatDoor

