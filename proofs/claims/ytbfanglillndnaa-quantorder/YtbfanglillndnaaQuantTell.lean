/-
  Contracts of package quant and of the document's answer: the scale of a number, a number in a few bits, and back. Conditions: as told at each.
-/
import Derived.Test.YtbfanglillndnaaQuantWalks
namespace Go.Proofs.Ytbfanglillndnaa
set_option linter.unusedVariables false
open Go.RowKit
namespace Qnt

theorem Scale_any (x : Int) (w : World) : Calls Try.prog 13 #[.int .i64 x] w fun e w' => e = .returned (.int .i64 (M.sc x)) ∧ w' = w := by
  have H0 : Hid (M.sc x = M.scf x 0 15) := rfl
  go_enter Try.func13, Try.ntmps13
  go_wp2
  go_loop [4] (fun i => ∃ k : Nat, k ≤ 15 ∧ i = .int .i64 k ∧ M.sc x = M.scf x k (15 - k)) (fun i => 15 - (intOf i).toNat)
  case atStart => exact ⟨0, by omega, rfl, rfl⟩
  case round =>
    clear H0
    obtain ⟨k, hk, rfl, hs⟩ := hrel
    by_cases hlt : k < 15
    · have hlt' : (k : Int) < 15 := by omega
      have hr := fun w => reach_any k w hk
      have e : 15 - k = (15 - (k + 1)) + 1 := by omega
      rw [e] at hs
      have HS : Hid (M.sc x = M.scf x k (15 - (k + 1) + 1)) := hs
      clear hs e
      have HP : Hid (x < M.rch k → M.scf x k (15 - (k + 1) + 1) = k) := fun h => M.scf_at h
      have HQ : Hid (¬ x < M.rch k → M.scf x k (15 - (k + 1) + 1) = M.scf x (k + 1) (15 - (k + 1))) := fun h => M.scf_past h
      generalize M.rch k = R at *
      go_wp2_with (go_at_call 29; refine (hr _).mono ?_; rintro e w' ⟨rfl, rfl⟩)
      · rename_i h
        go_ret
        exact ⟨ret_int (by rw [HS.out, HP.out h]), rfl⟩
      · rename_i h
        go_round
        case rel => exact ⟨k + 1, by omega, by go_num, by rw [HS.out, HQ.out (by omega)]⟩
        case measure => simp [intOf]; omega
    · obtain rfl : k = 15 := by omega
      have HS : Hid (M.sc x = 15) := hs
      clear hs
      go_wp2
      go_ret
      exact ⟨ret_int (by rw [HS.out]; rfl), rfl⟩

theorem rScale_any (x : Int) (w : World) : Calls Try.prog 14 #[.int .i64 x] w fun e w' => e = .returned (.int .i64 (M.sc x)) ∧ w' = w := by
  have H0 : Hid (M.sc x = M.scf x 0 15) := rfl
  go_enter Try.func14, Try.ntmps14
  go_wp2
  go_loop [3] (fun i => ∃ k : Nat, k ≤ 15 ∧ i = .int .i64 k ∧ M.sc x = M.scf x k (15 - k)) (fun i => 15 - (intOf i).toNat)
  case atStart => exact ⟨0, by omega, rfl, rfl⟩
  case round =>
    clear H0
    obtain ⟨k, hk, rfl, hs⟩ := hrel
    by_cases hlt : k < 15
    · have hlt' : (k : Int) < 15 := by omega
      have hr : ∀ w, Calls Try.prog 33 #[.int .i64 ((k : Int) + 1)] w fun e w' => e = .returned (.int .i64 (M.rch k)) ∧ w' = w := fun w => power_any (k + 1) w (by omega)
      have e : 15 - k = (15 - (k + 1)) + 1 := by omega
      rw [e] at hs
      have HS : Hid (M.sc x = M.scf x k (15 - (k + 1) + 1)) := hs
      clear hs e
      have HP : Hid (x < M.rch k → M.scf x k (15 - (k + 1) + 1) = k) := fun h => M.scf_at h
      have HQ : Hid (¬ x < M.rch k → M.scf x k (15 - (k + 1) + 1) = M.scf x (k + 1) (15 - (k + 1))) := fun h => M.scf_past h
      generalize M.rch k = R at *
      go_wp2_with (go_at_call 33; refine (hr _).mono ?_; rintro e w' ⟨rfl, rfl⟩)
      · rename_i h
        go_ret
        exact ⟨ret_int (by rw [HS.out, HP.out h]), rfl⟩
      · rename_i h
        go_round
        case rel => exact ⟨k + 1, by omega, by go_num, by rw [HS.out, HQ.out (by omega)]⟩
        case measure => simp [intOf]; omega
    · obtain rfl : k = 15 := by omega
      have HS : Hid (M.sc x = 15) := hs
      clear hs
      go_wp2
      go_ret
      exact ⟨ret_int (by rw [HS.out]; rfl), rfl⟩

/-- a number in a few bits -/
def qt (x : Int) (s b : Nat) : Int := if b = 0 then 0 else M.qz x (M.rch s) (M.lvl b)
def lv (q : Int) (s b : Nat) : Int := if b = 0 then 0 else M.lz q (M.rch s) (M.lvl b)
def okL (q : Int) (b : Nat) : Prop := 0 ≤ q ∧ ((b = 0 ∧ q = 0) ∨ (b ≠ 0 ∧ q < M.lvl b))

theorem Quant_zero (x s : Int) (w : World) (h : M.mayQ s 0) : Calls Try.prog 9 #[.int .i32 x, .int .i64 s, .int .i64 0] w fun e w' => e = .returned (.tuple #[.int .i64 0, .int .i64 0]) ∧ w' = w := by
  have hc := fun w => canBe_ok s 0 w h
  go_enter Try.func9, Try.ntmps9
  go_wp2_with (go_at_call 27; refine (hc _).mono ?_; rintro e w' ⟨rfl, rfl⟩)
  go_ret2
  exact ⟨rfl, rfl⟩

theorem Quant_no (x s b : Int) (w : World) (h : ¬ M.mayQ s b) : Calls Try.prog 9 #[.int .i32 x, .int .i64 s, .int .i64 b] w fun e w' => e = .returned (.tuple #[.int .i64 0, .int .i64 1]) ∧ w' = w := by
  have hc := fun w => canBe_no s b w h
  go_enter Try.func9, Try.ntmps9
  go_wp2_with (go_at_call 27; refine (hc _).mono ?_; rintro e w' ⟨rfl, rfl⟩)
  go_ret2
  exact ⟨rfl, rfl⟩

theorem Quant_some (x : Int) (s b : Nat) (w : World) (hx : -2147483648 ≤ x ∧ x ≤ 2147483647) (hs : s ≤ 15) (hb2 : 2 ≤ b) (hb16 : b ≤ 16) : Calls Try.prog 9 #[.int .i32 x, .int .i64 (s : Int), .int .i64 (b : Int)] w fun e w' => e = .returned (.tuple #[.int .i64 (M.qz x (M.rch s) (M.lvl b)), .int .i64 0]) ∧ ∃ m, w' = w.drewN m := by
  have hc := fun w => canBe_ok s b w ⟨by omega, by omega, by omega⟩
  have hb' : ((b : Int) == 0) = false := by simp; omega
  have hr := fun w => reach_any s w hs
  have hl := fun w => levels_any b w hb16
  have hk := fun w => reachBits_any s w hs
  obtain ⟨R1, R2⟩ := M.rch_bd hs
  obtain ⟨L1, L2, _⟩ := M.lvl_bd hb2 hb16
  have HR : Hid (M.rch s = 2 ^ (s + 1)) := rfl
  have c1 : 1 - M.rch s ≤ M.clip x (1 - M.rch s) (M.rch s - 1) := M.le_clip (by omega)
  have c2 : M.clip x (1 - M.rch s) (M.rch s - 1) ≤ M.rch s - 1 := M.clip_le (by omega)
  obtain ⟨p1, p2⟩ := M.prod_bd (by omega) R2 (by omega) L2 c1 c2
  obtain ⟨d1, d2, _⟩ := M.part_bd (by omega) (by omega) c1 c2 (L := M.lvl b)
  have HZ : Hid (M.qz x (M.rch s) (M.lvl b) = (M.clip x (1 - M.rch s) (M.rch s - 1) * M.lvl b / M.rch s + M.lvl b) / 2) := rfl
  have hcl := fun w => Clip_any x (1 - M.rch s) (M.rch s - 1) w
  generalize M.qz x (M.rch s) (M.lvl b) = z at *
  generalize M.clip x (1 - M.rch s) (M.rch s - 1) = c at *
  generalize M.rch s = R at *
  generalize M.lvl b = L at *
  have s15 : (s : Int) ≤ 15 := by omega
  rw [HR.out] at d1 d2 HZ
  go_enter Try.func9, Try.ntmps9
  go_wp2_with (first
    | (go_at_call 27; refine (hc _).mono ?_; rintro e w' ⟨rfl, rfl⟩)
    | (go_at_call 29; refine (hr _).mono ?_; rintro e w' ⟨rfl, rfl⟩)
    | (go_at_call 28; refine (hcl _).mono ?_; rintro e w' ⟨rfl, rfl⟩))
  go_quiet (first
    | (go_at_call 30; exact Calls.quiet_of_same (hl _))
    | (go_at_call 31; exact Calls.quiet_of_same (hk _)))
  go_wp2
  go_ret2
  refine ⟨?_, nq, rfl⟩
  rw [HZ.out]; rfl

theorem rQuant_zero (x s : Int) (w : World) (h : M.mayQ s 0) : Calls Try.prog 10 #[.int .i32 x, .int .i64 s, .int .i64 0] w fun e w' => e = .returned (.tuple #[.int .i64 0, .int .i64 0]) ∧ w' = w := by
  have hc := fun w => may_ok s 0 w h
  go_enter Try.func10, Try.ntmps10
  go_wp2_with (go_at_call 32; refine (hc _).mono ?_; rintro e w' ⟨rfl, rfl⟩)
  go_ret2
  exact ⟨rfl, rfl⟩

theorem rQuant_no (x s b : Int) (w : World) (h : ¬ M.mayQ s b) : Calls Try.prog 10 #[.int .i32 x, .int .i64 s, .int .i64 b] w fun e w' => e = .returned (.tuple #[.int .i64 0, .int .i64 1]) ∧ w' = w := by
  have hc := fun w => may_no s b w h
  go_enter Try.func10, Try.ntmps10
  go_wp2_with (go_at_call 32; refine (hc _).mono ?_; rintro e w' ⟨rfl, rfl⟩)
  go_ret2
  exact ⟨rfl, rfl⟩

theorem clip_hi {x R : Int} (h : R ≤ x) (hR : 1 ≤ R) : M.clip x (1 - R) (R - 1) = R - 1 := by unfold M.clip; rw [if_neg (by omega), if_pos (by omega)]
theorem clip_lo {x R : Int} (h : x ≤ -R) : M.clip x (1 - R) (R - 1) = 1 - R := by unfold M.clip; rw [if_pos (by omega)]
theorem clip_in {x R : Int} (h : x < R) (h2 : -R < x) : M.clip x (1 - R) (R - 1) = x := by unfold M.clip; rw [if_neg (by omega), if_neg (by omega)]

set_option maxHeartbeats 4000000 in
theorem rQuant_some (x : Int) (s b : Nat) (w : World) (hx : -2147483648 ≤ x ∧ x ≤ 2147483647) (hs : s ≤ 15) (hb2 : 2 ≤ b) (hb16 : b ≤ 16) : Calls Try.prog 10 #[.int .i32 x, .int .i64 (s : Int), .int .i64 (b : Int)] w fun e w' => e = .returned (.tuple #[.int .i64 (M.qz x (M.rch s) (M.lvl b)), .int .i64 0]) ∧ w' = w := by
  have hc := fun w => may_ok s b w ⟨by omega, by omega, by omega⟩
  have hb' : ((b : Int) == 0) = false := by simp; omega
  have hr : Hid ((2 : Int) ^ ((s : Int) + 1).toNat = M.rch s) := by show _ = _; rw [show ((s : Int) + 1).toNat = s + 1 from by omega]; rfl
  have hl : Hid ((2 : Int) ^ (b : Int).toNat = M.lvl b + 1) := by show _ = _; unfold M.lvl; simp
  obtain ⟨R1, R2⟩ := M.rch_bd hs
  obtain ⟨L1, L2, _⟩ := M.lvl_bd hb2 hb16
  have c1 : 1 - M.rch s ≤ M.clip x (1 - M.rch s) (M.rch s - 1) := M.le_clip (by omega)
  have c2 : M.clip x (1 - M.rch s) (M.rch s - 1) ≤ M.rch s - 1 := M.clip_le (by omega)
  obtain ⟨p1, p2⟩ := M.prod_bd (by omega) R2 (by omega) L2 c1 c2
  obtain ⟨d1, d2, _⟩ := M.part_bd (by omega) (by omega) c1 c2 (L := M.lvl b)
  have HZ : Hid (M.qz x (M.rch s) (M.lvl b) = (M.clip x (1 - M.rch s) (M.rch s - 1) * M.lvl b / M.rch s + M.lvl b) / 2) := rfl
  have s15 : (s : Int) ≤ 15 := by omega
  have k1 : M.rch s ≤ x → M.clip x (1 - M.rch s) (M.rch s - 1) = M.rch s - 1 := fun h => clip_hi h (by omega)
  have k2 : x ≤ -M.rch s → M.clip x (1 - M.rch s) (M.rch s - 1) = 1 - M.rch s := clip_lo
  have k3 : x < M.rch s → -M.rch s < x → M.clip x (1 - M.rch s) (M.rch s - 1) = x := clip_in
  generalize M.qz x (M.rch s) (M.lvl b) = z at *
  generalize M.clip x (1 - M.rch s) (M.rch s - 1) = c at *
  generalize M.rch s = R at *
  generalize M.lvl b = L at *
  rcases (by omega : R ≤ x ∨ x ≤ -R ∨ (x < R ∧ -R < x)) with h | h | ⟨h, h'⟩
  · obtain rfl := k1 h
    clear k1 k2 k3
    go_enter Try.func10, Try.ntmps10
    go_wp2_with (first
      | (go_at_call 32; refine (hc _).mono ?_; rintro e w' ⟨rfl, rfl⟩)
      | (go_at_call 33; refine (power_int _ _ (by omega) (by omega)).mono ?_; rintro e w' ⟨rfl, rfl⟩; first | rw [hr.out] | rw [hl.out])
      | (go_at_call 34; refine (down_any _ _ _ (by omega) (by omega) (by omega) (by omega)).mono ?_; rintro e w' ⟨rfl, rfl⟩))
    go_ret2
    exact ⟨by rw [HZ.out]; rfl, rfl⟩
  · obtain rfl := k2 h
    clear k1 k2 k3
    go_enter Try.func10, Try.ntmps10
    go_wp2_with (first
      | (go_at_call 32; refine (hc _).mono ?_; rintro e w' ⟨rfl, rfl⟩)
      | (go_at_call 33; refine (power_int _ _ (by omega) (by omega)).mono ?_; rintro e w' ⟨rfl, rfl⟩; first | rw [hr.out] | rw [hl.out])
      | (go_at_call 34; refine (down_any _ _ _ (by omega) (by omega) (by omega) (by omega)).mono ?_; rintro e w' ⟨rfl, rfl⟩))
    go_ret2
    exact ⟨by rw [HZ.out]; rfl, rfl⟩
  · obtain rfl := k3 h h'
    clear k1 k2 k3
    go_enter Try.func10, Try.ntmps10
    go_wp2_with (first
      | (go_at_call 32; refine (hc _).mono ?_; rintro e w' ⟨rfl, rfl⟩)
      | (go_at_call 33; refine (power_int _ _ (by omega) (by omega)).mono ?_; rintro e w' ⟨rfl, rfl⟩; first | rw [hr.out] | rw [hl.out])
      | (go_at_call 34; refine (down_any _ _ _ (by omega) (by omega) (by omega) (by omega)).mono ?_; rintro e w' ⟨rfl, rfl⟩))
    go_ret2
    exact ⟨by rw [HZ.out]; rfl, rfl⟩

end Qnt
end Go.Proofs.Ytbfanglillndnaa
