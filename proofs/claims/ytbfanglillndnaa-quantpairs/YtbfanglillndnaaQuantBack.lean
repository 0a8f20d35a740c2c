/-
  Contracts of package quant and of the document's answer: the number of a few bits. Conditions: as told at each.
-/
import Derived.Test.YtbfanglillndnaaQuantWalks
namespace Go.Proofs.Ytbfanglillndnaa
set_option linter.unusedVariables false
open Go.RowKit
namespace Qnt

/-- a level that there isn't -/
def noL (q s b : Int) : Prop := ¬ M.mayQ s b ∨ q < 0 ∨ (b = 0 ∧ 1 ≤ q) ∨ (2 ≤ b ∧ 2 ^ b.toNat - 1 ≤ q)

theorem Level_zero (s : Int) (w : World) (h : M.mayQ s 0) : Calls Try.prog 11 #[.int .i64 0, .int .i64 s, .int .i64 0] w fun e w' => e = .returned (.tuple #[.int .i32 0, .int .i64 0]) ∧ w' = w := by
  have hc := fun w => canBe_ok s 0 w h
  have hl := fun w => levels_any 0 w (by omega)
  go_enter Try.func11, Try.ntmps11
  go_wp2_with (first
    | (go_at_call 27; refine (hc _).mono ?_; rintro e w' ⟨rfl, rfl⟩)
    | (go_at_call 30; refine (hl _).mono ?_; rintro e w' ⟨rfl, rfl⟩; rw [show M.lvl 0 = 0 from rfl]))
  go_ret2
  exact ⟨rfl, rfl⟩

theorem Level_no (q s b : Int) (w : World) (h : noL q s b) : Calls Try.prog 11 #[.int .i64 q, .int .i64 s, .int .i64 b] w fun e w' => e = .returned (.tuple #[.int .i32 0, .int .i64 1]) ∧ w' = w := by
  by_cases hm : M.mayQ s b
  · have hc := fun w => canBe_ok s b w hm
    obtain ⟨h0, h1, h2⟩ := hm
    by_cases hq : q < 0
    · clear h
      go_enter Try.func11, Try.ntmps11
      go_wp2_with (go_at_call 27; refine (hc _).mono ?_; rintro e w' ⟨rfl, rfl⟩)
      go_ret2
      exact ⟨rfl, rfl⟩
    · rcases h with h | h | ⟨rfl, h⟩ | ⟨h3, h⟩
      · exact absurd ⟨h0, h1, h2⟩ h
      · omega
      · have hl := fun w => levels_any 0 w (by omega)
        go_enter Try.func11, Try.ntmps11
        go_wp2_with (first
          | (go_at_call 27; refine (hc _).mono ?_; rintro e w' ⟨rfl, rfl⟩)
          | (go_at_call 30; refine (hl _).mono ?_; rintro e w' ⟨rfl, rfl⟩; rw [show M.lvl 0 = 0 from rfl]))
        go_ret2
        exact ⟨rfl, rfl⟩
      · obtain ⟨n, rfl⟩ : ∃ n : Nat, b = n := ⟨b.toNat, by omega⟩
        have hl := fun w => levels_any n w (by omega)
        have hb := M.lvl_bd (b := n) (by omega) (by omega)
        have h' : M.lvl n ≤ q := h
        obtain ⟨hb1, hb2, _⟩ := hb
        clear h
        generalize M.lvl n = L at *
        go_enter Try.func11, Try.ntmps11
        go_wp2_with (first
          | (go_at_call 27; refine (hc _).mono ?_; rintro e w' ⟨rfl, rfl⟩)
          | (go_at_call 30; refine (hl _).mono ?_; rintro e w' ⟨rfl, rfl⟩))
        go_ret2
        exact ⟨rfl, rfl⟩
  · have hc := fun w => canBe_no s b w hm
    clear h
    go_enter Try.func11, Try.ntmps11
    go_wp2_with (go_at_call 27; refine (hc _).mono ?_; rintro e w' ⟨rfl, rfl⟩)
    go_ret2
    exact ⟨rfl, rfl⟩

set_option maxHeartbeats 4000000 in
theorem Level_some (q : Int) (s b : Nat) (w : World) (hs : s ≤ 15) (hb2 : 2 ≤ b) (hb16 : b ≤ 16) (q0 : 0 ≤ q) (q1 : q < M.lvl b) : Calls Try.prog 11 #[.int .i64 q, .int .i64 (s : Int), .int .i64 (b : Int)] w fun e w' => e = .returned (.tuple #[.int .i32 (M.lz q (M.rch s) (M.lvl b)), .int .i64 0]) ∧ ∃ m, w' = w.drewN m := by
  have hc := fun w => canBe_ok s b w ⟨by omega, by omega, by omega⟩
  have hb' : ((b : Int) == 0) = false := by simp; omega
  have hr := fun w => reach_any s w hs
  have hl := fun w => levels_any b w hb16
  have hk := fun w => reachBits_any s w hs
  obtain ⟨R1, R2⟩ := M.rch_bd hs
  obtain ⟨L1, L2, _⟩ := M.lvl_bd hb2 hb16
  have hp : 0 ≤ (2 * q + 1) * 2 ^ (s + 1) ∧ (2 * q + 1) * 2 ^ (s + 1) ≤ 8589934592 := M.lzp_bd (q := q) (R := M.rch s) (by omega) R2 q0 (by omega)
  obtain ⟨p1, p2⟩ := hp
  obtain ⟨z1, z2⟩ := M.lz_bd (by omega) R2 (by omega) q0 q1
  have HZ : Hid (M.lz q (M.rch s) (M.lvl b) = (2 * q + 1) * 2 ^ (s + 1) / M.lvl b - M.rch s) := rfl
  have d1 : -65536 ≤ (2 * q + 1) * 2 ^ (s + 1) / M.lvl b - M.rch s := by rw [← HZ.out]; omega
  have d2 : (2 * q + 1) * 2 ^ (s + 1) / M.lvl b - M.rch s ≤ 131072 := by rw [← HZ.out]; omega
  generalize M.lz q (M.rch s) (M.lvl b) = z at *
  generalize M.rch s = R at *
  generalize M.lvl b = L at *
  have s15 : (s : Int) ≤ 15 := by omega
  go_enter Try.func11, Try.ntmps11
  go_wp2_with (first
    | (go_at_call 27; refine (hc _).mono ?_; rintro e w' ⟨rfl, rfl⟩)
    | (go_at_call 30; refine (hl _).mono ?_; rintro e w' ⟨rfl, rfl⟩))
  go_quiet (first
    | (go_at_call 30; exact Calls.quiet_of_same (hl _))
    | (go_at_call 29; exact Calls.quiet_of_same (hr _))
    | (go_at_call 31; exact Calls.quiet_of_same (hk _)))
  go_wp2
  go_ret2
  exact ⟨by rw [HZ.out]; rfl, nq, rfl⟩

theorem rLevel_zero (s : Int) (w : World) (h : M.mayQ s 0) : Calls Try.prog 12 #[.int .i64 0, .int .i64 s, .int .i64 0] w fun e w' => e = .returned (.tuple #[.int .i32 0, .int .i64 0]) ∧ w' = w := by
  have hc := fun w => may_ok s 0 w h
  go_enter Try.func12, Try.ntmps12
  go_wp2_with (go_at_call 32; refine (hc _).mono ?_; rintro e w' ⟨rfl, rfl⟩)
  go_ret2
  exact ⟨rfl, rfl⟩

theorem rLevel_no (q s b : Int) (w : World) (h : noL q s b) : Calls Try.prog 12 #[.int .i64 q, .int .i64 s, .int .i64 b] w fun e w' => e = .returned (.tuple #[.int .i32 0, .int .i64 1]) ∧ w' = w := by
  by_cases hm : M.mayQ s b
  · have hc := fun w => may_ok s b w hm
    obtain ⟨h0, h1, h2⟩ := hm
    by_cases hq : q < 0
    · clear h
      go_enter Try.func12, Try.ntmps12
      go_wp2_with (go_at_call 32; refine (hc _).mono ?_; rintro e w' ⟨rfl, rfl⟩)
      go_ret2
      exact ⟨rfl, rfl⟩
    · rcases h with h | h | ⟨rfl, h⟩ | ⟨h3, h⟩
      · exact absurd ⟨h0, h1, h2⟩ h
      · omega
      · have hq' : (q == 0) = false := by simp; omega
        go_enter Try.func12, Try.ntmps12
        go_wp2_with (go_at_call 32; refine (hc _).mono ?_; rintro e w' ⟨rfl, rfl⟩)
        go_ret2
        exact ⟨rfl, rfl⟩
      · obtain ⟨n, rfl⟩ : ∃ n : Nat, b = n := ⟨b.toNat, by omega⟩
        have hl : ∀ w, Calls Try.prog 33 #[.int .i64 (n : Int)] w fun e w' => e = .returned (.int .i64 (M.lvl n + 1)) ∧ w' = w := fun w => (power_any n w (by omega)).mono (by rintro e w' ⟨rfl, rfl⟩; exact ⟨ret_int (by unfold M.lvl; omega), rfl⟩)
        have hb := M.lvl_bd (b := n) (by omega) (by omega)
        have h' : M.lvl n ≤ q := h
        have hn' : ((n : Int) == 0) = false := by simp; omega
        obtain ⟨hb1, hb2, _⟩ := hb
        clear h
        generalize M.lvl n = L at *
        go_enter Try.func12, Try.ntmps12
        go_wp2_with (first
          | (go_at_call 32; refine (hc _).mono ?_; rintro e w' ⟨rfl, rfl⟩)
          | (go_at_call 33; refine (hl _).mono ?_; rintro e w' ⟨rfl, rfl⟩))
        go_ret2
        exact ⟨rfl, rfl⟩
  · have hc := fun w => may_no s b w hm
    clear h
    go_enter Try.func12, Try.ntmps12
    go_wp2_with (go_at_call 32; refine (hc _).mono ?_; rintro e w' ⟨rfl, rfl⟩)
    go_ret2
    exact ⟨rfl, rfl⟩

set_option maxHeartbeats 4000000 in
theorem rLevel_some (q : Int) (s b : Nat) (w : World) (hs : s ≤ 15) (hb2 : 2 ≤ b) (hb16 : b ≤ 16) (q0 : 0 ≤ q) (q1 : q < M.lvl b) : Calls Try.prog 12 #[.int .i64 q, .int .i64 (s : Int), .int .i64 (b : Int)] w fun e w' => e = .returned (.tuple #[.int .i32 (M.lz q (M.rch s) (M.lvl b)), .int .i64 0]) ∧ w' = w := by
  have hc := fun w => may_ok s b w ⟨by omega, by omega, by omega⟩
  have hb' : ((b : Int) == 0) = false := by simp; omega
  have hr : Hid ((2 : Int) ^ ((s : Int) + 1).toNat = M.rch s) := by show _ = _; rw [show ((s : Int) + 1).toNat = s + 1 from by omega]; rfl
  have hl : Hid ((2 : Int) ^ (b : Int).toNat = M.lvl b + 1) := by show _ = _; unfold M.lvl; simp
  obtain ⟨R1, R2⟩ := M.rch_bd hs
  obtain ⟨L1, L2, _⟩ := M.lvl_bd hb2 hb16
  obtain ⟨p1, p2⟩ := M.lzp_bd (q := q) (by omega) R2 q0 (by omega)
  obtain ⟨z1, z2⟩ := M.lz_bd (by omega) R2 (by omega) q0 q1
  have HZ : Hid (M.lz q (M.rch s) (M.lvl b) = (2 * q + 1) * M.rch s / M.lvl b - M.rch s) := rfl
  have d1 : -2147483648 ≤ (2 * q + 1) * M.rch s / M.lvl b - M.rch s := by rw [← HZ.out]; omega
  have d2 : (2 * q + 1) * M.rch s / M.lvl b - M.rch s ≤ 2147483647 := by rw [← HZ.out]; omega
  generalize M.lz q (M.rch s) (M.lvl b) = z at *
  generalize M.rch s = R at *
  generalize M.lvl b = L at *
  have s15 : (s : Int) ≤ 15 := by omega
  go_enter Try.func12, Try.ntmps12
  go_wp2_with (first
    | (go_at_call 32; refine (hc _).mono ?_; rintro e w' ⟨rfl, rfl⟩)
    | (go_at_call 33; refine (power_int _ _ (by omega) (by omega)).mono ?_; rintro e w' ⟨rfl, rfl⟩; first | rw [hr.out] | rw [hl.out])
    | (go_at_call 34; refine (down_any _ _ _ (by omega) (by omega) (by omega) (by omega)).mono ?_; rintro e w' ⟨rfl, rfl⟩))
  go_ret2
  exact ⟨by rw [HZ.out]; rfl, rfl⟩

end Qnt
end Go.Proofs.Ytbfanglillndnaa
