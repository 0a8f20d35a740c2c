/-
  Contracts of package quant and of the document's answer: reach, levels, which scale and bits may be, powers of two and divisions. Conditions: as told at each.
-/
import Derived.Test.YtbfanglillndnaaFixRef
import Derived.Test.YtbfanglillndnaaQuantMath
namespace Go.Proofs.Ytbfanglillndnaa
set_option linter.unusedVariables false
open Go.RowKit
namespace Qnt

theorem reachBits_any (s : Nat) (w : World) (h : s ≤ 15) : Calls Try.prog 31 #[.int .i64 (s : Int)] w fun e w' => e = .returned (.int .i64 ((s : Int) + 1)) ∧ w' = w := by
  have h' : (s : Int) ≤ 15 := by omega
  go_enter Try.func31, Try.ntmps31
  go_wp2
  go_ret
  exact ⟨rfl, rfl⟩

theorem reach_any (s : Nat) (w : World) (h : s ≤ 15) : Calls Try.prog 29 #[.int .i64 (s : Int)] w fun e w' => e = .returned (.int .i64 (M.rch s)) ∧ w' = w := by
  have h' : (s : Int) ≤ 15 := by omega
  have hb := M.rch_bd h
  have H : Hid (M.rch s = 2 ^ (s + 1)) := rfl
  go_enter Try.func29, Try.ntmps29
  go_wp2_with (go_at_call 31; refine (reachBits_any s _ h).mono ?_; rintro e w' ⟨rfl, rfl⟩)
  go_ret
  refine ⟨ret_int ?_, rfl⟩
  rw [← H.out]
  exact wrap64_id _ (by omega) (by omega)

theorem levels_any (b : Nat) (w : World) (h : b ≤ 16) : Calls Try.prog 30 #[.int .i64 (b : Int)] w fun e w' => e = .returned (.int .i64 (M.lvl b)) ∧ w' = w := by
  have h' : (b : Int) ≤ 16 := by omega
  have H : Hid (M.lvl b = 2 ^ b - 1) := rfl
  have hp : (2 : Int) ^ b ≤ 65536 := by
    have h1 : 2 ^ b ≤ 2 ^ 16 := Nat.pow_le_pow_right (by omega) h
    have e : ((2 ^ b : Nat) : Int) = (2 : Int) ^ b := by simp
    omega
  have hp0 := M.pow_pos b
  go_enter Try.func30, Try.ntmps30
  go_wp2
  go_ret
  refine ⟨ret_int ?_, rfl⟩
  rw [H.out]

theorem canBe_ok (s b : Int) (w : World) (h : M.mayQ s b) : Calls Try.prog 27 #[.int .i64 s, .int .i64 b] w fun e w' => e = .returned (.bool true) ∧ w' = w := by
  obtain ⟨h0, h1, h2⟩ := h
  rcases h2 with rfl | ⟨h2, h3⟩
  · go_enter Try.func27, Try.ntmps27
    go_wp2
    go_ret
    exact ⟨rfl, rfl⟩
  · go_enter Try.func27, Try.ntmps27
    go_wp2
    go_ret
    exact ⟨rfl, rfl⟩

theorem canBe_no (s b : Int) (w : World) (h : ¬ M.mayQ s b) : Calls Try.prog 27 #[.int .i64 s, .int .i64 b] w fun e w' => e = .returned (.bool false) ∧ w' = w := by
  have H : Hid (¬ M.mayQ s b) := h
  clear h
  go_enter Try.func27, Try.ntmps27
  go_wp2
  all_goals (
    go_ret
    first
      | exact ⟨rfl, rfl⟩
      | (refine ⟨?_, rfl⟩
         have := H.out
         unfold M.mayQ at this
         simp_all <;> omega))

theorem may_ok (s b : Int) (w : World) (h : M.mayQ s b) : Calls Try.prog 32 #[.int .i64 s, .int .i64 b] w fun e w' => e = .returned (.bool true) ∧ w' = w := by
  obtain ⟨h0, h1, h2⟩ := h
  rcases h2 with rfl | ⟨h2, h3⟩
  · go_enter Try.func32, Try.ntmps32
    go_wp2
    go_ret
    exact ⟨rfl, rfl⟩
  · have h4 : (b == 1) = false := by simp; omega
    go_enter Try.func32, Try.ntmps32
    go_wp2
    all_goals (
      go_ret
      first | exact ⟨rfl, rfl⟩ | (refine ⟨?_, rfl⟩; simp_all <;> omega))

theorem may_no (s b : Int) (w : World) (h : ¬ M.mayQ s b) : Calls Try.prog 32 #[.int .i64 s, .int .i64 b] w fun e w' => e = .returned (.bool false) ∧ w' = w := by
  have H : Hid (¬ M.mayQ s b) := h
  clear h
  go_enter Try.func32, Try.ntmps32
  go_wp2
  all_goals (
    go_ret
    first
      | exact ⟨rfl, rfl⟩
      | (refine ⟨?_, rfl⟩
         have := H.out
         unfold M.mayQ at this
         simp_all <;> omega))

theorem power_any (n : Nat) (w : World) (h : n ≤ 62) : Calls Try.prog 33 #[.int .i64 (n : Int)] w fun e w' => e = .returned (.int .i64 (2 ^ n)) ∧ w' = w := by
  have h' : (n : Int) ≤ 62 := by omega
  go_enter Try.func33, Try.ntmps33
  go_wp2
  go_loop [3, 4] (fun x i => ∃ k : Nat, k ≤ n ∧ i = .int .i64 k ∧ x = .int .i64 (2 ^ k)) (fun _ i => n - (intOf i).toNat)
  case atStart => exact ⟨0, by omega, rfl, rfl⟩
  case round =>
    obtain ⟨k, hk, rfl, rfl⟩ := hrel
    by_cases hlt : k < n
    · have hlt' : (k : Int) < n := by omega
      have hp := M.pow_pos k
      have hp2 : (2 : Int) ^ k ≤ 2305843009213693952 := Ref.pow_le61 k (by omega)
      have e : (2 : Int) ^ (k + 1) = 2 ^ k * 2 := Int.pow_succ _ _
      rw [show ((2 : Int) ^ k * 2) = 2 ^ k * 2 from rfl] at e
      have E : Hid ((2 : Int) ^ (k + 1) = 2 ^ k * 2) := e
      clear e
      go_wp2
      go_round
      case rel => exact ⟨k + 1, by omega, by go_num, by rw [E.out] <;> go_num⟩
      case measure => simp [intOf]; omega
    · obtain rfl : k = n := by omega
      go_wp2
      go_ret
      exact ⟨rfl, rfl⟩

theorem power_int (i : Int) (w : World) (h0 : 0 ≤ i) (h : i ≤ 62) : Calls Try.prog 33 #[.int .i64 i] w fun e w' => e = .returned (.int .i64 (2 ^ i.toNat)) ∧ w' = w := by
  obtain ⟨n, rfl⟩ : ∃ n : Nat, i = n := ⟨i.toNat, by omega⟩
  exact power_any n w (by omega)

theorem down_any (n d : Int) (w : World) (hn : -9223372036854775808 ≤ n) (hm : n ≤ 9223372036854775807) (hd : 1 ≤ d) (hd2 : d ≤ 9223372036854775807) :
    Calls Try.prog 34 #[.int .i64 n, .int .i64 d] w fun e w' => e = .returned (.int .i64 (n / d)) ∧ w' = w := by
  have hb := Ref.ediv_bd n d hn hm hd
  have e0 : n.tdiv d * d = n - n.tmod d := by have := Int.mul_tdiv_add_tmod n d; rw [Int.mul_comm] at this; omega
  have r1 := Int.tmod_lt_of_pos n (by omega : 0 < d)
  have r0 : ∀ m : Int, 0 ≤ m → 0 ≤ m.tmod d ∧ m.tmod d ≤ m := fun m h => by
    rw [Int.tmod_eq_emod_of_nonneg h]
    have h1 := Int.emod_nonneg m (by omega : d ≠ 0)
    have h2 := Int.mul_ediv_add_emod m d
    have h3 : 0 ≤ d * (m / d) := Int.mul_nonneg (by omega) (Int.ediv_nonneg h (by omega))
    omega
  have r2 : n < 0 → n ≤ n.tmod d ∧ n.tmod d ≤ 0 := fun h => by
    have := r0 (-n) (by omega)
    rw [Int.neg_tmod] at this
    omega
  have r3 := r0 n
  have K1 : Hid (n.tmod d < 0 → n.tdiv d - 1 = n / d) := fun h => Ref.tdiv_floor n d (by omega) h
  have K2 : Hid (0 ≤ n.tmod d → n.tdiv d = n / d) := fun h => Ref.tdiv_plain n d (by omega) h
  have e1 : -9223372036854775808 ≤ n.tdiv d * d ∧ n.tdiv d * d ≤ 9223372036854775807 := by omega
  obtain ⟨e11, e12⟩ := e1
  go_enter Try.func34, Try.ntmps34
  go_wp2
  · rename_i h
    go_ret
    refine ⟨ret_int ?_, rfl⟩
    rw [K1.out (by omega)]
    exact wrap64_id _ hb.1 hb.2
  · rename_i h
    go_ret
    exact ⟨ret_int (K2.out (by omega)), rfl⟩

end Qnt
end Go.Proofs.Ytbfanglillndnaa
