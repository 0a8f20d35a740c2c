/-
  The law that a number in a few bits comes back at most a step away, and in as many bits the same again. Conditions: none but that the number is an int32.
-/
import Derived.Test.YtbfanglillndnaaQuantAny
import Derived.Deep.CutRange
import Derived.Deep.DeepCutAuto
namespace Go.Proofs.Ytbfanglillndnaa
set_option linter.unusedVariables false
open Go.RowKit
namespace Qnt

set_option maxHeartbeats 4000000 in
theorem QuantNear_walk (x s b : Int) (w : World) (hx : -2147483648 ≤ x ∧ x ≤ 2147483647) : Calls Try.prog 6 #[.int .i32 x, .int .i64 s, .int .i64 b] w fun e w' => e = .returned (.bool true) ∧ Below w.heap.size w w' := by
  by_cases h : M.mayQ s b
  · by_cases hb : b = 0
    · subst hb
      have h1 := fun w => Quant_zero x s w h
      go_enter Try.func6, Try.ntmps6
      go_wp2_with (first
        | (go_at_call 8; refine (alive_any _).mono ?_; rintro e w' ⟨rfl, m0, rfl⟩)
        | (go_at_call 9; refine (h1 _).mono ?_; rintro e w' ⟨rfl, rfl⟩))
      go_ret
      exact ⟨rfl, ⟨rfl, rfl, rfl, Nat.le_refl _, fun _ _ => rfl⟩⟩
    · obtain ⟨h0, h1, h2⟩ := h
      obtain ⟨n, rfl⟩ : ∃ n : Nat, s = n := ⟨s.toNat, by omega⟩
      obtain ⟨k, rfl⟩ : ∃ k : Nat, b = k := ⟨b.toNat, by omega⟩
      have n15 : n ≤ 15 := by omega
      have k2 : 2 ≤ k := by omega
      have k16 : k ≤ 16 := by omega
      have hk : ((k : Int) == 0) = false := by simp; omega
      obtain ⟨R1, R2⟩ := M.rch_bd n15
      obtain ⟨L1, L2, _⟩ := M.lvl_bd k2 k16
      obtain ⟨q0, q1⟩ := M.qz_bd (x := x) (R := M.rch n) (L := M.lvl k) (by omega) (by omega)
      obtain ⟨y0, y1⟩ := M.lz_bd (q := M.qz x (M.rch n) (M.lvl k)) (R := M.rch n) (L := M.lvl k) (by omega) R2 (by omega) q0 q1
      obtain ⟨a0, a1⟩ := M.near_lz (x := x) (R := M.rch n) (L := M.lvl k) (by omega) (by omega)
      have hag : M.lvl k < M.rch n → M.qz (M.lz (M.qz x (M.rch n) (M.lvl k)) (M.rch n) (M.lvl k)) (M.rch n) (M.lvl k) = M.qz x (M.rch n) (M.lvl k) := fun h => M.again_lz (by omega) (by omega) h q0 q1
      obtain ⟨p0, p1⟩ := M.qz_bd (x := M.lz (M.qz x (M.rch n) (M.lvl k)) (M.rch n) (M.lvl k)) (R := M.rch n) (L := M.lvl k) (by omega) (by omega)
      have hq : ∀ x w, -2147483648 ≤ x ∧ x ≤ 2147483647 → Calls Try.prog 9 #[.int .i32 x, .int .i64 (n : Int), .int .i64 (k : Int)] w fun e w' => e = .returned (.tuple #[.int .i64 (M.qz x (M.rch n) (M.lvl k)), .int .i64 0]) ∧ ∃ m, w' = w.drewN m := fun x w hx => Quant_some x n k w hx n15 k2 k16
      have hl : ∀ w, Calls Try.prog 11 #[.int .i64 (M.qz x (M.rch n) (M.lvl k)), .int .i64 (n : Int), .int .i64 (k : Int)] w fun e w' => e = .returned (.tuple #[.int .i32 (M.lz (M.qz x (M.rch n) (M.lvl k)) (M.rch n) (M.lvl k)), .int .i64 0]) ∧ ∃ m, w' = w.drewN m := fun w => Level_some _ n k w n15 k2 k16 q0 q1
      have hQ : ∃ F : Int → Int, F = fun x => M.qz x (M.rch n) (M.lvl k) := ⟨_, rfl⟩
      obtain ⟨F, hF⟩ := hQ
      have fx : ∀ x, M.qz x (M.rch n) (M.lvl k) = F x := fun x => by rw [hF]
      simp only [fx] at *
      generalize M.lz (F x) (M.rch n) (M.lvl k) = y at *
      have eR : 2 * (2 : Int) ^ n = M.rch n := by unfold M.rch; rw [Int.pow_succ, Int.mul_comm]
      have eL : (2 : Int) ^ k - 1 = M.lvl k := rfl
      have HC : Hid (M.clip x (1 - M.rch n) (M.rch n - 1) = min (max x (1 - M.rch n)) (M.rch n - 1)) := by
        show _ = _; unfold M.clip; (repeat' split) <;> omega
      rw [HC.out] at a0 a1
      have t0 : 2 * M.rch n / M.lvl k = (2 * M.rch n).tdiv (M.lvl k) := (Int.tdiv_eq_ediv_of_nonneg (by omega)).symm
      have d0 : 0 ≤ 2 * M.rch n / M.lvl k := Int.ediv_nonneg (by omega) (by omega)
      have d1 : 2 * M.rch n / M.lvl k ≤ 2 * M.rch n := Int.ediv_le_self _ (by omega)
      clear fx hF HC
      have HR : Hid (2 * (2 : Int) ^ n = M.rch n) := eR
      have HL : Hid ((2 : Int) ^ k - 1 = M.lvl k) := eL
      have e1 : (2 : Int) ^ n ≤ 32768 := by omega
      have e2 : 1 ≤ (2 : Int) ^ n := M.pow_pos n
      have e3 : (2 : Int) ^ k ≤ 65536 := by omega
      have e4 : 1 ≤ (2 : Int) ^ k := M.pow_pos k
      clear eR eL
      generalize M.rch n = R at *
      generalize M.lvl k = L at *
      go_enter Try.func6, Try.ntmps6
      go_upto_region 8 with (first
        | (go_at_call 8; refine (alive_any _).mono ?_; rintro e w' ⟨rfl, m0, rfl⟩)
        | (go_at_call 9; refine (hq _ _ (by omega)).mono ?_; rintro e w' ⟨rfl, m1, rfl⟩))
      rw [HR.out, HL.out]
      clear e1 e2 e3 e4 HR HL
      generalize hcd : 2 * R / L = d at *
      by_cases hLR : L < R
      · have hpq := hag hLR
        clear hag
        go_wp2_with (first
          | (go_at_call 9; refine (hq _ _ (by omega)).mono ?_; rintro e w' ⟨rfl, m2, rfl⟩)
          | (go_at_call 11; refine (hl _).mono ?_; rintro e w' ⟨rfl, m3, rfl⟩))
        all_goals (
          go_ret
          exact ⟨rfl, ⟨rfl, rfl, rfl, Nat.le_refl _, fun _ _ => rfl⟩⟩)
      · clear hag
        go_wp2_with (first
          | (go_at_call 9; refine (hq _ _ (by omega)).mono ?_; rintro e w' ⟨rfl, m2, rfl⟩)
          | (go_at_call 11; refine (hl _).mono ?_; rintro e w' ⟨rfl, m3, rfl⟩))
        all_goals (
          go_ret
          exact ⟨rfl, ⟨rfl, rfl, rfl, Nat.le_refl _, fun _ _ => rfl⟩⟩)
  · have h1 := fun w => Quant_no x s b w h
    go_enter Try.func6, Try.ntmps6
    go_wp2_with (first
      | (go_at_call 8; refine (alive_any _).mono ?_; rintro e w' ⟨rfl, m0, rfl⟩)
      | (go_at_call 9; refine (h1 _).mono ?_; rintro e w' ⟨rfl, rfl⟩))
    go_ret
    exact ⟨rfl, ⟨rfl, rfl, rfl, Nat.le_refl _, fun _ _ => rfl⟩⟩

end Qnt
end Go.Proofs.Ytbfanglillndnaa
