/-
  Contracts of the document's answers for layer 1 (package psalteryref01). Conditions: each number fits its kind; products fit 64 bits.
-/
import Derived.Test.YtbfanglillndnaaFixWalks
namespace Go.Proofs.Ytbfanglillndnaa
open Go.RowKit
namespace Ref

theorem tdiv_floor (n d : Int) (hd : 0 < d) (h : n.tmod d < 0) : n.tdiv d - 1 = n / d := by
  have e1 := Int.tmod_eq_emod (a := n) (b := d)
  have h1 := Int.emod_nonneg n (by omega : d ≠ 0)
  rw [Int.tdiv_eq_ediv]
  split
  · rename_i c; rw [if_pos c] at e1; omega
  · rw [Int.sign_eq_one_of_pos hd]; omega

theorem tdiv_plain (n d : Int) (hd : 0 < d) (h : 0 ≤ n.tmod d) : n.tdiv d = n / d := by
  have e1 := Int.tmod_eq_emod (a := n) (b := d)
  have h2 := Int.emod_lt_of_pos n hd
  rw [Int.tdiv_eq_ediv]
  split
  · omega
  · rename_i c; rw [if_neg c] at e1; omega

theorem ediv_bd (n d : Int) (hn : -9223372036854775808 ≤ n) (hm : n ≤ 9223372036854775807) (hd : 1 ≤ d) : -9223372036854775808 ≤ n / d ∧ n / d ≤ 9223372036854775807 := by
  constructor
  · rw [Int.le_ediv_iff_mul_le (by omega)]
    have : 9223372036854775808 * 1 ≤ 9223372036854775808 * d := Int.mul_le_mul_of_nonneg_left hd (by omega)
    omega
  · apply Int.ediv_le_of_le_mul (by omega)
    have : 9223372036854775807 * 1 ≤ 9223372036854775807 * d := Int.mul_le_mul_of_nonneg_left hd (by omega)
    omega

theorem Sat_any (n : Int) (w : World) (hn : -9223372036854775808 ≤ n) (hm : n ≤ 9223372036854775807) :
    Calls Try.prog 41 #[.int .i64 n, .int .i64 32] w fun e w' => e = .returned (.int .i64 (M.sat32 n)) ∧ w' = w := by
  go_enter Try.func41, Try.ntmps41
  go_wp2
  all_goals (go_ret; exact ⟨ret_int (by unfold M.sat32 M.clip; (repeat' split) <;> omega), rfl⟩)

theorem pow_le61 (k : Nat) (h : k ≤ 61) : (2 : Int) ^ k ≤ 2305843009213693952 := by
  have h1 : 2 ^ k ≤ 2 ^ 61 := Nat.pow_le_pow_right (by omega) h
  have e : ((2 ^ k : Nat) : Int) = (2 : Int) ^ k := by simp
  omega

theorem div_bd (n : Int) (k : Nat) (h1 : -9223372036854775808 ≤ n) (h2 : n ≤ 9223372036854775806) : -9223372036854775808 ≤ n / 2 ^ k ∧ n / 2 ^ k ≤ 9223372036854775806 := by
  have hp := M.pow_pos k
  have h := ediv_bd n (2 ^ k) h1 (by omega) hp
  refine ⟨h.1, ?_⟩
  apply Int.ediv_le_of_le_mul hp
  have : 9223372036854775806 * 1 ≤ 9223372036854775806 * (2 : Int) ^ k := Int.mul_le_mul_of_nonneg_left hp (by omega)
  omega

theorem rnd_in (n s : Int) (h1 : 1 ≤ s) (h2 : s ≤ 62) : M.rnd n s = (n / 2 ^ (s.toNat - 1) + 1) / 2 := by
  unfold M.rnd
  rw [M.clip_id (by omega) h2, if_neg (by omega), show (s - 1).toNat = s.toNat - 1 from by omega]

/-- what is doubled at most as often as it may be fits; doubled once more it doesn't -/
theorem dbl (a : Int) (ha : -2147483648 ≤ a ∧ a ≤ 2147483647) (k : Nat) (hk : k ≤ 31) : ((k : Int) ≤ M.spare a ↔ (-2147483648 ≤ a * 2 ^ k ∧ a * 2 ^ k ≤ 2147483647)) := by
  have hf := fold_bd a ha
  have hb : M.blen (M.fold a).toNat ≤ 31 := (M.blen_le _ _).2 (by omega)
  have hiff := M.blen_le (M.fold a).toNat (31 - k)
  have e : (2 : Int) ^ k * 2 ^ (31 - k) = 2147483648 := by rw [← Int.pow_add, show k + (31 - k) = 31 from by omega]; decide
  have e2 : ((2 ^ (31 - k) : Nat) : Int) = (2 : Int) ^ (31 - k) := by simp
  have hp := M.pow_pos k
  have hq := M.pow_pos (31 - k)
  have h1 : (k : Int) ≤ M.spare a ↔ M.blen (M.fold a).toNat ≤ 31 - k := by unfold M.spare; omega
  rw [h1, hiff]
  have h2 : (M.fold a).toNat < 2 ^ (31 - k) ↔ M.fold a < (2 : Int) ^ (31 - k) := by rw [← e2]; omega
  rw [h2]
  have h3 : M.fold a < (2 : Int) ^ (31 - k) ↔ (-(2 : Int) ^ (31 - k) ≤ a ∧ a < (2 : Int) ^ (31 - k)) := by
    unfold M.fold; split <;> omega
  rw [h3]
  generalize (2 : Int) ^ k = P at *
  generalize (2 : Int) ^ (31 - k) = L at *
  constructor
  · intro ⟨g1, g2⟩
    have k1 : 0 ≤ (a + L) * P := Int.mul_nonneg (by omega) (by omega)
    have k2 : 0 < (L - a) * P := Int.mul_pos (by omega) (by omega)
    rw [Int.add_mul, Int.mul_comm L P] at k1
    rw [Int.sub_mul, Int.mul_comm L P] at k2
    omega
  · intro ⟨g1, g2⟩
    constructor
    · rcases Int.lt_or_le a (-L) with h | h
      · have k1 : 0 < (-L - a) * P := Int.mul_pos (by omega) (by omega)
        rw [Int.sub_mul, Int.neg_mul, Int.mul_comm L P] at k1
        omega
      · exact h
    · rcases Int.lt_or_le a L with h | h
      · exact h
      · have k1 : 0 ≤ (a - L) * P := Int.mul_nonneg (by omega) (by omega)
        rw [Int.sub_mul, Int.mul_comm L P] at k1
        omega

theorem spare_le (a : Int) : M.spare a ≤ 31 := by unfold M.spare; omega

/-- One round of counting doublings, as cases. -/
theorem dbl_cases (a : Int) (ha : -2147483648 ≤ a ∧ a ≤ 2147483647) (k : Nat) (hk : (k : Int) ≤ M.spare a) (x : Int) (hx : x = a * 2 ^ k) :
    (k < 31 ∧ x * 2 ≤ 2147483647 ∧ -2147483648 ≤ x * 2 ∧ ((k + 1 : Nat) : Int) ≤ M.spare a ∧ x * 2 = a * 2 ^ (k + 1)) ∨
    (M.spare a = k ∧ (31 ≤ k ∨ (k < 31 ∧ 2147483647 < x * 2) ∨ (k < 31 ∧ x * 2 ≤ 2147483647 ∧ x * 2 < -2147483648))) := by
  have hs := spare_le a
  have e : x * 2 = a * 2 ^ (k + 1) := by rw [hx, Int.pow_succ, Int.mul_assoc]
  rcases Int.lt_or_le (k : Int) (M.spare a) with h | h
  · have g := (dbl a ha (k + 1) (by omega)).1 (by omega)
    rw [← e] at g
    exact .inl ⟨by omega, g.2, g.1, by omega, e⟩
  · refine .inr ⟨by omega, ?_⟩
    rcases Nat.lt_or_ge k 31 with h31 | h31
    · have g := (dbl a ha (k + 1) (by omega))
      rw [← e] at g
      have : ¬ (-2147483648 ≤ x * 2 ∧ x * 2 ≤ 2147483647) := fun c => by have := g.2 c; omega
      omega
    · exact .inl h31

end Ref
end Go.Proofs.Ytbfanglillndnaa
