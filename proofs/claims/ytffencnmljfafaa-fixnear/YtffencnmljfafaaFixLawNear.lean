/-
  The walk of the law FixNear of layer 1 (fix), out of the contracts. Conditions: each number fits its kind.
-/
import Derived.Test.YtffencnmljfafaaFixWalks
import Derived.ProofKit
import Derived.OpenShut
namespace Go.Proofs.Ytffencnmljfafaa
open Go.RowKit
namespace Near

theorem grown_drewN {W w' : World} (h : Grown W w') (n : Nat) : Grown W (w'.drewN n) := h
theorem bd64 {n : Int} (h : (Lit.int .i64 n).wf = true) : -9223372036854775808 ≤ n ∧ n ≤ 9223372036854775807 := by
  simpa [Lit.wf, IntKind.min, IntKind.max, IntKind.signed, IntKind.bits] using h
theorem bd32 {n : Int} (h : (Lit.int .i32 n).wf = true) : -2147483648 ≤ n ∧ n ≤ 2147483647 := by
  simpa [Lit.wf, IntKind.min, IntKind.max, IntKind.signed, IntKind.bits] using h

theorem alive_any (w : World) :
    Calls Try.prog 7 #[] w fun e w' => e = .returned (.bool true) ∧ ∃ m, w' = w.drewN m := by
  have e1 : M.rnd 3 1 = 2 := by decide
  have e2 : M.rnd (-3) 1 = -1 := by decide
  have e3 : M.sat32 (M.rnd 4611686018427387904 31) = 2147483647 := by decide
  have e4 : M.spare 1 = 30 := by decide
  go_enter Try.func7, Try.ntmps7
  go_wp2_with (first
    | (go_at_call 18; refine (Round_any _ _ _ (by decide) (by decide)).mono ?_; rintro e w' ⟨rfl, m, rfl⟩)
    | (go_at_call 13; refine (Mul31_any _ _ _ (by decide) (by decide)).mono ?_; rintro e w' ⟨rfl, m, rfl⟩)
    | (go_at_call 14; refine (Spare_any _ _ (by decide)).mono ?_; rintro e w' ⟨rfl, rfl⟩))
  go_ret
  exact ⟨rfl, _, rfl⟩

theorem pow_le40 (k : Nat) (h : k ≤ 40) : (2 : Int) ^ k ≤ 1099511627776 := by
  have h1 : 2 ^ k ≤ 2 ^ 40 := Nat.pow_le_pow_right (by omega) h
  have e : ((2 ^ k : Nat) : Int) = (2 : Int) ^ k := by simp
  omega

/-- The product of two parts of one is not greater than either. -/
theorem mul31_le (a b : Int) (ha : -2147483648 ≤ a ∧ a ≤ 2147483647) (hb : -2147483648 ≤ b ∧ b ≤ 2147483647) (m : Int) (hm1 : a ≤ m) (hm2 : -a ≤ m) :
    -m ≤ M.sat32 (M.rnd (a * b) 31) ∧ M.sat32 (M.rnd (a * b) 31) ≤ m := by
  have hp := M.mul_bd a b m 2147483648 (by omega) (by omega) (by omega) (by omega)
  have hr : -m ≤ M.rnd (a * b) 31 ∧ M.rnd (a * b) 31 ≤ m := by
    have e : M.rnd (a * b) 31 = (a * b / 1073741824 + 1) / 2 := by
      unfold M.rnd; rw [if_neg (by decide)]; rfl
    rw [e]
    omega
  unfold M.sat32 M.clip
  (repeat' split) <;> omega

/-- A number doubled as often as it may be, and halved as often, is what it was. -/
theorem spare_back (a : Int) (ha : -2147483648 ≤ a ∧ a ≤ 2147483647) : 0 ≤ M.spare a ∧ M.spare a ≤ 31 ∧ wrap32 (a * 2 ^ (M.spare a).toNat) / 2 ^ (M.spare a).toNat = a := by
  have hf := fold_bd a ha
  have hb : M.blen (M.fold a).toNat ≤ 31 := (M.blen_le _ _).2 (by omega)
  have hlt : (M.fold a).toNat < 2 ^ M.blen (M.fold a).toNat := (M.blen_le _ _).1 (Nat.le_refl _)
  unfold M.spare
  refine ⟨by omega, by omega, ?_⟩
  generalize M.blen (M.fold a).toNat = l at *
  obtain ⟨k, hk⟩ : ∃ k : Nat, (31 - (l : Int)).toNat = k ∧ k + l = 31 := ⟨31 - l, by omega⟩
  obtain ⟨hk1, hk2⟩ := hk
  rw [hk1]
  have hpk := M.pow_pos k
  have hpl := M.pow_pos l
  have e : (2 : Int) ^ k * 2 ^ l = 2147483648 := by rw [← Int.pow_add, hk2]; decide
  have hF : M.fold a < 2 ^ l := by
    have e2 : ((2 ^ l : Nat) : Int) = (2 : Int) ^ l := by simp
    omega
  have h1 : -(2 ^ l) ≤ a ∧ a < 2 ^ l := by
    unfold M.fold at hF
    split at hF <;> omega
  have h2 : -2147483648 ≤ a * 2 ^ k ∧ a * 2 ^ k ≤ 2147483647 := by
    generalize (2 : Int) ^ k = P at *
    generalize (2 : Int) ^ l = L at *
    have k1 : 0 ≤ (a + L) * P := Int.mul_nonneg (by omega) (by omega)
    have k2 : 0 < (L - a) * P := Int.mul_pos (by omega) (by omega)
    rw [Int.add_mul, Int.mul_comm L P] at k1
    rw [Int.sub_mul, Int.mul_comm L P] at k2
    omega
  have hw : wrap32 (a * 2 ^ k) = a * 2 ^ k := by
    unfold wrap32; omega
  rw [hw]
  exact Int.mul_ediv_cancel a (by omega)

theorem near_cases (a b : Int) (ha : -2147483648 ≤ a ∧ a ≤ 2147483647) (hb : -2147483648 ≤ b ∧ b ≤ 2147483647) :
    (0 ≤ a ∧ -a ≤ M.sat32 (M.rnd (a * b) 31) ∧ M.sat32 (M.rnd (a * b) 31) ≤ a ∧ (b != 0) = true) ∨
    (0 ≤ a ∧ -a ≤ M.sat32 (M.rnd (a * b) 31) ∧ M.sat32 (M.rnd (a * b) 31) ≤ a ∧ (b != 0) = false ∧ M.sat32 (M.rnd (a * b) 31) = 0) ∨
    (a < 0 ∧ a ≤ M.sat32 (M.rnd (a * b) 31) ∧ M.sat32 (M.rnd (a * b) 31) ≤ -a ∧ (b != 0) = true) ∨
    (a < 0 ∧ a ≤ M.sat32 (M.rnd (a * b) 31) ∧ M.sat32 (M.rnd (a * b) 31) ≤ -a ∧ (b != 0) = false ∧ M.sat32 (M.rnd (a * b) 31) = 0) := by
  have hz : b = 0 → M.sat32 (M.rnd (a * b) 31) = 0 := fun h => by rw [h, Int.mul_zero]; decide
  rcases Int.lt_or_le a 0 with h | h
  · obtain ⟨q1, q2⟩ := mul31_le a b ha hb (-a) (by omega) (by omega)
    by_cases hb0 : b = 0
    · exact .inr (.inr (.inr ⟨h, by omega, q2, by simp [hb0], hz hb0⟩))
    · exact .inr (.inr (.inl ⟨h, by omega, q2, by simp [hb0]⟩))
  · obtain ⟨q1, q2⟩ := mul31_le a b ha hb a (by omega) (by omega)
    by_cases hb0 : b = 0
    · exact .inr (.inl ⟨h, by omega, q2, by simp [hb0], hz hb0⟩)
    · exact .inl ⟨h, by omega, q2, by simp [hb0]⟩

set_option maxHeartbeats 2000000 in
theorem FixNear_in (a0 a1 a2 a3 : Int) (w : World) (b01 : -1152921504606846976 ≤ a0) (b02 : a0 ≤ 1152921504606846976) (b11 : 1 ≤ a1) (b12 : a1 ≤ 40) (b2 : -2147483648 ≤ a2 ∧ a2 ≤ 2147483647) (b3 : -2147483648 ≤ a3 ∧ a3 ≤ 2147483647) :
    Calls Try.prog 5 #[.int .i64 a0, .int .i64 a1, .int .i32 a2, .int .i32 a3] w fun e w' => e = .returned (.bool true) ∧ Grown w w' := by
  have hn := M.rnd_near a0 a1 b11 (by omega)
  rw [show (a1 - 1).toNat = a1.toNat - 1 from by omega] at hn
  obtain ⟨hn1, hn2⟩ := hn
  have p1 := M.pow_pos a1.toNat
  have p2 := M.pow_pos (a1.toNat - 1)
  have p3 : (2 : Int) ^ a1.toNat ≤ 1099511627776 := pow_le40 a1.toNat (by omega)
  have p4 : (2 : Int) ^ (a1.toNat - 1) ≤ 1099511627776 := pow_le40 (a1.toNat - 1) (by omega)
  obtain ⟨s1, s2, s3⟩ := spare_back a2 b2
  have c1 : M.rnd (a3 * a2) 31 = M.rnd (a2 * a3) 31 := by rw [Int.mul_comm]
  have c2 : M.sat32 (a3 + a2) = M.sat32 (a2 + a3) := by rw [Int.add_comm]
  rcases near_cases a2 a3 b2 b3 with ⟨hx, q1, q2, hy⟩ | ⟨hx, q1, q2, hy, hz⟩ | ⟨hx, q1, q2, hy⟩ | ⟨hx, q1, q2, hy, hz⟩
  all_goals
    go_enter Try.func5, Try.ntmps5
    go_wp2_with (first
        | (go_at_call 7; refine (alive_any _).mono ?_; rintro e w' ⟨rfl, m, rfl⟩)
        | (go_at_call 18; refine (Round_any _ _ _ (by omega) (by omega)).mono ?_; rintro e w' ⟨rfl, m, rfl⟩)
        | (go_at_call 14; refine (Spare_any _ _ (by omega)).mono ?_; rintro e w' ⟨rfl, rfl⟩)
        | (go_at_call 13; refine (Mul31_any _ _ _ (by omega) (by omega)).mono ?_; rintro e w' ⟨rfl, m, rfl⟩)
        | (go_at_call 8; refine (Add_any _ _ _ (by omega) (by omega)).mono ?_; rintro e w' ⟨rfl, rfl⟩))
    go_ret
    exact ⟨rfl, grown_drewN (Grown.refl _) _⟩

set_option maxHeartbeats 2000000 in
theorem FixNear_out (a0 a1 a2 a3 : Int) (w : World) (hg : a1 < 1 ∨ (1 ≤ a1 ∧ 40 < a1) ∨ (1 ≤ a1 ∧ a1 ≤ 40 ∧ a0 < -1152921504606846976) ∨ (1 ≤ a1 ∧ a1 ≤ 40 ∧ -1152921504606846976 ≤ a0 ∧ 1152921504606846976 < a0)) (b2 : -2147483648 ≤ a2 ∧ a2 ≤ 2147483647) (b3 : -2147483648 ≤ a3 ∧ a3 ≤ 2147483647) :
    Calls Try.prog 5 #[.int .i64 a0, .int .i64 a1, .int .i32 a2, .int .i32 a3] w fun e w' => e = .returned (.bool true) ∧ Grown w w' := by
  obtain ⟨s1, s2, s3⟩ := spare_back a2 b2
  have c1 : M.rnd (a3 * a2) 31 = M.rnd (a2 * a3) 31 := by rw [Int.mul_comm]
  have c2 : M.sat32 (a3 + a2) = M.sat32 (a2 + a3) := by rw [Int.add_comm]
  rcases near_cases a2 a3 b2 b3 with ⟨hx, q1, q2, hy⟩ | ⟨hx, q1, q2, hy, hz⟩ | ⟨hx, q1, q2, hy⟩ | ⟨hx, q1, q2, hy, hz⟩
  all_goals rcases hg with hg | ⟨hg1, hg2⟩ | ⟨hg1, hg2, hg3⟩ | ⟨hg1, hg2, hg3, hg4⟩
  all_goals
    go_enter Try.func5, Try.ntmps5
    go_wp2_with (first
        | (go_at_call 7; refine (alive_any _).mono ?_; rintro e w' ⟨rfl, m, rfl⟩)
        | (go_at_call 18; refine (Round_any _ _ _ (by omega) (by omega)).mono ?_; rintro e w' ⟨rfl, m, rfl⟩)
        | (go_at_call 14; refine (Spare_any _ _ (by omega)).mono ?_; rintro e w' ⟨rfl, rfl⟩)
        | (go_at_call 13; refine (Mul31_any _ _ _ (by omega) (by omega)).mono ?_; rintro e w' ⟨rfl, m, rfl⟩)
        | (go_at_call 8; refine (Add_any _ _ _ (by omega) (by omega)).mono ?_; rintro e w' ⟨rfl, rfl⟩))
    go_ret
    exact ⟨rfl, grown_drewN (Grown.refl _) _⟩

end Near

theorem FixNear_walk (a0 a1 a2 a3 : Int) (w2 : (Lit.int .i32 a2).wf = true) (w3 : (Lit.int .i32 a3).wf = true) (w : World) :
    Calls Try.prog 5 #[.int .i64 a0, .int .i64 a1, .int .i32 a2, .int .i32 a3] w fun e w' => e = .returned (.bool true) ∧ Grown w w' := by
  have b2 := Near.bd32 w2
  have b3 := Near.bd32 w3
  by_cases h : -1152921504606846976 ≤ a0 ∧ a0 ≤ 1152921504606846976 ∧ 1 ≤ a1 ∧ a1 ≤ 40
  · exact Near.FixNear_in a0 a1 a2 a3 w h.1 h.2.1 h.2.2.1 h.2.2.2 b2 b3
  · exact Near.FixNear_out a0 a1 a2 a3 w (by omega) b2 b3

end Go.Proofs.Ytffencnmljfafaa
