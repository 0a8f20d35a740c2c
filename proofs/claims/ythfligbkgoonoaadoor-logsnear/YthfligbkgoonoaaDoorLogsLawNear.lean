/-
  The walk of the law LogsNear of layer 2 (logs), and facts for LogsGrow, out of the contracts. Conditions: each number fits its kind; the table of the roots of two stands as its initialiser lays it.
-/
import Derived.Test.YthfligbkgoonoaaDoorLogsLaws
import Derived.Test.YthfligbkgoonoaaDoorLogsFar
namespace Go.Proofs.YthfligbkgoonoaaDoor
open Go.RowKit
namespace Logs

theorem expe_01 (q : Int) : (M.expeI q = 1) ∨ (M.expeI q = 0 ∧ -4096 ≤ q ∧ q ≤ 7680 ∧ M.expI q = M.exp q) := by
  unfold M.expeI M.expI
  split
  · rename_i h; exact Or.inr ⟨rfl, h.1, h.2, rfl⟩
  · exact Or.inl rfl
theorem near_facts (q : Int) (h0 : -4096 ≤ q) (h1 : q ≤ 7680) (h2 : M.expI q = M.exp q) (hy : ¬ M.expI q < 65536) :
    M.logeI (M.expI q) = 0 ∧ -2 ≤ M.logI (M.expI q) - 4096 - q ∧ M.logI (M.expI q) - 4096 - q ≤ 2 ∧ 0 ≤ M.expI q ∧ M.expI q ≤ 18446744073709551615 := by
  have hb := M.exp_bd h0 h1
  have hnear := M.exp_near h0 h1 (by omega)
  unfold M.logeI M.logI
  rw [h2] at hy ⊢
  rw [if_neg (by omega), if_neg (by omega), Int.toNat_natCast]
  omega

set_option maxHeartbeats 1000000 in
theorem LogsNear_walk (a0 : Int) (w : World) (hT : Tab w) :
    Calls Tryd.prog 6 #[.int .i32 a0] w fun e w' => e = .returned (.bool true) ∧ Grown w w' := by
  rcases expe_01 a0 with he | ⟨he, c0, c1, hx⟩
  · go_enter Tryd.func6, Tryd.ntmps6
    go_wp2_with (first
      | (go_at_call 7; refine (alive_any _ hT).mono ?_; rintro e w' ⟨rfl, m, rfl⟩)
      | (go_at_call 14; refine (Exp_all _ _ (Tab.drewN hT _)).mono ?_; rintro e w' ⟨rfl, m, rfl⟩))
    go_ret
    exact ⟨rfl, grown_drewN (Grown.refl _) _⟩
  · by_cases hy : M.expI a0 < 65536
    · clear hx
      go_enter Tryd.func6, Tryd.ntmps6
      go_wp2_with (first
        | (go_at_call 7; refine (alive_any _ hT).mono ?_; rintro e w' ⟨rfl, m, rfl⟩)
        | (go_at_call 14; refine (Exp_all _ _ (Tab.drewN hT _)).mono ?_; rintro e w' ⟨rfl, m, rfl⟩))
      go_ret
      exact ⟨rfl, grown_drewN (Grown.refl _) _⟩
    · obtain ⟨n1, n2, n3, n4, n5⟩ := near_facts a0 c0 c1 hx hy
      clear hx
      go_enter Tryd.func6, Tryd.ntmps6
      go_wp2_with (first
        | (go_at_call 7; refine (alive_any _ hT).mono ?_; rintro e w' ⟨rfl, m, rfl⟩)
        | (go_at_call 14; refine (Exp_all _ _ (Tab.drewN hT _)).mono ?_; rintro e w' ⟨rfl, m, rfl⟩)
        | (go_at_call 8; refine (Log_all _ _ n4 n5).mono ?_; rintro e w' ⟨rfl, rfl⟩))
      go_ret
      exact ⟨rfl, grown_drewN (Grown.refl _) _⟩

/-- what two powers are, as the law tests it -/
theorem exps (p q : Int) : M.expeI p = 1 ∨ (M.expeI p = 0 ∧ M.expeI q = 1) ∨ (M.expeI p = 0 ∧ M.expeI q = 0 ∧ q < p) ∨ (M.expeI p = 0 ∧ M.expeI q = 0 ∧ p ≤ q ∧ M.expI p ≤ M.expI q) := by
  rcases expe_01 p with h | ⟨h, a0, a1, a2⟩
  · exact Or.inl h
  · rcases expe_01 q with g | ⟨g, b0, b1, b2⟩
    · exact Or.inr (Or.inl ⟨h, g⟩)
    · rcases Int.lt_or_le q p with k | k
      · exact Or.inr (Or.inr (Or.inl ⟨h, g, k⟩))
      · have := M.exp_mono a0 k b1
        exact Or.inr (Or.inr (Or.inr ⟨h, g, k, by omega⟩))
theorem loge_01 (a : Int) : (a = 0 ∧ M.logeI a = 1) ∨ (a ≠ 0 ∧ M.logeI a = 0 ∧ M.logI a = M.log a.toNat) := by
  unfold M.logeI M.logI
  by_cases h : a = 0
  · exact Or.inl ⟨h, if_pos h⟩
  · exact Or.inr ⟨h, if_neg h, if_neg h⟩
/-- what two logs are, as the law tests it -/
theorem logs (a b : Int) (ha : 0 ≤ a) (hb : 0 ≤ b) : (a = 0 ∧ M.logeI a = 1) ∨ (0 < a ∧ M.logeI a = 0 ∧ M.logeI b = 1) ∨ (0 < a ∧ M.logeI a = 0 ∧ M.logeI b = 0 ∧ b < a) ∨
    (0 < a ∧ M.logeI a = 0 ∧ M.logeI b = 0 ∧ a ≤ b ∧ M.logI a ≤ M.logI b) := by
  rcases loge_01 a with h | ⟨h1, h2, h3⟩
  · exact Or.inl h
  · rcases loge_01 b with ⟨_, h4⟩ | ⟨g1, g2, g3⟩
    · exact Or.inr (Or.inl ⟨by omega, h2, h4⟩)
    · rcases Int.lt_or_le b a with h | h
      · exact Or.inr (Or.inr (Or.inl ⟨by omega, h2, g2, h⟩))
      · have := M.log_mono (show a.toNat ≠ 0 by omega) (show a.toNat ≤ b.toNat by omega)
        exact Or.inr (Or.inr (Or.inr ⟨by omega, h2, g2, h, by omega⟩))
theorem log_facts (a : Int) (h : 0 < a) (h1 : a ≤ 18446744073709551615) : 0 ≤ M.logI a ∧ M.logI a / 256 = M.blenI a - 1 ∧ M.logI a ≤ 16383 ∧ 0 ≤ M.blenI a ∧ M.blenI a ≤ 64 := by
  have hz : a.toNat ≠ 0 := by omega
  have e : M.logI a = M.log a.toNat := by unfold M.logI; rw [if_neg (by omega)]
  have := M.log_div hz
  have := M.log_bd hz (by omega)
  have := (M.blen_lo hz).1
  have : M.blen a.toNat ≤ 64 := (M.blen_le _ 64).2 (by omega)
  unfold M.blenI
  rw [e]
  omega
theorem root_facts (a : Int) (h : 0 ≤ a) (h1 : a ≤ 18446744073709551615) : 0 ≤ M.rootI a ∧ M.rootI a ≤ 4294967295 ∧ 0 ≤ M.rootI a * M.rootI a ∧ M.rootI a * M.rootI a ≤ a ∧ a < (M.rootI a + 1) * (M.rootI a + 1) := by
  unfold M.rootI
  have g1 := M.root_le a.toNat
  have g2 := M.root_lt a.toNat
  have g3 := M.root_bd a.toNat (by omega)
  have e1 : ((M.root a.toNat * M.root a.toNat : Nat) : Int) = (M.root a.toNat : Int) * M.root a.toNat := by simp
  have e2 : (((M.root a.toNat + 1) * (M.root a.toNat + 1) : Nat) : Int) = ((M.root a.toNat : Int) + 1) * (M.root a.toNat + 1) := by simp
  refine ⟨by omega, by omega, ?_, ?_, ?_⟩
  · rw [← e1]; omega
  · rw [← e1]; omega
  · rw [← e2]; omega
theorem root_next (R : Int) (h0 : 0 ≤ R) (h1 : R < 4294967295) : 0 ≤ (R + 1) * (R + 1) ∧ (R + 1) * (R + 1) ≤ 18446744073709551615 := by
  have e : (R + 1) * (R + 1) = R * R + 2 * R + 1 := by grind
  have p := Int.mul_nonneg h0 h0
  have := Int.mul_le_mul (show R ≤ 4294967294 by omega) (show R ≤ 4294967294 by omega) h0 (by omega)
  rw [e]; omega

end Logs
end Go.Proofs.YthfligbkgoonoaaDoor
