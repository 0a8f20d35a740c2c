/-
  The walks of the laws of layer 2 (logs), out of the contracts. Conditions: each number fits its kind; the table of the roots of two stands as its initialiser lays it.
-/
import Derived.Test.YthfligbkgoonoaaDoorLogsExp
import Derived.ProofKit
import Derived.OpenShut
namespace Go.Proofs.YthfligbkgoonoaaDoor
open Go.RowKit
namespace Logs

theorem grown_drewN {W w' : World} (h : Grown W w') (n : Nat) : Grown W (w'.drewN n) := h
theorem bd32 {n : Int} (h : (Lit.int .i32 n).wf = true) : -2147483648 ≤ n ∧ n ≤ 2147483647 := by
  simpa [Lit.wf, IntKind.min, IntKind.max, IntKind.signed, IntKind.bits] using h
theorem bdu64 {n : Int} (h : (Lit.int .u64 n).wf = true) : ∃ m : Nat, n = m ∧ m < 18446744073709551616 := by
  have : 0 ≤ n ∧ n ≤ 18446744073709551615 := by simpa [Lit.wf, IntKind.min, IntKind.max, IntKind.signed, IntKind.bits] using h
  exact ⟨n.toNat, by omega, by omega⟩

theorem Bits_all (n : Int) (w : World) (h0 : 0 ≤ n) (h1 : n ≤ 18446744073709551615) :
    Calls Tryd.prog 12 #[.int .u64 n] w fun e w' => e = .returned (.int .i64 (M.blenI n)) ∧ w' = w := by
  obtain ⟨m, rfl⟩ := Int.eq_ofNat_of_zero_le h0
  exact Bits_any m w (by omega)

theorem refBits_all (n : Int) (w : World) (h0 : 0 ≤ n) (h1 : n ≤ 18446744073709551615) :
    Calls Tryd.prog 13 #[.int .u64 n] w fun e w' => e = .returned (.int .i64 (M.blenI n)) ∧ w' = w := by
  obtain ⟨m, rfl⟩ := Int.eq_ofNat_of_zero_le h0
  exact refBits_any m w (by omega)

theorem Root_all (n : Int) (w : World) (h0 : 0 ≤ n) (h1 : n ≤ 18446744073709551615) :
    Calls Tryd.prog 10 #[.int .u64 n] w fun e w' => e = .returned (.int .u32 (M.rootI n)) ∧ w' = w := by
  obtain ⟨m, rfl⟩ := Int.eq_ofNat_of_zero_le h0
  exact Root_any m w (by omega)

theorem refRoot_all (n : Int) (w : World) (h0 : 0 ≤ n) (h1 : n ≤ 18446744073709551615) :
    Calls Tryd.prog 11 #[.int .u64 n] w fun e w' => e = .returned (.int .u32 (M.rootI n)) ∧ w' = w := by
  obtain ⟨m, rfl⟩ := Int.eq_ofNat_of_zero_le h0
  exact refRoot_any m w (by omega)

theorem Log_all (n : Int) (w : World) (h0 : 0 ≤ n) (h1 : n ≤ 18446744073709551615) :
    Calls Tryd.prog 8 #[.int .u64 n] w fun e w' => e = .returned (.tuple #[.int .i32 (M.logI n), .int .i64 (M.logeI n)]) ∧ w' = w := by
  obtain ⟨m, rfl⟩ := Int.eq_ofNat_of_zero_le h0
  by_cases hz : m = 0
  · subst hz; exact log0 w
  · have := Log_any m w hz (by omega)
    simpa [M.logI, M.logeI, hz] using this

theorem refLog_all (n : Int) (w : World) (h0 : 0 ≤ n) (h1 : n ≤ 18446744073709551615) :
    Calls Tryd.prog 9 #[.int .u64 n] w fun e w' => e = .returned (.tuple #[.int .i32 (M.logI n), .int .i64 (M.logeI n)]) ∧ w' = w := by
  obtain ⟨m, rfl⟩ := Int.eq_ofNat_of_zero_le h0
  by_cases hz : m = 0
  · subst hz; exact refLog0 w
  · have := refLog_any m w hz (by omega)
    simpa [M.logI, M.logeI, hz] using this

theorem Exp_all (q : Int) (w : World) (hT : Tab w) :
    Calls Tryd.prog 14 #[.int .i32 q] w fun e w' => e = .returned (.tuple #[.int .u64 (M.expI q), .int .i64 (M.expeI q)]) ∧ ∃ m, w' = w.drewN m := by
  unfold M.expI M.expeI
  by_cases h : -4096 ≤ q ∧ q ≤ 7680
  · rw [if_pos h, if_pos h]; exact Exp_any q w hT h.1 h.2
  · rw [if_neg h, if_neg h]
    refine (Exp_err q w (by omega)).mono ?_
    rintro e w' ⟨rfl, rfl⟩
    exact ⟨rfl, 0, rfl⟩

theorem refExp_all (q : Int) (w : World) :
    Calls Tryd.prog 15 #[.int .i32 q] w fun e w' => e = .returned (.tuple #[.int .u64 (M.expI q), .int .i64 (M.expeI q)]) ∧ Grown w w' := by
  unfold M.expI M.expeI
  by_cases h : -4096 ≤ q ∧ q ≤ 7680
  · rw [if_pos h, if_pos h]
    refine (refExp_any q w h.1 h.2).mono ?_
    rintro e w' ⟨rfl, rfl⟩
    exact ⟨rfl, (Grown.refl _).alloc _ _⟩
  · rw [if_neg h, if_neg h]
    refine (refExp_err q w (by omega)).mono ?_
    rintro e w' ⟨rfl, rfl⟩
    exact ⟨rfl, Grown.refl _⟩

theorem alive_any (w : World) (hT : Tab w) :
    Calls Tryd.prog 7 #[] w fun e w' => e = .returned (.bool true) ∧ ∃ m, w' = w.drewN m := by
  have e1 : M.logI 1 = 0 := by decide
  have e2 : M.logI 2 = 256 := by decide
  have e3 : M.expI 256 = 131072 := by decide +kernel
  have e4 : M.rootI 99 = 9 := by unfold M.rootI; rw [M.root_of (r := 9) (by decide) (by decide)]; rfl
  have e5 : M.logeI 1 = 0 := by decide
  have e6 : M.logeI 2 = 0 := by decide
  have e7 : M.logeI 0 = 1 := by decide
  have e8 : M.expeI 256 = 0 := by decide
  go_enter Tryd.func7, Tryd.ntmps7
  go_wp2_with (first
    | (go_at_call 8; refine (Log_all _ _ (by decide) (by decide)).mono ?_; rintro e w' ⟨rfl, rfl⟩)
    | (go_at_call 14; refine (Exp_all _ _ hT).mono ?_; rintro e w' ⟨rfl, m, rfl⟩)
    | (go_at_call 10; refine (Root_all _ _ (by decide) (by decide)).mono ?_; rintro e w' ⟨rfl, rfl⟩))
  go_ret
  exact ⟨rfl, _, rfl⟩

theorem LogsReckon_walk (a0 : Int) (w0 : (Lit.int .u64 a0).wf = true) (w : World) (hT : Tab w) :
    Calls Tryd.prog 3 #[.int .u64 a0] w fun e w' => e = .returned (.bool true) ∧ Grown w w' := by
  have ⟨h0, h1⟩ : 0 ≤ a0 ∧ a0 ≤ 18446744073709551615 := by simpa [Lit.wf, IntKind.min, IntKind.max, IntKind.signed, IntKind.bits] using w0
  clear w0
  go_enter Tryd.func3, Tryd.ntmps3
  go_wp2_with (first
    | (go_at_call 7; refine (alive_any _ hT).mono ?_; rintro e w' ⟨rfl, m, rfl⟩)
    | (go_at_call 8; refine (Log_all _ _ h0 h1).mono ?_; rintro e w' ⟨rfl, rfl⟩)
    | (go_at_call 9; refine (refLog_all _ _ h0 h1).mono ?_; rintro e w' ⟨rfl, rfl⟩)
    | (go_at_call 12; refine (Bits_all _ _ h0 h1).mono ?_; rintro e w' ⟨rfl, rfl⟩)
    | (go_at_call 13; refine (refBits_all _ _ h0 h1).mono ?_; rintro e w' ⟨rfl, rfl⟩)
    | (go_at_call 10; refine (Root_all _ _ h0 h1).mono ?_; rintro e w' ⟨rfl, rfl⟩)
    | (go_at_call 11; refine (refRoot_all _ _ h0 h1).mono ?_; rintro e w' ⟨rfl, rfl⟩))
  go_ret
  exact ⟨rfl, grown_drewN (Grown.refl _) _⟩

theorem LogsPower_walk (a0 : Int) (w : World) (hT : Tab w) :
    Calls Tryd.prog 4 #[.int .i32 a0] w fun e w' => e = .returned (.bool true) ∧ Grown w w' := by
  go_enter Tryd.func4, Tryd.ntmps4
  go_wp2_with (first
    | (go_at_call 7; refine (alive_any _ hT).mono ?_; rintro e w' ⟨rfl, m, rfl⟩)
    | (go_at_call 14; refine (Exp_all _ _ (Tab.drewN hT _)).mono ?_; rintro e w' ⟨rfl, m, rfl⟩)
    | (go_at_call 15; refine (refExp_all _ _).mono ?_; rintro e w' ⟨rfl, hg⟩))
  go_ret
  exact ⟨rfl, hg⟩

end Logs
end Go.Proofs.YthfligbkgoonoaaDoor
