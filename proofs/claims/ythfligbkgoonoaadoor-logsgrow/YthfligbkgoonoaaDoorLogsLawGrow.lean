/-
  The walk of the law LogsGrow of layer 2 (logs), out of the contracts, each way through its tests a theorem of its own. Conditions: each number fits its kind; the table of the roots of two stands as its initialiser lays it.
-/
import Derived.Test.YthfligbkgoonoaaDoorLogsLawNear
namespace Go.Proofs.YthfligbkgoonoaaDoor
open Go.RowKit
namespace Logs

theorem Grow_RB1 (a b p q : Int) (w : World) (hT : Tab w) (a0 : 0 ≤ a) (a1 : a ≤ 18446744073709551615) (b0 : 0 ≤ b) (b1 : b ≤ 18446744073709551615) (hr : M.rootI a = 4294967295) (g0 : 0 < a) (g1 : M.logeI a = 0) (g2 : M.logeI b = 1) (k1 : M.expeI p = 1) :
    Calls Tryd.prog 5 #[.int .u64 a, .int .u64 b, .int .i32 p, .int .i32 q] w fun e w' => e = .returned (.bool true) ∧ Grown w w' := by
  obtain ⟨r1, r2, r3, r4, r5⟩ := root_facts a a0 a1
  obtain ⟨l1, l2, l3, l4, l5⟩ := log_facts a g0 a1
  rw [hr] at r4
  go_enter Tryd.func5, Tryd.ntmps5
  go_wp2_with (first
    | (go_at_call 7; refine (alive_any _ hT).mono ?_; rintro e w' ⟨rfl, m, rfl⟩)
    | (go_at_call 10; refine (Root_all _ _ a0 a1).mono ?_; rintro e w' ⟨rfl, rfl⟩)
    | (go_at_call 12; refine (Bits_all _ _ a0 a1).mono ?_; rintro e w' ⟨rfl, rfl⟩)
    | (go_at_call 8; refine (Log_all _ _ ?_ ?_).mono ?_; assumption; assumption; rintro e w' ⟨rfl, rfl⟩)
    | (go_at_call 14; refine (Exp_all _ _ (Tab.drewN hT _)).mono ?_; rintro e w' ⟨rfl, m, rfl⟩))
  go_ret
  exact ⟨rfl, grown_drewN (Grown.refl _) _⟩

theorem Grow_RB2 (a b p q : Int) (w : World) (hT : Tab w) (a0 : 0 ≤ a) (a1 : a ≤ 18446744073709551615) (b0 : 0 ≤ b) (b1 : b ≤ 18446744073709551615) (hr : M.rootI a = 4294967295) (g0 : 0 < a) (g1 : M.logeI a = 0) (g2 : M.logeI b = 1) (k1 : M.expeI p = 0) (k2 : M.expeI q = 1) :
    Calls Tryd.prog 5 #[.int .u64 a, .int .u64 b, .int .i32 p, .int .i32 q] w fun e w' => e = .returned (.bool true) ∧ Grown w w' := by
  obtain ⟨r1, r2, r3, r4, r5⟩ := root_facts a a0 a1
  obtain ⟨l1, l2, l3, l4, l5⟩ := log_facts a g0 a1
  rw [hr] at r4
  go_enter Tryd.func5, Tryd.ntmps5
  go_wp2_with (first
    | (go_at_call 7; refine (alive_any _ hT).mono ?_; rintro e w' ⟨rfl, m, rfl⟩)
    | (go_at_call 10; refine (Root_all _ _ a0 a1).mono ?_; rintro e w' ⟨rfl, rfl⟩)
    | (go_at_call 12; refine (Bits_all _ _ a0 a1).mono ?_; rintro e w' ⟨rfl, rfl⟩)
    | (go_at_call 8; refine (Log_all _ _ ?_ ?_).mono ?_; assumption; assumption; rintro e w' ⟨rfl, rfl⟩)
    | (go_at_call 14; refine (Exp_all _ _ (Tab.drewN hT _)).mono ?_; rintro e w' ⟨rfl, m, rfl⟩))
  go_ret
  exact ⟨rfl, grown_drewN (Grown.refl _) _⟩

theorem Grow_RB3 (a b p q : Int) (w : World) (hT : Tab w) (a0 : 0 ≤ a) (a1 : a ≤ 18446744073709551615) (b0 : 0 ≤ b) (b1 : b ≤ 18446744073709551615) (hr : M.rootI a = 4294967295) (g0 : 0 < a) (g1 : M.logeI a = 0) (g2 : M.logeI b = 1) (k1 : M.expeI p = 0) (k2 : M.expeI q = 0) (k3 : q < p) :
    Calls Tryd.prog 5 #[.int .u64 a, .int .u64 b, .int .i32 p, .int .i32 q] w fun e w' => e = .returned (.bool true) ∧ Grown w w' := by
  obtain ⟨r1, r2, r3, r4, r5⟩ := root_facts a a0 a1
  obtain ⟨l1, l2, l3, l4, l5⟩ := log_facts a g0 a1
  rw [hr] at r4
  go_enter Tryd.func5, Tryd.ntmps5
  go_wp2_with (first
    | (go_at_call 7; refine (alive_any _ hT).mono ?_; rintro e w' ⟨rfl, m, rfl⟩)
    | (go_at_call 10; refine (Root_all _ _ a0 a1).mono ?_; rintro e w' ⟨rfl, rfl⟩)
    | (go_at_call 12; refine (Bits_all _ _ a0 a1).mono ?_; rintro e w' ⟨rfl, rfl⟩)
    | (go_at_call 8; refine (Log_all _ _ ?_ ?_).mono ?_; assumption; assumption; rintro e w' ⟨rfl, rfl⟩)
    | (go_at_call 14; refine (Exp_all _ _ (Tab.drewN hT _)).mono ?_; rintro e w' ⟨rfl, m, rfl⟩))
  go_ret
  exact ⟨rfl, grown_drewN (Grown.refl _) _⟩

theorem Grow_RB4 (a b p q : Int) (w : World) (hT : Tab w) (a0 : 0 ≤ a) (a1 : a ≤ 18446744073709551615) (b0 : 0 ≤ b) (b1 : b ≤ 18446744073709551615) (hr : M.rootI a = 4294967295) (g0 : 0 < a) (g1 : M.logeI a = 0) (g2 : M.logeI b = 1) (k1 : M.expeI p = 0) (k2 : M.expeI q = 0) (k3 : p ≤ q) (k4 : M.expI p ≤ M.expI q) :
    Calls Tryd.prog 5 #[.int .u64 a, .int .u64 b, .int .i32 p, .int .i32 q] w fun e w' => e = .returned (.bool true) ∧ Grown w w' := by
  obtain ⟨r1, r2, r3, r4, r5⟩ := root_facts a a0 a1
  obtain ⟨l1, l2, l3, l4, l5⟩ := log_facts a g0 a1
  rw [hr] at r4
  go_enter Tryd.func5, Tryd.ntmps5
  go_wp2_with (first
    | (go_at_call 7; refine (alive_any _ hT).mono ?_; rintro e w' ⟨rfl, m, rfl⟩)
    | (go_at_call 10; refine (Root_all _ _ a0 a1).mono ?_; rintro e w' ⟨rfl, rfl⟩)
    | (go_at_call 12; refine (Bits_all _ _ a0 a1).mono ?_; rintro e w' ⟨rfl, rfl⟩)
    | (go_at_call 8; refine (Log_all _ _ ?_ ?_).mono ?_; assumption; assumption; rintro e w' ⟨rfl, rfl⟩)
    | (go_at_call 14; refine (Exp_all _ _ (Tab.drewN hT _)).mono ?_; rintro e w' ⟨rfl, m, rfl⟩))
  go_ret
  exact ⟨rfl, grown_drewN (Grown.refl _) _⟩

theorem Grow_RC1 (a b p q : Int) (w : World) (hT : Tab w) (a0 : 0 ≤ a) (a1 : a ≤ 18446744073709551615) (b0 : 0 ≤ b) (b1 : b ≤ 18446744073709551615) (hr : M.rootI a = 4294967295) (g0 : 0 < a) (g1 : M.logeI a = 0) (g2 : M.logeI b = 0) (g3 : b < a) (k1 : M.expeI p = 1) :
    Calls Tryd.prog 5 #[.int .u64 a, .int .u64 b, .int .i32 p, .int .i32 q] w fun e w' => e = .returned (.bool true) ∧ Grown w w' := by
  obtain ⟨r1, r2, r3, r4, r5⟩ := root_facts a a0 a1
  obtain ⟨l1, l2, l3, l4, l5⟩ := log_facts a g0 a1
  rw [hr] at r4
  go_enter Tryd.func5, Tryd.ntmps5
  go_wp2_with (first
    | (go_at_call 7; refine (alive_any _ hT).mono ?_; rintro e w' ⟨rfl, m, rfl⟩)
    | (go_at_call 10; refine (Root_all _ _ a0 a1).mono ?_; rintro e w' ⟨rfl, rfl⟩)
    | (go_at_call 12; refine (Bits_all _ _ a0 a1).mono ?_; rintro e w' ⟨rfl, rfl⟩)
    | (go_at_call 8; refine (Log_all _ _ ?_ ?_).mono ?_; assumption; assumption; rintro e w' ⟨rfl, rfl⟩)
    | (go_at_call 14; refine (Exp_all _ _ (Tab.drewN hT _)).mono ?_; rintro e w' ⟨rfl, m, rfl⟩))
  go_ret
  exact ⟨rfl, grown_drewN (Grown.refl _) _⟩

theorem Grow_RC2 (a b p q : Int) (w : World) (hT : Tab w) (a0 : 0 ≤ a) (a1 : a ≤ 18446744073709551615) (b0 : 0 ≤ b) (b1 : b ≤ 18446744073709551615) (hr : M.rootI a = 4294967295) (g0 : 0 < a) (g1 : M.logeI a = 0) (g2 : M.logeI b = 0) (g3 : b < a) (k1 : M.expeI p = 0) (k2 : M.expeI q = 1) :
    Calls Tryd.prog 5 #[.int .u64 a, .int .u64 b, .int .i32 p, .int .i32 q] w fun e w' => e = .returned (.bool true) ∧ Grown w w' := by
  obtain ⟨r1, r2, r3, r4, r5⟩ := root_facts a a0 a1
  obtain ⟨l1, l2, l3, l4, l5⟩ := log_facts a g0 a1
  rw [hr] at r4
  go_enter Tryd.func5, Tryd.ntmps5
  go_wp2_with (first
    | (go_at_call 7; refine (alive_any _ hT).mono ?_; rintro e w' ⟨rfl, m, rfl⟩)
    | (go_at_call 10; refine (Root_all _ _ a0 a1).mono ?_; rintro e w' ⟨rfl, rfl⟩)
    | (go_at_call 12; refine (Bits_all _ _ a0 a1).mono ?_; rintro e w' ⟨rfl, rfl⟩)
    | (go_at_call 8; refine (Log_all _ _ ?_ ?_).mono ?_; assumption; assumption; rintro e w' ⟨rfl, rfl⟩)
    | (go_at_call 14; refine (Exp_all _ _ (Tab.drewN hT _)).mono ?_; rintro e w' ⟨rfl, m, rfl⟩))
  go_ret
  exact ⟨rfl, grown_drewN (Grown.refl _) _⟩

theorem Grow_RC3 (a b p q : Int) (w : World) (hT : Tab w) (a0 : 0 ≤ a) (a1 : a ≤ 18446744073709551615) (b0 : 0 ≤ b) (b1 : b ≤ 18446744073709551615) (hr : M.rootI a = 4294967295) (g0 : 0 < a) (g1 : M.logeI a = 0) (g2 : M.logeI b = 0) (g3 : b < a) (k1 : M.expeI p = 0) (k2 : M.expeI q = 0) (k3 : q < p) :
    Calls Tryd.prog 5 #[.int .u64 a, .int .u64 b, .int .i32 p, .int .i32 q] w fun e w' => e = .returned (.bool true) ∧ Grown w w' := by
  obtain ⟨r1, r2, r3, r4, r5⟩ := root_facts a a0 a1
  obtain ⟨l1, l2, l3, l4, l5⟩ := log_facts a g0 a1
  rw [hr] at r4
  go_enter Tryd.func5, Tryd.ntmps5
  go_wp2_with (first
    | (go_at_call 7; refine (alive_any _ hT).mono ?_; rintro e w' ⟨rfl, m, rfl⟩)
    | (go_at_call 10; refine (Root_all _ _ a0 a1).mono ?_; rintro e w' ⟨rfl, rfl⟩)
    | (go_at_call 12; refine (Bits_all _ _ a0 a1).mono ?_; rintro e w' ⟨rfl, rfl⟩)
    | (go_at_call 8; refine (Log_all _ _ ?_ ?_).mono ?_; assumption; assumption; rintro e w' ⟨rfl, rfl⟩)
    | (go_at_call 14; refine (Exp_all _ _ (Tab.drewN hT _)).mono ?_; rintro e w' ⟨rfl, m, rfl⟩))
  go_ret
  exact ⟨rfl, grown_drewN (Grown.refl _) _⟩

theorem Grow_RC4 (a b p q : Int) (w : World) (hT : Tab w) (a0 : 0 ≤ a) (a1 : a ≤ 18446744073709551615) (b0 : 0 ≤ b) (b1 : b ≤ 18446744073709551615) (hr : M.rootI a = 4294967295) (g0 : 0 < a) (g1 : M.logeI a = 0) (g2 : M.logeI b = 0) (g3 : b < a) (k1 : M.expeI p = 0) (k2 : M.expeI q = 0) (k3 : p ≤ q) (k4 : M.expI p ≤ M.expI q) :
    Calls Tryd.prog 5 #[.int .u64 a, .int .u64 b, .int .i32 p, .int .i32 q] w fun e w' => e = .returned (.bool true) ∧ Grown w w' := by
  obtain ⟨r1, r2, r3, r4, r5⟩ := root_facts a a0 a1
  obtain ⟨l1, l2, l3, l4, l5⟩ := log_facts a g0 a1
  rw [hr] at r4
  go_enter Tryd.func5, Tryd.ntmps5
  go_wp2_with (first
    | (go_at_call 7; refine (alive_any _ hT).mono ?_; rintro e w' ⟨rfl, m, rfl⟩)
    | (go_at_call 10; refine (Root_all _ _ a0 a1).mono ?_; rintro e w' ⟨rfl, rfl⟩)
    | (go_at_call 12; refine (Bits_all _ _ a0 a1).mono ?_; rintro e w' ⟨rfl, rfl⟩)
    | (go_at_call 8; refine (Log_all _ _ ?_ ?_).mono ?_; assumption; assumption; rintro e w' ⟨rfl, rfl⟩)
    | (go_at_call 14; refine (Exp_all _ _ (Tab.drewN hT _)).mono ?_; rintro e w' ⟨rfl, m, rfl⟩))
  go_ret
  exact ⟨rfl, grown_drewN (Grown.refl _) _⟩

theorem Grow_RD1 (a b p q : Int) (w : World) (hT : Tab w) (a0 : 0 ≤ a) (a1 : a ≤ 18446744073709551615) (b0 : 0 ≤ b) (b1 : b ≤ 18446744073709551615) (hr : M.rootI a = 4294967295) (g0 : 0 < a) (g1 : M.logeI a = 0) (g2 : M.logeI b = 0) (g3 : a ≤ b) (g4 : M.logI a ≤ M.logI b) (k1 : M.expeI p = 1) :
    Calls Tryd.prog 5 #[.int .u64 a, .int .u64 b, .int .i32 p, .int .i32 q] w fun e w' => e = .returned (.bool true) ∧ Grown w w' := by
  obtain ⟨r1, r2, r3, r4, r5⟩ := root_facts a a0 a1
  obtain ⟨l1, l2, l3, l4, l5⟩ := log_facts a g0 a1
  rw [hr] at r4
  go_enter Tryd.func5, Tryd.ntmps5
  go_wp2_with (first
    | (go_at_call 7; refine (alive_any _ hT).mono ?_; rintro e w' ⟨rfl, m, rfl⟩)
    | (go_at_call 10; refine (Root_all _ _ a0 a1).mono ?_; rintro e w' ⟨rfl, rfl⟩)
    | (go_at_call 12; refine (Bits_all _ _ a0 a1).mono ?_; rintro e w' ⟨rfl, rfl⟩)
    | (go_at_call 8; refine (Log_all _ _ ?_ ?_).mono ?_; assumption; assumption; rintro e w' ⟨rfl, rfl⟩)
    | (go_at_call 14; refine (Exp_all _ _ (Tab.drewN hT _)).mono ?_; rintro e w' ⟨rfl, m, rfl⟩))
  go_ret
  exact ⟨rfl, grown_drewN (Grown.refl _) _⟩

theorem Grow_RD2 (a b p q : Int) (w : World) (hT : Tab w) (a0 : 0 ≤ a) (a1 : a ≤ 18446744073709551615) (b0 : 0 ≤ b) (b1 : b ≤ 18446744073709551615) (hr : M.rootI a = 4294967295) (g0 : 0 < a) (g1 : M.logeI a = 0) (g2 : M.logeI b = 0) (g3 : a ≤ b) (g4 : M.logI a ≤ M.logI b) (k1 : M.expeI p = 0) (k2 : M.expeI q = 1) :
    Calls Tryd.prog 5 #[.int .u64 a, .int .u64 b, .int .i32 p, .int .i32 q] w fun e w' => e = .returned (.bool true) ∧ Grown w w' := by
  obtain ⟨r1, r2, r3, r4, r5⟩ := root_facts a a0 a1
  obtain ⟨l1, l2, l3, l4, l5⟩ := log_facts a g0 a1
  rw [hr] at r4
  go_enter Tryd.func5, Tryd.ntmps5
  go_wp2_with (first
    | (go_at_call 7; refine (alive_any _ hT).mono ?_; rintro e w' ⟨rfl, m, rfl⟩)
    | (go_at_call 10; refine (Root_all _ _ a0 a1).mono ?_; rintro e w' ⟨rfl, rfl⟩)
    | (go_at_call 12; refine (Bits_all _ _ a0 a1).mono ?_; rintro e w' ⟨rfl, rfl⟩)
    | (go_at_call 8; refine (Log_all _ _ ?_ ?_).mono ?_; assumption; assumption; rintro e w' ⟨rfl, rfl⟩)
    | (go_at_call 14; refine (Exp_all _ _ (Tab.drewN hT _)).mono ?_; rintro e w' ⟨rfl, m, rfl⟩))
  go_ret
  exact ⟨rfl, grown_drewN (Grown.refl _) _⟩

theorem Grow_RD3 (a b p q : Int) (w : World) (hT : Tab w) (a0 : 0 ≤ a) (a1 : a ≤ 18446744073709551615) (b0 : 0 ≤ b) (b1 : b ≤ 18446744073709551615) (hr : M.rootI a = 4294967295) (g0 : 0 < a) (g1 : M.logeI a = 0) (g2 : M.logeI b = 0) (g3 : a ≤ b) (g4 : M.logI a ≤ M.logI b) (k1 : M.expeI p = 0) (k2 : M.expeI q = 0) (k3 : q < p) :
    Calls Tryd.prog 5 #[.int .u64 a, .int .u64 b, .int .i32 p, .int .i32 q] w fun e w' => e = .returned (.bool true) ∧ Grown w w' := by
  obtain ⟨r1, r2, r3, r4, r5⟩ := root_facts a a0 a1
  obtain ⟨l1, l2, l3, l4, l5⟩ := log_facts a g0 a1
  rw [hr] at r4
  go_enter Tryd.func5, Tryd.ntmps5
  go_wp2_with (first
    | (go_at_call 7; refine (alive_any _ hT).mono ?_; rintro e w' ⟨rfl, m, rfl⟩)
    | (go_at_call 10; refine (Root_all _ _ a0 a1).mono ?_; rintro e w' ⟨rfl, rfl⟩)
    | (go_at_call 12; refine (Bits_all _ _ a0 a1).mono ?_; rintro e w' ⟨rfl, rfl⟩)
    | (go_at_call 8; refine (Log_all _ _ ?_ ?_).mono ?_; assumption; assumption; rintro e w' ⟨rfl, rfl⟩)
    | (go_at_call 14; refine (Exp_all _ _ (Tab.drewN hT _)).mono ?_; rintro e w' ⟨rfl, m, rfl⟩))
  go_ret
  exact ⟨rfl, grown_drewN (Grown.refl _) _⟩

theorem Grow_RD4 (a b p q : Int) (w : World) (hT : Tab w) (a0 : 0 ≤ a) (a1 : a ≤ 18446744073709551615) (b0 : 0 ≤ b) (b1 : b ≤ 18446744073709551615) (hr : M.rootI a = 4294967295) (g0 : 0 < a) (g1 : M.logeI a = 0) (g2 : M.logeI b = 0) (g3 : a ≤ b) (g4 : M.logI a ≤ M.logI b) (k1 : M.expeI p = 0) (k2 : M.expeI q = 0) (k3 : p ≤ q) (k4 : M.expI p ≤ M.expI q) :
    Calls Tryd.prog 5 #[.int .u64 a, .int .u64 b, .int .i32 p, .int .i32 q] w fun e w' => e = .returned (.bool true) ∧ Grown w w' := by
  obtain ⟨r1, r2, r3, r4, r5⟩ := root_facts a a0 a1
  obtain ⟨l1, l2, l3, l4, l5⟩ := log_facts a g0 a1
  rw [hr] at r4
  go_enter Tryd.func5, Tryd.ntmps5
  go_wp2_with (first
    | (go_at_call 7; refine (alive_any _ hT).mono ?_; rintro e w' ⟨rfl, m, rfl⟩)
    | (go_at_call 10; refine (Root_all _ _ a0 a1).mono ?_; rintro e w' ⟨rfl, rfl⟩)
    | (go_at_call 12; refine (Bits_all _ _ a0 a1).mono ?_; rintro e w' ⟨rfl, rfl⟩)
    | (go_at_call 8; refine (Log_all _ _ ?_ ?_).mono ?_; assumption; assumption; rintro e w' ⟨rfl, rfl⟩)
    | (go_at_call 14; refine (Exp_all _ _ (Tab.drewN hT _)).mono ?_; rintro e w' ⟨rfl, m, rfl⟩))
  go_ret
  exact ⟨rfl, grown_drewN (Grown.refl _) _⟩

theorem Grow_SA1 (a b p q : Int) (w : World) (hT : Tab w) (a0 : 0 ≤ a) (a1 : a ≤ 18446744073709551615) (b0 : 0 ≤ b) (b1 : b ≤ 18446744073709551615) (hr : M.rootI a < 4294967295) (g1 : M.logeI a = 1) (g0 : a = 0) (k1 : M.expeI p = 1) :
    Calls Tryd.prog 5 #[.int .u64 a, .int .u64 b, .int .i32 p, .int .i32 q] w fun e w' => e = .returned (.bool true) ∧ Grown w w' := by
  subst g0
  have hz : M.rootI 0 = 0 := by unfold M.rootI; rw [M.root_of (r := 0) (by decide) (by decide)]; rfl
  clear hr
  go_enter Tryd.func5, Tryd.ntmps5
  go_wp2_with (first
    | (go_at_call 7; refine (alive_any _ hT).mono ?_; rintro e w' ⟨rfl, m, rfl⟩)
    | (go_at_call 10; refine (Root_all _ _ a0 a1).mono ?_; rintro e w' ⟨rfl, rfl⟩)
    | (go_at_call 12; refine (Bits_all _ _ a0 a1).mono ?_; rintro e w' ⟨rfl, rfl⟩)
    | (go_at_call 8; refine (Log_all _ _ ?_ ?_).mono ?_; assumption; assumption; rintro e w' ⟨rfl, rfl⟩)
    | (go_at_call 14; refine (Exp_all _ _ (Tab.drewN hT _)).mono ?_; rintro e w' ⟨rfl, m, rfl⟩))
  go_ret
  exact ⟨rfl, grown_drewN (Grown.refl _) _⟩

theorem Grow_SA2 (a b p q : Int) (w : World) (hT : Tab w) (a0 : 0 ≤ a) (a1 : a ≤ 18446744073709551615) (b0 : 0 ≤ b) (b1 : b ≤ 18446744073709551615) (hr : M.rootI a < 4294967295) (g1 : M.logeI a = 1) (g0 : a = 0) (k1 : M.expeI p = 0) (k2 : M.expeI q = 1) :
    Calls Tryd.prog 5 #[.int .u64 a, .int .u64 b, .int .i32 p, .int .i32 q] w fun e w' => e = .returned (.bool true) ∧ Grown w w' := by
  subst g0
  have hz : M.rootI 0 = 0 := by unfold M.rootI; rw [M.root_of (r := 0) (by decide) (by decide)]; rfl
  clear hr
  go_enter Tryd.func5, Tryd.ntmps5
  go_wp2_with (first
    | (go_at_call 7; refine (alive_any _ hT).mono ?_; rintro e w' ⟨rfl, m, rfl⟩)
    | (go_at_call 10; refine (Root_all _ _ a0 a1).mono ?_; rintro e w' ⟨rfl, rfl⟩)
    | (go_at_call 12; refine (Bits_all _ _ a0 a1).mono ?_; rintro e w' ⟨rfl, rfl⟩)
    | (go_at_call 8; refine (Log_all _ _ ?_ ?_).mono ?_; assumption; assumption; rintro e w' ⟨rfl, rfl⟩)
    | (go_at_call 14; refine (Exp_all _ _ (Tab.drewN hT _)).mono ?_; rintro e w' ⟨rfl, m, rfl⟩))
  go_ret
  exact ⟨rfl, grown_drewN (Grown.refl _) _⟩

theorem Grow_SA3 (a b p q : Int) (w : World) (hT : Tab w) (a0 : 0 ≤ a) (a1 : a ≤ 18446744073709551615) (b0 : 0 ≤ b) (b1 : b ≤ 18446744073709551615) (hr : M.rootI a < 4294967295) (g1 : M.logeI a = 1) (g0 : a = 0) (k1 : M.expeI p = 0) (k2 : M.expeI q = 0) (k3 : q < p) :
    Calls Tryd.prog 5 #[.int .u64 a, .int .u64 b, .int .i32 p, .int .i32 q] w fun e w' => e = .returned (.bool true) ∧ Grown w w' := by
  subst g0
  have hz : M.rootI 0 = 0 := by unfold M.rootI; rw [M.root_of (r := 0) (by decide) (by decide)]; rfl
  clear hr
  go_enter Tryd.func5, Tryd.ntmps5
  go_wp2_with (first
    | (go_at_call 7; refine (alive_any _ hT).mono ?_; rintro e w' ⟨rfl, m, rfl⟩)
    | (go_at_call 10; refine (Root_all _ _ a0 a1).mono ?_; rintro e w' ⟨rfl, rfl⟩)
    | (go_at_call 12; refine (Bits_all _ _ a0 a1).mono ?_; rintro e w' ⟨rfl, rfl⟩)
    | (go_at_call 8; refine (Log_all _ _ ?_ ?_).mono ?_; assumption; assumption; rintro e w' ⟨rfl, rfl⟩)
    | (go_at_call 14; refine (Exp_all _ _ (Tab.drewN hT _)).mono ?_; rintro e w' ⟨rfl, m, rfl⟩))
  go_ret
  exact ⟨rfl, grown_drewN (Grown.refl _) _⟩

theorem Grow_SA4 (a b p q : Int) (w : World) (hT : Tab w) (a0 : 0 ≤ a) (a1 : a ≤ 18446744073709551615) (b0 : 0 ≤ b) (b1 : b ≤ 18446744073709551615) (hr : M.rootI a < 4294967295) (g1 : M.logeI a = 1) (g0 : a = 0) (k1 : M.expeI p = 0) (k2 : M.expeI q = 0) (k3 : p ≤ q) (k4 : M.expI p ≤ M.expI q) :
    Calls Tryd.prog 5 #[.int .u64 a, .int .u64 b, .int .i32 p, .int .i32 q] w fun e w' => e = .returned (.bool true) ∧ Grown w w' := by
  subst g0
  have hz : M.rootI 0 = 0 := by unfold M.rootI; rw [M.root_of (r := 0) (by decide) (by decide)]; rfl
  clear hr
  go_enter Tryd.func5, Tryd.ntmps5
  go_wp2_with (first
    | (go_at_call 7; refine (alive_any _ hT).mono ?_; rintro e w' ⟨rfl, m, rfl⟩)
    | (go_at_call 10; refine (Root_all _ _ a0 a1).mono ?_; rintro e w' ⟨rfl, rfl⟩)
    | (go_at_call 12; refine (Bits_all _ _ a0 a1).mono ?_; rintro e w' ⟨rfl, rfl⟩)
    | (go_at_call 8; refine (Log_all _ _ ?_ ?_).mono ?_; assumption; assumption; rintro e w' ⟨rfl, rfl⟩)
    | (go_at_call 14; refine (Exp_all _ _ (Tab.drewN hT _)).mono ?_; rintro e w' ⟨rfl, m, rfl⟩))
  go_ret
  exact ⟨rfl, grown_drewN (Grown.refl _) _⟩

theorem Grow_SB1 (a b p q : Int) (w : World) (hT : Tab w) (a0 : 0 ≤ a) (a1 : a ≤ 18446744073709551615) (b0 : 0 ≤ b) (b1 : b ≤ 18446744073709551615) (hr : M.rootI a < 4294967295) (g0 : 0 < a) (g1 : M.logeI a = 0) (g2 : M.logeI b = 1) (k1 : M.expeI p = 1) :
    Calls Tryd.prog 5 #[.int .u64 a, .int .u64 b, .int .i32 p, .int .i32 q] w fun e w' => e = .returned (.bool true) ∧ Grown w w' := by
  obtain ⟨r1, r2, r3, r4, r5⟩ := root_facts a a0 a1
  obtain ⟨l1, l2, l3, l4, l5⟩ := log_facts a g0 a1
  obtain ⟨q1, q2⟩ := root_next _ r1 hr
  have cR := hid (fun w => Root_all a w a0 a1)
  generalize M.rootI a = R at *
  go_enter Tryd.func5, Tryd.ntmps5
  go_wp2_with (first
    | (go_at_call 7; refine (alive_any _ hT).mono ?_; rintro e w' ⟨rfl, m, rfl⟩)
    | (go_at_call 10; refine (cR.out _).mono ?_; rintro e w' ⟨rfl, rfl⟩)
    | (go_at_call 12; refine (Bits_all _ _ a0 a1).mono ?_; rintro e w' ⟨rfl, rfl⟩)
    | (go_at_call 8; refine (Log_all _ _ ?_ ?_).mono ?_; assumption; assumption; rintro e w' ⟨rfl, rfl⟩)
    | (go_at_call 14; refine (Exp_all _ _ (Tab.drewN hT _)).mono ?_; rintro e w' ⟨rfl, m, rfl⟩))
  go_ret
  exact ⟨rfl, grown_drewN (Grown.refl _) _⟩

theorem Grow_SB2 (a b p q : Int) (w : World) (hT : Tab w) (a0 : 0 ≤ a) (a1 : a ≤ 18446744073709551615) (b0 : 0 ≤ b) (b1 : b ≤ 18446744073709551615) (hr : M.rootI a < 4294967295) (g0 : 0 < a) (g1 : M.logeI a = 0) (g2 : M.logeI b = 1) (k1 : M.expeI p = 0) (k2 : M.expeI q = 1) :
    Calls Tryd.prog 5 #[.int .u64 a, .int .u64 b, .int .i32 p, .int .i32 q] w fun e w' => e = .returned (.bool true) ∧ Grown w w' := by
  obtain ⟨r1, r2, r3, r4, r5⟩ := root_facts a a0 a1
  obtain ⟨l1, l2, l3, l4, l5⟩ := log_facts a g0 a1
  obtain ⟨q1, q2⟩ := root_next _ r1 hr
  have cR := hid (fun w => Root_all a w a0 a1)
  generalize M.rootI a = R at *
  go_enter Tryd.func5, Tryd.ntmps5
  go_wp2_with (first
    | (go_at_call 7; refine (alive_any _ hT).mono ?_; rintro e w' ⟨rfl, m, rfl⟩)
    | (go_at_call 10; refine (cR.out _).mono ?_; rintro e w' ⟨rfl, rfl⟩)
    | (go_at_call 12; refine (Bits_all _ _ a0 a1).mono ?_; rintro e w' ⟨rfl, rfl⟩)
    | (go_at_call 8; refine (Log_all _ _ ?_ ?_).mono ?_; assumption; assumption; rintro e w' ⟨rfl, rfl⟩)
    | (go_at_call 14; refine (Exp_all _ _ (Tab.drewN hT _)).mono ?_; rintro e w' ⟨rfl, m, rfl⟩))
  go_ret
  exact ⟨rfl, grown_drewN (Grown.refl _) _⟩

theorem Grow_SB3 (a b p q : Int) (w : World) (hT : Tab w) (a0 : 0 ≤ a) (a1 : a ≤ 18446744073709551615) (b0 : 0 ≤ b) (b1 : b ≤ 18446744073709551615) (hr : M.rootI a < 4294967295) (g0 : 0 < a) (g1 : M.logeI a = 0) (g2 : M.logeI b = 1) (k1 : M.expeI p = 0) (k2 : M.expeI q = 0) (k3 : q < p) :
    Calls Tryd.prog 5 #[.int .u64 a, .int .u64 b, .int .i32 p, .int .i32 q] w fun e w' => e = .returned (.bool true) ∧ Grown w w' := by
  obtain ⟨r1, r2, r3, r4, r5⟩ := root_facts a a0 a1
  obtain ⟨l1, l2, l3, l4, l5⟩ := log_facts a g0 a1
  obtain ⟨q1, q2⟩ := root_next _ r1 hr
  have cR := hid (fun w => Root_all a w a0 a1)
  generalize M.rootI a = R at *
  go_enter Tryd.func5, Tryd.ntmps5
  go_wp2_with (first
    | (go_at_call 7; refine (alive_any _ hT).mono ?_; rintro e w' ⟨rfl, m, rfl⟩)
    | (go_at_call 10; refine (cR.out _).mono ?_; rintro e w' ⟨rfl, rfl⟩)
    | (go_at_call 12; refine (Bits_all _ _ a0 a1).mono ?_; rintro e w' ⟨rfl, rfl⟩)
    | (go_at_call 8; refine (Log_all _ _ ?_ ?_).mono ?_; assumption; assumption; rintro e w' ⟨rfl, rfl⟩)
    | (go_at_call 14; refine (Exp_all _ _ (Tab.drewN hT _)).mono ?_; rintro e w' ⟨rfl, m, rfl⟩))
  go_ret
  exact ⟨rfl, grown_drewN (Grown.refl _) _⟩

theorem Grow_SB4 (a b p q : Int) (w : World) (hT : Tab w) (a0 : 0 ≤ a) (a1 : a ≤ 18446744073709551615) (b0 : 0 ≤ b) (b1 : b ≤ 18446744073709551615) (hr : M.rootI a < 4294967295) (g0 : 0 < a) (g1 : M.logeI a = 0) (g2 : M.logeI b = 1) (k1 : M.expeI p = 0) (k2 : M.expeI q = 0) (k3 : p ≤ q) (k4 : M.expI p ≤ M.expI q) :
    Calls Tryd.prog 5 #[.int .u64 a, .int .u64 b, .int .i32 p, .int .i32 q] w fun e w' => e = .returned (.bool true) ∧ Grown w w' := by
  obtain ⟨r1, r2, r3, r4, r5⟩ := root_facts a a0 a1
  obtain ⟨l1, l2, l3, l4, l5⟩ := log_facts a g0 a1
  obtain ⟨q1, q2⟩ := root_next _ r1 hr
  have cR := hid (fun w => Root_all a w a0 a1)
  generalize M.rootI a = R at *
  go_enter Tryd.func5, Tryd.ntmps5
  go_wp2_with (first
    | (go_at_call 7; refine (alive_any _ hT).mono ?_; rintro e w' ⟨rfl, m, rfl⟩)
    | (go_at_call 10; refine (cR.out _).mono ?_; rintro e w' ⟨rfl, rfl⟩)
    | (go_at_call 12; refine (Bits_all _ _ a0 a1).mono ?_; rintro e w' ⟨rfl, rfl⟩)
    | (go_at_call 8; refine (Log_all _ _ ?_ ?_).mono ?_; assumption; assumption; rintro e w' ⟨rfl, rfl⟩)
    | (go_at_call 14; refine (Exp_all _ _ (Tab.drewN hT _)).mono ?_; rintro e w' ⟨rfl, m, rfl⟩))
  go_ret
  exact ⟨rfl, grown_drewN (Grown.refl _) _⟩

theorem Grow_SC1 (a b p q : Int) (w : World) (hT : Tab w) (a0 : 0 ≤ a) (a1 : a ≤ 18446744073709551615) (b0 : 0 ≤ b) (b1 : b ≤ 18446744073709551615) (hr : M.rootI a < 4294967295) (g0 : 0 < a) (g1 : M.logeI a = 0) (g2 : M.logeI b = 0) (g3 : b < a) (k1 : M.expeI p = 1) :
    Calls Tryd.prog 5 #[.int .u64 a, .int .u64 b, .int .i32 p, .int .i32 q] w fun e w' => e = .returned (.bool true) ∧ Grown w w' := by
  obtain ⟨r1, r2, r3, r4, r5⟩ := root_facts a a0 a1
  obtain ⟨l1, l2, l3, l4, l5⟩ := log_facts a g0 a1
  obtain ⟨q1, q2⟩ := root_next _ r1 hr
  have cR := hid (fun w => Root_all a w a0 a1)
  generalize M.rootI a = R at *
  go_enter Tryd.func5, Tryd.ntmps5
  go_wp2_with (first
    | (go_at_call 7; refine (alive_any _ hT).mono ?_; rintro e w' ⟨rfl, m, rfl⟩)
    | (go_at_call 10; refine (cR.out _).mono ?_; rintro e w' ⟨rfl, rfl⟩)
    | (go_at_call 12; refine (Bits_all _ _ a0 a1).mono ?_; rintro e w' ⟨rfl, rfl⟩)
    | (go_at_call 8; refine (Log_all _ _ ?_ ?_).mono ?_; assumption; assumption; rintro e w' ⟨rfl, rfl⟩)
    | (go_at_call 14; refine (Exp_all _ _ (Tab.drewN hT _)).mono ?_; rintro e w' ⟨rfl, m, rfl⟩))
  go_ret
  exact ⟨rfl, grown_drewN (Grown.refl _) _⟩

theorem Grow_SC2 (a b p q : Int) (w : World) (hT : Tab w) (a0 : 0 ≤ a) (a1 : a ≤ 18446744073709551615) (b0 : 0 ≤ b) (b1 : b ≤ 18446744073709551615) (hr : M.rootI a < 4294967295) (g0 : 0 < a) (g1 : M.logeI a = 0) (g2 : M.logeI b = 0) (g3 : b < a) (k1 : M.expeI p = 0) (k2 : M.expeI q = 1) :
    Calls Tryd.prog 5 #[.int .u64 a, .int .u64 b, .int .i32 p, .int .i32 q] w fun e w' => e = .returned (.bool true) ∧ Grown w w' := by
  obtain ⟨r1, r2, r3, r4, r5⟩ := root_facts a a0 a1
  obtain ⟨l1, l2, l3, l4, l5⟩ := log_facts a g0 a1
  obtain ⟨q1, q2⟩ := root_next _ r1 hr
  have cR := hid (fun w => Root_all a w a0 a1)
  generalize M.rootI a = R at *
  go_enter Tryd.func5, Tryd.ntmps5
  go_wp2_with (first
    | (go_at_call 7; refine (alive_any _ hT).mono ?_; rintro e w' ⟨rfl, m, rfl⟩)
    | (go_at_call 10; refine (cR.out _).mono ?_; rintro e w' ⟨rfl, rfl⟩)
    | (go_at_call 12; refine (Bits_all _ _ a0 a1).mono ?_; rintro e w' ⟨rfl, rfl⟩)
    | (go_at_call 8; refine (Log_all _ _ ?_ ?_).mono ?_; assumption; assumption; rintro e w' ⟨rfl, rfl⟩)
    | (go_at_call 14; refine (Exp_all _ _ (Tab.drewN hT _)).mono ?_; rintro e w' ⟨rfl, m, rfl⟩))
  go_ret
  exact ⟨rfl, grown_drewN (Grown.refl _) _⟩

theorem Grow_SC3 (a b p q : Int) (w : World) (hT : Tab w) (a0 : 0 ≤ a) (a1 : a ≤ 18446744073709551615) (b0 : 0 ≤ b) (b1 : b ≤ 18446744073709551615) (hr : M.rootI a < 4294967295) (g0 : 0 < a) (g1 : M.logeI a = 0) (g2 : M.logeI b = 0) (g3 : b < a) (k1 : M.expeI p = 0) (k2 : M.expeI q = 0) (k3 : q < p) :
    Calls Tryd.prog 5 #[.int .u64 a, .int .u64 b, .int .i32 p, .int .i32 q] w fun e w' => e = .returned (.bool true) ∧ Grown w w' := by
  obtain ⟨r1, r2, r3, r4, r5⟩ := root_facts a a0 a1
  obtain ⟨l1, l2, l3, l4, l5⟩ := log_facts a g0 a1
  obtain ⟨q1, q2⟩ := root_next _ r1 hr
  have cR := hid (fun w => Root_all a w a0 a1)
  generalize M.rootI a = R at *
  go_enter Tryd.func5, Tryd.ntmps5
  go_wp2_with (first
    | (go_at_call 7; refine (alive_any _ hT).mono ?_; rintro e w' ⟨rfl, m, rfl⟩)
    | (go_at_call 10; refine (cR.out _).mono ?_; rintro e w' ⟨rfl, rfl⟩)
    | (go_at_call 12; refine (Bits_all _ _ a0 a1).mono ?_; rintro e w' ⟨rfl, rfl⟩)
    | (go_at_call 8; refine (Log_all _ _ ?_ ?_).mono ?_; assumption; assumption; rintro e w' ⟨rfl, rfl⟩)
    | (go_at_call 14; refine (Exp_all _ _ (Tab.drewN hT _)).mono ?_; rintro e w' ⟨rfl, m, rfl⟩))
  go_ret
  exact ⟨rfl, grown_drewN (Grown.refl _) _⟩

theorem Grow_SC4 (a b p q : Int) (w : World) (hT : Tab w) (a0 : 0 ≤ a) (a1 : a ≤ 18446744073709551615) (b0 : 0 ≤ b) (b1 : b ≤ 18446744073709551615) (hr : M.rootI a < 4294967295) (g0 : 0 < a) (g1 : M.logeI a = 0) (g2 : M.logeI b = 0) (g3 : b < a) (k1 : M.expeI p = 0) (k2 : M.expeI q = 0) (k3 : p ≤ q) (k4 : M.expI p ≤ M.expI q) :
    Calls Tryd.prog 5 #[.int .u64 a, .int .u64 b, .int .i32 p, .int .i32 q] w fun e w' => e = .returned (.bool true) ∧ Grown w w' := by
  obtain ⟨r1, r2, r3, r4, r5⟩ := root_facts a a0 a1
  obtain ⟨l1, l2, l3, l4, l5⟩ := log_facts a g0 a1
  obtain ⟨q1, q2⟩ := root_next _ r1 hr
  have cR := hid (fun w => Root_all a w a0 a1)
  generalize M.rootI a = R at *
  go_enter Tryd.func5, Tryd.ntmps5
  go_wp2_with (first
    | (go_at_call 7; refine (alive_any _ hT).mono ?_; rintro e w' ⟨rfl, m, rfl⟩)
    | (go_at_call 10; refine (cR.out _).mono ?_; rintro e w' ⟨rfl, rfl⟩)
    | (go_at_call 12; refine (Bits_all _ _ a0 a1).mono ?_; rintro e w' ⟨rfl, rfl⟩)
    | (go_at_call 8; refine (Log_all _ _ ?_ ?_).mono ?_; assumption; assumption; rintro e w' ⟨rfl, rfl⟩)
    | (go_at_call 14; refine (Exp_all _ _ (Tab.drewN hT _)).mono ?_; rintro e w' ⟨rfl, m, rfl⟩))
  go_ret
  exact ⟨rfl, grown_drewN (Grown.refl _) _⟩

theorem Grow_SD1 (a b p q : Int) (w : World) (hT : Tab w) (a0 : 0 ≤ a) (a1 : a ≤ 18446744073709551615) (b0 : 0 ≤ b) (b1 : b ≤ 18446744073709551615) (hr : M.rootI a < 4294967295) (g0 : 0 < a) (g1 : M.logeI a = 0) (g2 : M.logeI b = 0) (g3 : a ≤ b) (g4 : M.logI a ≤ M.logI b) (k1 : M.expeI p = 1) :
    Calls Tryd.prog 5 #[.int .u64 a, .int .u64 b, .int .i32 p, .int .i32 q] w fun e w' => e = .returned (.bool true) ∧ Grown w w' := by
  obtain ⟨r1, r2, r3, r4, r5⟩ := root_facts a a0 a1
  obtain ⟨l1, l2, l3, l4, l5⟩ := log_facts a g0 a1
  obtain ⟨q1, q2⟩ := root_next _ r1 hr
  have cR := hid (fun w => Root_all a w a0 a1)
  generalize M.rootI a = R at *
  go_enter Tryd.func5, Tryd.ntmps5
  go_wp2_with (first
    | (go_at_call 7; refine (alive_any _ hT).mono ?_; rintro e w' ⟨rfl, m, rfl⟩)
    | (go_at_call 10; refine (cR.out _).mono ?_; rintro e w' ⟨rfl, rfl⟩)
    | (go_at_call 12; refine (Bits_all _ _ a0 a1).mono ?_; rintro e w' ⟨rfl, rfl⟩)
    | (go_at_call 8; refine (Log_all _ _ ?_ ?_).mono ?_; assumption; assumption; rintro e w' ⟨rfl, rfl⟩)
    | (go_at_call 14; refine (Exp_all _ _ (Tab.drewN hT _)).mono ?_; rintro e w' ⟨rfl, m, rfl⟩))
  go_ret
  exact ⟨rfl, grown_drewN (Grown.refl _) _⟩

theorem Grow_SD2 (a b p q : Int) (w : World) (hT : Tab w) (a0 : 0 ≤ a) (a1 : a ≤ 18446744073709551615) (b0 : 0 ≤ b) (b1 : b ≤ 18446744073709551615) (hr : M.rootI a < 4294967295) (g0 : 0 < a) (g1 : M.logeI a = 0) (g2 : M.logeI b = 0) (g3 : a ≤ b) (g4 : M.logI a ≤ M.logI b) (k1 : M.expeI p = 0) (k2 : M.expeI q = 1) :
    Calls Tryd.prog 5 #[.int .u64 a, .int .u64 b, .int .i32 p, .int .i32 q] w fun e w' => e = .returned (.bool true) ∧ Grown w w' := by
  obtain ⟨r1, r2, r3, r4, r5⟩ := root_facts a a0 a1
  obtain ⟨l1, l2, l3, l4, l5⟩ := log_facts a g0 a1
  obtain ⟨q1, q2⟩ := root_next _ r1 hr
  have cR := hid (fun w => Root_all a w a0 a1)
  generalize M.rootI a = R at *
  go_enter Tryd.func5, Tryd.ntmps5
  go_wp2_with (first
    | (go_at_call 7; refine (alive_any _ hT).mono ?_; rintro e w' ⟨rfl, m, rfl⟩)
    | (go_at_call 10; refine (cR.out _).mono ?_; rintro e w' ⟨rfl, rfl⟩)
    | (go_at_call 12; refine (Bits_all _ _ a0 a1).mono ?_; rintro e w' ⟨rfl, rfl⟩)
    | (go_at_call 8; refine (Log_all _ _ ?_ ?_).mono ?_; assumption; assumption; rintro e w' ⟨rfl, rfl⟩)
    | (go_at_call 14; refine (Exp_all _ _ (Tab.drewN hT _)).mono ?_; rintro e w' ⟨rfl, m, rfl⟩))
  go_ret
  exact ⟨rfl, grown_drewN (Grown.refl _) _⟩

theorem Grow_SD3 (a b p q : Int) (w : World) (hT : Tab w) (a0 : 0 ≤ a) (a1 : a ≤ 18446744073709551615) (b0 : 0 ≤ b) (b1 : b ≤ 18446744073709551615) (hr : M.rootI a < 4294967295) (g0 : 0 < a) (g1 : M.logeI a = 0) (g2 : M.logeI b = 0) (g3 : a ≤ b) (g4 : M.logI a ≤ M.logI b) (k1 : M.expeI p = 0) (k2 : M.expeI q = 0) (k3 : q < p) :
    Calls Tryd.prog 5 #[.int .u64 a, .int .u64 b, .int .i32 p, .int .i32 q] w fun e w' => e = .returned (.bool true) ∧ Grown w w' := by
  obtain ⟨r1, r2, r3, r4, r5⟩ := root_facts a a0 a1
  obtain ⟨l1, l2, l3, l4, l5⟩ := log_facts a g0 a1
  obtain ⟨q1, q2⟩ := root_next _ r1 hr
  have cR := hid (fun w => Root_all a w a0 a1)
  generalize M.rootI a = R at *
  go_enter Tryd.func5, Tryd.ntmps5
  go_wp2_with (first
    | (go_at_call 7; refine (alive_any _ hT).mono ?_; rintro e w' ⟨rfl, m, rfl⟩)
    | (go_at_call 10; refine (cR.out _).mono ?_; rintro e w' ⟨rfl, rfl⟩)
    | (go_at_call 12; refine (Bits_all _ _ a0 a1).mono ?_; rintro e w' ⟨rfl, rfl⟩)
    | (go_at_call 8; refine (Log_all _ _ ?_ ?_).mono ?_; assumption; assumption; rintro e w' ⟨rfl, rfl⟩)
    | (go_at_call 14; refine (Exp_all _ _ (Tab.drewN hT _)).mono ?_; rintro e w' ⟨rfl, m, rfl⟩))
  go_ret
  exact ⟨rfl, grown_drewN (Grown.refl _) _⟩

theorem Grow_SD4 (a b p q : Int) (w : World) (hT : Tab w) (a0 : 0 ≤ a) (a1 : a ≤ 18446744073709551615) (b0 : 0 ≤ b) (b1 : b ≤ 18446744073709551615) (hr : M.rootI a < 4294967295) (g0 : 0 < a) (g1 : M.logeI a = 0) (g2 : M.logeI b = 0) (g3 : a ≤ b) (g4 : M.logI a ≤ M.logI b) (k1 : M.expeI p = 0) (k2 : M.expeI q = 0) (k3 : p ≤ q) (k4 : M.expI p ≤ M.expI q) :
    Calls Tryd.prog 5 #[.int .u64 a, .int .u64 b, .int .i32 p, .int .i32 q] w fun e w' => e = .returned (.bool true) ∧ Grown w w' := by
  obtain ⟨r1, r2, r3, r4, r5⟩ := root_facts a a0 a1
  obtain ⟨l1, l2, l3, l4, l5⟩ := log_facts a g0 a1
  obtain ⟨q1, q2⟩ := root_next _ r1 hr
  have cR := hid (fun w => Root_all a w a0 a1)
  generalize M.rootI a = R at *
  go_enter Tryd.func5, Tryd.ntmps5
  go_wp2_with (first
    | (go_at_call 7; refine (alive_any _ hT).mono ?_; rintro e w' ⟨rfl, m, rfl⟩)
    | (go_at_call 10; refine (cR.out _).mono ?_; rintro e w' ⟨rfl, rfl⟩)
    | (go_at_call 12; refine (Bits_all _ _ a0 a1).mono ?_; rintro e w' ⟨rfl, rfl⟩)
    | (go_at_call 8; refine (Log_all _ _ ?_ ?_).mono ?_; assumption; assumption; rintro e w' ⟨rfl, rfl⟩)
    | (go_at_call 14; refine (Exp_all _ _ (Tab.drewN hT _)).mono ?_; rintro e w' ⟨rfl, m, rfl⟩))
  go_ret
  exact ⟨rfl, grown_drewN (Grown.refl _) _⟩

theorem LogsGrow_walk (a b p q : Int) (w0 : (Lit.int .u64 a).wf = true) (w1 : (Lit.int .u64 b).wf = true) (w : World) (hT : Tab w) :
    Calls Tryd.prog 5 #[.int .u64 a, .int .u64 b, .int .i32 p, .int .i32 q] w fun e w' => e = .returned (.bool true) ∧ Grown w w' := by
  have ⟨a0, a1⟩ : 0 ≤ a ∧ a ≤ 18446744073709551615 := by simpa [Lit.wf, IntKind.min, IntKind.max, IntKind.signed, IntKind.bits] using w0
  have ⟨b0, b1⟩ : 0 ≤ b ∧ b ≤ 18446744073709551615 := by simpa [Lit.wf, IntKind.min, IntKind.max, IntKind.signed, IntKind.bits] using w1
  have hr : M.rootI a = 4294967295 ∨ M.rootI a < 4294967295 := by have := (root_facts a a0 a1).2.1; omega
  rcases hr with hr | hr
  · rcases logs a b a0 b0 with ⟨g0, g1⟩ | ⟨g0, g1, g2⟩ | ⟨g0, g1, g2, g3⟩ | ⟨g0, g1, g2, g3, g4⟩
    · subst g0
      have hz : M.rootI 0 = 0 := by unfold M.rootI; rw [M.root_of (r := 0) (by decide) (by decide)]; rfl
      omega
    · rcases exps p q with k1 | ⟨k1, k2⟩ | ⟨k1, k2, k3⟩ | ⟨k1, k2, k3, k4⟩
      · exact Grow_RB1 a b p q w hT a0 a1 b0 b1 hr g0 g1 g2 k1
      · exact Grow_RB2 a b p q w hT a0 a1 b0 b1 hr g0 g1 g2 k1 k2
      · exact Grow_RB3 a b p q w hT a0 a1 b0 b1 hr g0 g1 g2 k1 k2 k3
      · exact Grow_RB4 a b p q w hT a0 a1 b0 b1 hr g0 g1 g2 k1 k2 k3 k4
    · rcases exps p q with k1 | ⟨k1, k2⟩ | ⟨k1, k2, k3⟩ | ⟨k1, k2, k3, k4⟩
      · exact Grow_RC1 a b p q w hT a0 a1 b0 b1 hr g0 g1 g2 g3 k1
      · exact Grow_RC2 a b p q w hT a0 a1 b0 b1 hr g0 g1 g2 g3 k1 k2
      · exact Grow_RC3 a b p q w hT a0 a1 b0 b1 hr g0 g1 g2 g3 k1 k2 k3
      · exact Grow_RC4 a b p q w hT a0 a1 b0 b1 hr g0 g1 g2 g3 k1 k2 k3 k4
    · rcases exps p q with k1 | ⟨k1, k2⟩ | ⟨k1, k2, k3⟩ | ⟨k1, k2, k3, k4⟩
      · exact Grow_RD1 a b p q w hT a0 a1 b0 b1 hr g0 g1 g2 g3 g4 k1
      · exact Grow_RD2 a b p q w hT a0 a1 b0 b1 hr g0 g1 g2 g3 g4 k1 k2
      · exact Grow_RD3 a b p q w hT a0 a1 b0 b1 hr g0 g1 g2 g3 g4 k1 k2 k3
      · exact Grow_RD4 a b p q w hT a0 a1 b0 b1 hr g0 g1 g2 g3 g4 k1 k2 k3 k4
  · rcases logs a b a0 b0 with ⟨g0, g1⟩ | ⟨g0, g1, g2⟩ | ⟨g0, g1, g2, g3⟩ | ⟨g0, g1, g2, g3, g4⟩
    · rcases exps p q with k1 | ⟨k1, k2⟩ | ⟨k1, k2, k3⟩ | ⟨k1, k2, k3, k4⟩
      · exact Grow_SA1 a b p q w hT a0 a1 b0 b1 hr g1 g0 k1
      · exact Grow_SA2 a b p q w hT a0 a1 b0 b1 hr g1 g0 k1 k2
      · exact Grow_SA3 a b p q w hT a0 a1 b0 b1 hr g1 g0 k1 k2 k3
      · exact Grow_SA4 a b p q w hT a0 a1 b0 b1 hr g1 g0 k1 k2 k3 k4
    · rcases exps p q with k1 | ⟨k1, k2⟩ | ⟨k1, k2, k3⟩ | ⟨k1, k2, k3, k4⟩
      · exact Grow_SB1 a b p q w hT a0 a1 b0 b1 hr g0 g1 g2 k1
      · exact Grow_SB2 a b p q w hT a0 a1 b0 b1 hr g0 g1 g2 k1 k2
      · exact Grow_SB3 a b p q w hT a0 a1 b0 b1 hr g0 g1 g2 k1 k2 k3
      · exact Grow_SB4 a b p q w hT a0 a1 b0 b1 hr g0 g1 g2 k1 k2 k3 k4
    · rcases exps p q with k1 | ⟨k1, k2⟩ | ⟨k1, k2, k3⟩ | ⟨k1, k2, k3, k4⟩
      · exact Grow_SC1 a b p q w hT a0 a1 b0 b1 hr g0 g1 g2 g3 k1
      · exact Grow_SC2 a b p q w hT a0 a1 b0 b1 hr g0 g1 g2 g3 k1 k2
      · exact Grow_SC3 a b p q w hT a0 a1 b0 b1 hr g0 g1 g2 g3 k1 k2 k3
      · exact Grow_SC4 a b p q w hT a0 a1 b0 b1 hr g0 g1 g2 g3 k1 k2 k3 k4
    · rcases exps p q with k1 | ⟨k1, k2⟩ | ⟨k1, k2, k3⟩ | ⟨k1, k2, k3, k4⟩
      · exact Grow_SD1 a b p q w hT a0 a1 b0 b1 hr g0 g1 g2 g3 g4 k1
      · exact Grow_SD2 a b p q w hT a0 a1 b0 b1 hr g0 g1 g2 g3 g4 k1 k2
      · exact Grow_SD3 a b p q w hT a0 a1 b0 b1 hr g0 g1 g2 g3 g4 k1 k2 k3
      · exact Grow_SD4 a b p q w hT a0 a1 b0 b1 hr g0 g1 g2 g3 g4 k1 k2 k3 k4

end Logs
end Go.Proofs.YthfligbkgoonoaaDoor
