/-
  The walk of the law FixReckons of layer 1 (fix), out of the contracts. Conditions: each number fits its kind.
-/
import Derived.Test.YtffencnmljfafaaFixRef
import Derived.ProofKit
import Derived.OpenShut
namespace Go.Proofs.Ytffencnmljfafaa
open Go.RowKit
namespace Reckons

theorem grown_drewN {W w' : World} (h : Grown W w') (n : Nat) : Grown W (w'.drewN n) := h
theorem bd32 {n : Int} (h : (Lit.int .i32 n).wf = true) : -2147483648 ≤ n ∧ n ≤ 2147483647 := by
  simpa [Lit.wf, IntKind.min, IntKind.max, IntKind.signed, IntKind.bits] using h
theorem bd16 {n : Int} (h : (Lit.int .i16 n).wf = true) : -32768 ≤ n ∧ n ≤ 32767 := by
  simpa [Lit.wf, IntKind.min, IntKind.max, IntKind.signed, IntKind.bits] using h

theorem alive_any (w : World) :
    Calls Try.prog 7 #[] w fun e w' => e = .returned (.bool true) ∧ ∃ m, w' = w.drewN m := by
  have e1 : M.rnd 3 1 = 2 := by decide
  have e2 : M.rnd (-3) 1 = -1 := by decide
  have e3 : M.sat32 (M.rnd 4611686018427387904 31) = 2147483647 := by decide
  have e4 : M.spare 1 = 30 := by decide
  go_enter Try.func7, Try.ntmps7
  go_wp2_with (first
    | (go_at_call 18; refine (Round_any _ _ _ (by decide) (by decide)).mono ?_; rintro e w' ⟨rfl, m, rfl⟩)
    | (go_at_call 13; refine (Mul31_any _ _ _ (by decide) (by decide)).mono ?_; rintro e w' ⟨rfl, m, rfl⟩)
    | (go_at_call 14; refine (Spare_any _ _ (by decide)).mono ?_; rintro e w' ⟨rfl, rfl⟩))
  go_ret
  exact ⟨rfl, _, rfl⟩

end Reckons

set_option maxHeartbeats 1000000 in
theorem FixReckons_walk (a0 a1 a2 : Int) (w0 : (Lit.int .i32 a0).wf = true) (w1 : (Lit.int .i32 a1).wf = true) (w2 : (Lit.int .i16 a2).wf = true) (w : World) :
    Calls Try.prog 3 #[.int .i32 a0, .int .i32 a1, .int .i16 a2] w fun e w' => e = .returned (.bool true) ∧ Grown w w' := by
  have b0 := Reckons.bd32 w0
  have b1 := Reckons.bd32 w1
  have b2 := Reckons.bd16 w2
  clear w0 w1 w2
  have hp := M.mul_bd a0 a1 2147483648 2147483648 (by omega) (by omega) (by omega) (by omega)
  have hq := M.mul_bd a0 a2 2147483648 32768 (by omega) (by omega) (by omega) (by omega)
  have s1 := M.sat32_bd (a0 + a1)
  have s2 := M.sat32_bd (a0 - a1)
  go_enter Try.func3, Try.ntmps3
  go_wp2_with (first
    | (go_at_call 7; refine (Reckons.alive_any _).mono ?_; rintro e w' ⟨rfl, m, rfl⟩)
    | (go_at_call 8; refine (Add_any _ _ _ (by omega) (by omega)).mono ?_; rintro e w' ⟨rfl, rfl⟩)
    | (go_at_call 10; refine (Sub_any _ _ _ (by omega) (by omega)).mono ?_; rintro e w' ⟨rfl, rfl⟩)
    | (go_at_call 11; refine (Mul15_any _ _ _ (by omega) (by omega)).mono ?_; rintro e w' ⟨rfl, m, rfl⟩)
    | (go_at_call 13; refine (Mul31_any _ _ _ (by omega) (by omega)).mono ?_; rintro e w' ⟨rfl, m, rfl⟩)
    | (go_at_call 14; refine (Spare_any _ _ (by omega)).mono ?_; rintro e w' ⟨rfl, rfl⟩)
    | (go_at_call 9; refine (Ref.Sat_any _ _ (by omega) (by omega)).mono ?_; rintro e w' ⟨rfl, rfl⟩)
    | (go_at_call 12; refine (Ref.Mul_any _ _ _ _ (by omega) (by omega)).mono ?_; rintro e w' ⟨rfl, rfl⟩)
    | (go_at_call 15; refine (Ref.Spare_any _ _ (by omega)).mono ?_; rintro e w' ⟨rfl, rfl⟩))
  go_ret
  exact ⟨rfl, Reckons.grown_drewN (Grown.refl _) _⟩

end Go.Proofs.Ytffencnmljfafaa
