/-
  Contracts of the document's Put (psalteryref05). Conditions: the object stands in memory as New makes it.
-/
import Derived.Test.YtknolfpjhfpfaaaBitsRef
import Derived.BigRegion
import Derived.BigQuiet
namespace Go.Proofs.Ytknolfpjhfpfaaa
set_option linter.unusedVariables false
open Go.RowKit
namespace Bits

theorem wrapu_id (n : Int) (h0 : 0 ≤ n) (h1 : n < 18446744073709551616) : IntKind.u64.wrap n = n := by rw [IntKind.wrap_u64]; omega
theorem may_of_mayv {N h t v : Nat} {k : Int} (h0 : ¬ k < 0) (h1 : ¬ 32 < k) (h2 : v < 2 ^ k.toNat) : M.mayv N h t v k = M.may N h t k := by
  unfold M.mayv M.may
  rw [if_neg (show ¬ (k < 0 ∨ 32 < k ∨ 2 ^ k.toNat ≤ v) by omega), if_neg (show ¬ (k < 0 ∨ 32 < k) by omega)]

end Bits
end Go.Proofs.Ytknolfpjhfpfaaa
