/-
  Contracts of the document's Get (psalteryref05). Conditions: the object stands in memory as Of makes it.
-/
import Derived.Test.YtknolfpjhfpfaaaBitsPut
namespace Go.Proofs.Ytknolfpjhfpfaaa
set_option linter.unusedVariables false
open Go.RowKit
namespace Bits

theorem wrap32_id (n : Int) (h0 : 0 ≤ n) (h1 : n < 4294967296) : IntKind.u32.wrap n = n := by rw [IntKind.wrap_u32']; omega

end Bits
end Go.Proofs.Ytknolfpjhfpfaaa
