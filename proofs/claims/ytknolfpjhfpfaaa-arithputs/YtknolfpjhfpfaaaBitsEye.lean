/-
  Contracts of an eye's reading calls (package bits). Conditions: the object stands in memory as Open makes it.
-/
import Derived.Test.YtknolfpjhfpfaaaBitsPad
namespace Go.Proofs.Ytknolfpjhfpfaaa
set_option linter.unusedVariables false
open Go.RowKit
namespace Bits

end Bits
end Go.Proofs.Ytknolfpjhfpfaaa
