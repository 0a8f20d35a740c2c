/-
  NARROWER THAN 'FOR EVERY INPUT', by the rows' own cells (each row's printed sentence says how): LogsReckon: laid · LogsPower: laid · LogsGrow: laid · LogsNear: laid.
  DERIVED. THE GIVEN ROWS OF THIS SEAT. 4 by the template 'for every input the law returns true; each argument reads behind the call as it read before'; 0 by the template 'total and deterministic' (their statements: YthfligbkgoonoaaDoorTotals.lean).
  GIVEN WITH THE SEED: the statements are not yours to turn. If you find one false, say at which input.
  Laid BY PROGRAM, IN A SANDBOX (cutbox-rows.mjs): the forced cells as the released guide's own fill.sh prints them over the translation a54fc15012fb9275… (all of the seat's roots in one cut). By AI agents, Wed Nov 11 2026. No macro, syntax, notation, axiom, sorry.
-/
import Derived.Test.YthfligbkgoonoaaDoorChecked
import GoSem.Claim
import GoSem.ClaimJoined
import GoSem.ClaimMapViews
import Derived.JoinedTies
import Derived.KernelRfl
namespace Go.Proofs.YthfligbkgoonoaaDoor
/- THE CELL 'sum', in the pinned program and in every row, IS THE sha256 OF THE DUMP (.gsa) THAT YthfligbkgoonoaaDoorProg.lean LOADS. Nothing in Lean hashes anything: it is a label: what it is worth is what the hold of that sum in a sandbox is worth. -/
noncomputable def Tryd.pinned : Pinned := { name := "ythfligbkgoonoaadoor", sum := "a54fc15012fb92754f2df088e59bae3d2773f8015d4d8794993d9b997e74707b", checked := Tryd.checked }
namespace Rows
def none {H : Type} : Left H := { results := [], args := [] }

/- WHAT THE LISTED PACKAGE-LEVEL VARIABLES READ AS WHEN THE CALL BEGINS. Each datum BY PROGRAM (the guide's laid-datum.mjs) off the statement by which the dump's own 'gosem.cut.vars' lays the variable. In a bare row this is a premise. The card (YthfligbkgoonoaaDoorCards.lean) ties it to the program's text. -/
def laid_psaltery_logs_rootsOfTwo {H : Type} : DataW H := .agg [.lit (.int .i64 1518500249), .lit (.int .i64 1276901416), .lit (.int .i64 1170923761), .lit (.int .i64 1121280435), .lit (.int .i64 1097253708), .lit (.int .i64 1085434105), .lit (.int .i64 1079572135), .lit (.int .i64 1076653033)]

/-- 'psalterylaw02.LogsReckon': WHATEVER THE INPUT: true; the input reads as it did. -/
def logsReckonSpec : ChangeSpec := { name := "logsReckon", fn := fun _ => fun
  | [d] => { results := [.lit (.bool true)], args := [d] }
  | _ => none }
def logsReckonRow : OpenClaim := { program := "ythfligbkgoonoaadoor", sum := "a54fc15012fb92754f2df088e59bae3d2773f8015d4d8794993d9b997e74707b", func := "psaltery/psalterylaw02.LogsReckon", spec := "logsReckon", named := ["psaltery/logs.rootsOfTwo"], apart := false, laid := [("psaltery/logs.rootsOfTwo", laid_psaltery_logs_rootsOfTwo)] }
def LogsReckonSaid : Prop := logsReckonRow.holds Tryd.pinned (OpenSpec.ofChange logsReckonSpec)

/-- ITS FALSE NEIGHBOUR: 'it returns false'. Refute it at one input. -/
def logsReckonWrong : ChangeSpec := { name := "logsReckon", fn := fun _ => fun
  | [d] => { results := [.lit (.bool false)], args := [d] }
  | _ => none }
def LogsReckonWrongFalsely : Prop := logsReckonRow.holds Tryd.pinned (OpenSpec.ofChange logsReckonWrong)

/-- 'psalterylaw02.LogsPower': WHATEVER THE INPUT: true; the input reads as it did. -/
def logsPowerSpec : ChangeSpec := { name := "logsPower", fn := fun _ => fun
  | [d] => { results := [.lit (.bool true)], args := [d] }
  | _ => none }
def logsPowerRow : OpenClaim := { program := "ythfligbkgoonoaadoor", sum := "a54fc15012fb92754f2df088e59bae3d2773f8015d4d8794993d9b997e74707b", func := "psaltery/psalterylaw02.LogsPower", spec := "logsPower", named := ["psaltery/logs.rootsOfTwo"], apart := false, laid := [("psaltery/logs.rootsOfTwo", laid_psaltery_logs_rootsOfTwo)] }
def LogsPowerSaid : Prop := logsPowerRow.holds Tryd.pinned (OpenSpec.ofChange logsPowerSpec)

/-- ITS FALSE NEIGHBOUR: 'it returns false'. Refute it at one input. -/
def logsPowerWrong : ChangeSpec := { name := "logsPower", fn := fun _ => fun
  | [d] => { results := [.lit (.bool false)], args := [d] }
  | _ => none }
def LogsPowerWrongFalsely : Prop := logsPowerRow.holds Tryd.pinned (OpenSpec.ofChange logsPowerWrong)

/-- 'psalterylaw02.LogsGrow': WHATEVER THE INPUT: true; the input reads as it did. -/
def logsGrowSpec : ChangeSpec := { name := "logsGrow", fn := fun _ => fun
  | [d1, d2, d3, d4] => { results := [.lit (.bool true)], args := [d1, d2, d3, d4] }
  | _ => none }
def logsGrowRow : OpenClaim := { program := "ythfligbkgoonoaadoor", sum := "a54fc15012fb92754f2df088e59bae3d2773f8015d4d8794993d9b997e74707b", func := "psaltery/psalterylaw02.LogsGrow", spec := "logsGrow", named := ["psaltery/logs.rootsOfTwo"], apart := false, laid := [("psaltery/logs.rootsOfTwo", laid_psaltery_logs_rootsOfTwo)] }
def LogsGrowSaid : Prop := logsGrowRow.holds Tryd.pinned (OpenSpec.ofChange logsGrowSpec)

/-- ITS FALSE NEIGHBOUR: 'it returns false'. Refute it at one input. -/
def logsGrowWrong : ChangeSpec := { name := "logsGrow", fn := fun _ => fun
  | [d1, d2, d3, d4] => { results := [.lit (.bool false)], args := [d1, d2, d3, d4] }
  | _ => none }
def LogsGrowWrongFalsely : Prop := logsGrowRow.holds Tryd.pinned (OpenSpec.ofChange logsGrowWrong)

/-- 'psalterylaw02.LogsNear': WHATEVER THE INPUT: true; the input reads as it did. -/
def logsNearSpec : ChangeSpec := { name := "logsNear", fn := fun _ => fun
  | [d] => { results := [.lit (.bool true)], args := [d] }
  | _ => none }
def logsNearRow : OpenClaim := { program := "ythfligbkgoonoaadoor", sum := "a54fc15012fb92754f2df088e59bae3d2773f8015d4d8794993d9b997e74707b", func := "psaltery/psalterylaw02.LogsNear", spec := "logsNear", named := ["psaltery/logs.rootsOfTwo"], apart := false, laid := [("psaltery/logs.rootsOfTwo", laid_psaltery_logs_rootsOfTwo)] }
def LogsNearSaid : Prop := logsNearRow.holds Tryd.pinned (OpenSpec.ofChange logsNearSpec)

/-- ITS FALSE NEIGHBOUR: 'it returns false'. Refute it at one input. -/
def logsNearWrong : ChangeSpec := { name := "logsNear", fn := fun _ => fun
  | [d] => { results := [.lit (.bool false)], args := [d] }
  | _ => none }
def LogsNearWrongFalsely : Prop := logsNearRow.holds Tryd.pinned (OpenSpec.ofChange logsNearWrong)

/- THE SECOND FORM. 'bulk': how many values and letters a reading holds, each counted each time it is reached (what is shared counts as often as it is met; a slice's spare places count too). A statement '..UptoSaid' is the law's where the arguments, and the package variables that the reading takes, are together of bulk at most 1048576: NARROWER than '..Said'. Prove '..Said' where nothing that the law and all that it calls make is longer than what came in: it says more and counts as full. Else prove '..UptoSaid'. A law counts once. -/
mutual
def uptoBulk {H : Type} : DataW H → Nat
  | .lit (.string bytes) => bytes.length + 1
  | .lit _ => 1
  | .nil => 1
  | .ptr d => uptoBulk d + 1
  | .slice elems spare => uptoBulkAll elems + uptoBulkAll spare + 1
  | .agg parts => uptoBulkAll parts + 1
  | .iface _ d => uptoBulk d + 1
  | .map entries => uptoBulkEntries entries + 1
  | .held _ => 1
def uptoBulkAll {H : Type} : List (DataW H) → Nat
  | [] => 0
  | d :: r => uptoBulk d + uptoBulkAll r
def uptoBulkEntries {H : Type} : List (Lit × DataW H) → Nat
  | [] => 0
  | x :: r => uptoBulkEntry x + uptoBulkEntries r
def uptoBulkEntry {H : Type} : Lit × DataW H → Nat
  | (.string bytes, d) => bytes.length + uptoBulk d + 1
  | (_, d) => uptoBulk d + 1
 end
def uptoSmall : (H : Type) → List (DataW H) → Bool := fun _ ds => decide (uptoBulkAll ds ≤ 1048576)
def OpenSpec.upto (s : _root_.Go.ChangeSpec) : _root_.Go.OpenSpec := { _root_.Go.OpenSpec.ofChange s with cond := some uptoSmall }

/-- 'psalterylaw02.LogsReckon', WHERE WHAT IT READS IS OF BULK AT MOST 1048576: true; the input reads as it did. -/
def logsReckonUptoRow : OpenClaim := { program := "ythfligbkgoonoaadoor", sum := "a54fc15012fb92754f2df088e59bae3d2773f8015d4d8794993d9b997e74707b", func := "psaltery/psalterylaw02.LogsReckon", spec := "logsReckon", named := ["psaltery/logs.rootsOfTwo"], apart := false, laid := [("psaltery/logs.rootsOfTwo", laid_psaltery_logs_rootsOfTwo)], narrowed := true }
def LogsReckonUptoSaid : Prop := logsReckonUptoRow.holds Tryd.pinned (OpenSpec.upto logsReckonSpec)

/-- 'psalterylaw02.LogsPower', WHERE WHAT IT READS IS OF BULK AT MOST 1048576: true; the input reads as it did. -/
def logsPowerUptoRow : OpenClaim := { program := "ythfligbkgoonoaadoor", sum := "a54fc15012fb92754f2df088e59bae3d2773f8015d4d8794993d9b997e74707b", func := "psaltery/psalterylaw02.LogsPower", spec := "logsPower", named := ["psaltery/logs.rootsOfTwo"], apart := false, laid := [("psaltery/logs.rootsOfTwo", laid_psaltery_logs_rootsOfTwo)], narrowed := true }
def LogsPowerUptoSaid : Prop := logsPowerUptoRow.holds Tryd.pinned (OpenSpec.upto logsPowerSpec)

/-- 'psalterylaw02.LogsGrow', WHERE WHAT IT READS IS OF BULK AT MOST 1048576: true; the input reads as it did. -/
def logsGrowUptoRow : OpenClaim := { program := "ythfligbkgoonoaadoor", sum := "a54fc15012fb92754f2df088e59bae3d2773f8015d4d8794993d9b997e74707b", func := "psaltery/psalterylaw02.LogsGrow", spec := "logsGrow", named := ["psaltery/logs.rootsOfTwo"], apart := false, laid := [("psaltery/logs.rootsOfTwo", laid_psaltery_logs_rootsOfTwo)], narrowed := true }
def LogsGrowUptoSaid : Prop := logsGrowUptoRow.holds Tryd.pinned (OpenSpec.upto logsGrowSpec)

/-- 'psalterylaw02.LogsNear', WHERE WHAT IT READS IS OF BULK AT MOST 1048576: true; the input reads as it did. -/
def logsNearUptoRow : OpenClaim := { program := "ythfligbkgoonoaadoor", sum := "a54fc15012fb92754f2df088e59bae3d2773f8015d4d8794993d9b997e74707b", func := "psaltery/psalterylaw02.LogsNear", spec := "logsNear", named := ["psaltery/logs.rootsOfTwo"], apart := false, laid := [("psaltery/logs.rootsOfTwo", laid_psaltery_logs_rootsOfTwo)], narrowed := true }
def LogsNearUptoSaid : Prop := logsNearUptoRow.holds Tryd.pinned (OpenSpec.upto logsNearSpec)

end Rows
end Go.Proofs.YthfligbkgoonoaaDoor
