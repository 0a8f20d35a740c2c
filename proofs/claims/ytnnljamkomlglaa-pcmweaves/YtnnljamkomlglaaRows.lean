/-
  No cell of these rows narrows 'for every input' (looked for: loops, veiled, ifaces, maps, wideKeys, modest, calm, conditions, laid).
  DERIVED. THE GIVEN ROWS OF THIS SEAT. 4 by the template 'for every input the law returns true; each argument reads behind the call as it read before'; 0 by the template 'total and deterministic' (their statements: YtnnljamkomlglaaTotals.lean).
  GIVEN WITH THE SEED: the statements are not yours to turn. If you find one false, say at which input.
  Laid BY PROGRAM, IN A SANDBOX (cutbox-rows.mjs): the forced cells as the released guide's own fill.sh prints them over the translation 1216c81e98685c0e… (all of the seat's roots in one cut). By AI agents, Wed Nov 11 2026. No macro, syntax, notation, axiom, sorry.
-/
import Derived.Test.YtnnljamkomlglaaChecked
import GoSem.Claim
import GoSem.ClaimJoined
import GoSem.ClaimMapViews
import Derived.JoinedTies
import Derived.KernelRfl
namespace Go.Proofs.Ytnnljamkomlglaa
/- THE CELL 'sum', in the pinned program and in every row, IS THE sha256 OF THE DUMP (.gsa) THAT YtnnljamkomlglaaProg.lean LOADS. Nothing in Lean hashes anything: it is a label: what it is worth is what the hold of that sum in a sandbox is worth. -/
noncomputable def Try.pinned : Pinned := { name := "ytnnljamkomlglaa", sum := "1216c81e98685c0ef289bebdefcadb6a8f00f2f904341b9344493d6837ef9c19", checked := Try.checked }
namespace Rows
def none {H : Type} : Left H := { results := [], args := [] }

/-- 'psalterylaw10.PcmParts': WHATEVER THE INPUT: true; the input reads as it did. -/
def pcmPartsSpec : ChangeSpec := { name := "pcmParts", fn := fun _ => fun
  | [d1, d2] => { results := [.lit (.bool true)], args := [d1, d2] }
  | _ => none }
def pcmPartsRow : OpenClaim := { program := "ytnnljamkomlglaa", sum := "1216c81e98685c0ef289bebdefcadb6a8f00f2f904341b9344493d6837ef9c19", func := "psaltery/psalterylaw10.PcmParts", spec := "pcmParts", apart := false }
def PcmPartsSaid : Prop := pcmPartsRow.holds Try.pinned (OpenSpec.ofChange pcmPartsSpec)

/-- ITS FALSE NEIGHBOUR: 'it returns false'. Refute it at one input. -/
def pcmPartsWrong : ChangeSpec := { name := "pcmParts", fn := fun _ => fun
  | [d1, d2] => { results := [.lit (.bool false)], args := [d1, d2] }
  | _ => none }
def PcmPartsWrongFalsely : Prop := pcmPartsRow.holds Try.pinned (OpenSpec.ofChange pcmPartsWrong)

/-- 'psalterylaw10.PcmWeaves': WHATEVER THE INPUT: true; the input reads as it did. -/
def pcmWeavesSpec : ChangeSpec := { name := "pcmWeaves", fn := fun _ => fun
  | [d] => { results := [.lit (.bool true)], args := [d] }
  | _ => none }
def pcmWeavesRow : OpenClaim := { program := "ytnnljamkomlglaa", sum := "1216c81e98685c0ef289bebdefcadb6a8f00f2f904341b9344493d6837ef9c19", func := "psaltery/psalterylaw10.PcmWeaves", spec := "pcmWeaves", apart := false }
def PcmWeavesSaid : Prop := pcmWeavesRow.holds Try.pinned (OpenSpec.ofChange pcmWeavesSpec)

/-- ITS FALSE NEIGHBOUR: 'it returns false'. Refute it at one input. -/
def pcmWeavesWrong : ChangeSpec := { name := "pcmWeaves", fn := fun _ => fun
  | [d] => { results := [.lit (.bool false)], args := [d] }
  | _ => none }
def PcmWeavesWrongFalsely : Prop := pcmWeavesRow.holds Try.pinned (OpenSpec.ofChange pcmWeavesWrong)

/-- 'psalterylaw10.PcmStores': WHATEVER THE INPUT: true; the input reads as it did. -/
def pcmStoresSpec : ChangeSpec := { name := "pcmStores", fn := fun _ => fun
  | [d1, d2] => { results := [.lit (.bool true)], args := [d1, d2] }
  | _ => none }
def pcmStoresRow : OpenClaim := { program := "ytnnljamkomlglaa", sum := "1216c81e98685c0ef289bebdefcadb6a8f00f2f904341b9344493d6837ef9c19", func := "psaltery/psalterylaw10.PcmStores", spec := "pcmStores", apart := false }
def PcmStoresSaid : Prop := pcmStoresRow.holds Try.pinned (OpenSpec.ofChange pcmStoresSpec)

/-- ITS FALSE NEIGHBOUR: 'it returns false'. Refute it at one input. -/
def pcmStoresWrong : ChangeSpec := { name := "pcmStores", fn := fun _ => fun
  | [d1, d2] => { results := [.lit (.bool false)], args := [d1, d2] }
  | _ => none }
def PcmStoresWrongFalsely : Prop := pcmStoresRow.holds Try.pinned (OpenSpec.ofChange pcmStoresWrong)

/-- 'psalterylaw10.PcmOrder': WHATEVER THE INPUT: true; the input reads as it did. -/
def pcmOrderSpec : ChangeSpec := { name := "pcmOrder", fn := fun _ => fun
  | [d1, d2] => { results := [.lit (.bool true)], args := [d1, d2] }
  | _ => none }
def pcmOrderRow : OpenClaim := { program := "ytnnljamkomlglaa", sum := "1216c81e98685c0ef289bebdefcadb6a8f00f2f904341b9344493d6837ef9c19", func := "psaltery/psalterylaw10.PcmOrder", spec := "pcmOrder", apart := false }
def PcmOrderSaid : Prop := pcmOrderRow.holds Try.pinned (OpenSpec.ofChange pcmOrderSpec)

/-- ITS FALSE NEIGHBOUR: 'it returns false'. Refute it at one input. -/
def pcmOrderWrong : ChangeSpec := { name := "pcmOrder", fn := fun _ => fun
  | [d1, d2] => { results := [.lit (.bool false)], args := [d1, d2] }
  | _ => none }
def PcmOrderWrongFalsely : Prop := pcmOrderRow.holds Try.pinned (OpenSpec.ofChange pcmOrderWrong)

/- THE SECOND FORM. 'bulk': how many values and letters a reading holds, each counted each time it is reached (what is shared counts as often as it is met; a slice's spare places count too). A statement '..UptoSaid' is the law's where the arguments, and the package variables that the reading takes, are together of bulk at most 1048576: NARROWER than '..Said'. Prove '..Said' where nothing that the law and all that it calls make is longer than what came in: it says more and counts as full. Else prove '..UptoSaid'. A law counts once. -/
mutual
def uptoBulk {H : Type} : DataW H → Nat
  | .lit (.string bytes) => bytes.length + 1
  | .lit _ => 1
  | .nil => 1
  | .ptr d => uptoBulk d + 1
  | .slice elems spare => uptoBulkAll elems + uptoBulkAll spare + 1
  | .agg parts => uptoBulkAll parts + 1
  | .iface _ d => uptoBulk d + 1
  | .map entries => uptoBulkEntries entries + 1
  | .held _ => 1
def uptoBulkAll {H : Type} : List (DataW H) → Nat
  | [] => 0
  | d :: r => uptoBulk d + uptoBulkAll r
def uptoBulkEntries {H : Type} : List (Lit × DataW H) → Nat
  | [] => 0
  | x :: r => uptoBulkEntry x + uptoBulkEntries r
def uptoBulkEntry {H : Type} : Lit × DataW H → Nat
  | (.string bytes, d) => bytes.length + uptoBulk d + 1
  | (_, d) => uptoBulk d + 1
 end
def uptoSmall : (H : Type) → List (DataW H) → Bool := fun _ ds => decide (uptoBulkAll ds ≤ 1048576)
def OpenSpec.upto (s : _root_.Go.ChangeSpec) : _root_.Go.OpenSpec := { _root_.Go.OpenSpec.ofChange s with cond := some uptoSmall }

/-- 'psalterylaw10.PcmParts', WHERE WHAT IT READS IS OF BULK AT MOST 1048576: true; the input reads as it did. -/
def pcmPartsUptoRow : OpenClaim := { program := "ytnnljamkomlglaa", sum := "1216c81e98685c0ef289bebdefcadb6a8f00f2f904341b9344493d6837ef9c19", func := "psaltery/psalterylaw10.PcmParts", spec := "pcmParts", apart := false, narrowed := true }
def PcmPartsUptoSaid : Prop := pcmPartsUptoRow.holds Try.pinned (OpenSpec.upto pcmPartsSpec)

/-- 'psalterylaw10.PcmWeaves', WHERE WHAT IT READS IS OF BULK AT MOST 1048576: true; the input reads as it did. -/
def pcmWeavesUptoRow : OpenClaim := { program := "ytnnljamkomlglaa", sum := "1216c81e98685c0ef289bebdefcadb6a8f00f2f904341b9344493d6837ef9c19", func := "psaltery/psalterylaw10.PcmWeaves", spec := "pcmWeaves", apart := false, narrowed := true }
def PcmWeavesUptoSaid : Prop := pcmWeavesUptoRow.holds Try.pinned (OpenSpec.upto pcmWeavesSpec)

/-- 'psalterylaw10.PcmStores', WHERE WHAT IT READS IS OF BULK AT MOST 1048576: true; the input reads as it did. -/
def pcmStoresUptoRow : OpenClaim := { program := "ytnnljamkomlglaa", sum := "1216c81e98685c0ef289bebdefcadb6a8f00f2f904341b9344493d6837ef9c19", func := "psaltery/psalterylaw10.PcmStores", spec := "pcmStores", apart := false, narrowed := true }
def PcmStoresUptoSaid : Prop := pcmStoresUptoRow.holds Try.pinned (OpenSpec.upto pcmStoresSpec)

/-- 'psalterylaw10.PcmOrder', WHERE WHAT IT READS IS OF BULK AT MOST 1048576: true; the input reads as it did. -/
def pcmOrderUptoRow : OpenClaim := { program := "ytnnljamkomlglaa", sum := "1216c81e98685c0ef289bebdefcadb6a8f00f2f904341b9344493d6837ef9c19", func := "psaltery/psalterylaw10.PcmOrder", spec := "pcmOrder", apart := false, narrowed := true }
def PcmOrderUptoSaid : Prop := pcmOrderUptoRow.holds Try.pinned (OpenSpec.upto pcmOrderSpec)

end Rows
end Go.Proofs.Ytnnljamkomlglaa
