/-
  NARROWER THAN 'FOR EVERY INPUT', by the rows' own cells (each row's printed sentence says how): WaveSines: laid · WaveTables: laid · WaveTurns: laid.
  DERIVED. THE GIVEN ROWS OF THIS SEAT. 3 by the template 'for every input the law returns true; each argument reads behind the call as it read before'; 0 by the template 'total and deterministic' (their statements: YtpbkifimfggncaaDoorTotals.lean).
  GIVEN WITH THE SEED: the statements are not yours to turn. If you find one false, say at which input.
  Laid BY PROGRAM, IN A SANDBOX (cutbox-rows.mjs): the forced cells as the released guide's own fill.sh prints them over the translation 970b5b7d52242ffd… (all of the seat's roots in one cut). By AI agents, Wed Nov 11 2026. No macro, syntax, notation, axiom, sorry.
-/
import Derived.Test.YtpbkifimfggncaaDoorChecked
import GoSem.Claim
import GoSem.ClaimJoined
import GoSem.ClaimMapViews
import Derived.JoinedTies
import Derived.KernelRfl
namespace Go.Proofs.YtpbkifimfggncaaDoor
/- THE CELL 'sum', in the pinned program and in every row, IS THE sha256 OF THE DUMP (.gsa) THAT YtpbkifimfggncaaDoorProg.lean LOADS. Nothing in Lean hashes anything: it is a label: what it is worth is what the hold of that sum in a sandbox is worth. -/
noncomputable def Tryd.pinned : Pinned := { name := "ytpbkifimfggncaadoor", sum := "970b5b7d52242ffd357c8c318ad2a609a6f04356556b0c7af532ee141ddf4f4c", checked := Tryd.checked }
namespace Rows
def none {H : Type} : Left H := { results := [], args := [] }

/- WHAT THE LISTED PACKAGE-LEVEL VARIABLES READ AS WHEN THE CALL BEGINS. Each datum BY PROGRAM (the guide's laid-datum.mjs) off the statement by which the dump's own 'gosem.cut.vars' lays the variable. In a bare row this is a premise. The card (YtpbkifimfggncaaDoorCards.lean) ties it to the program's text. -/
def laid_psaltery_wave_polynomial {H : Type} : DataW H := .agg [.lit (.int .i64 172272), .lit (.int .i64 5026995), .lit (.int .i64 85569306), .lit (.int .i64 693598668), .lit (.int .i64 1686629713)]

/-- 'psalterylaw03.WaveSines': WHATEVER THE INPUT: true; the input reads as it did. -/
def waveSinesSpec : ChangeSpec := { name := "waveSines", fn := fun _ => fun
  | [d1, d2] => { results := [.lit (.bool true)], args := [d1, d2] }
  | _ => none }
def waveSinesRow : OpenClaim := { program := "ytpbkifimfggncaadoor", sum := "970b5b7d52242ffd357c8c318ad2a609a6f04356556b0c7af532ee141ddf4f4c", func := "psaltery/psalterylaw03.WaveSines", spec := "waveSines", named := ["psaltery/wave.polynomial"], apart := false, laid := [("psaltery/wave.polynomial", laid_psaltery_wave_polynomial)] }
def WaveSinesSaid : Prop := waveSinesRow.holds Tryd.pinned (OpenSpec.ofChange waveSinesSpec)

/-- ITS FALSE NEIGHBOUR: 'it returns false'. Refute it at one input. -/
def waveSinesWrong : ChangeSpec := { name := "waveSines", fn := fun _ => fun
  | [d1, d2] => { results := [.lit (.bool false)], args := [d1, d2] }
  | _ => none }
def WaveSinesWrongFalsely : Prop := waveSinesRow.holds Tryd.pinned (OpenSpec.ofChange waveSinesWrong)

/-- 'psalterylaw03.WaveTables': WHATEVER THE INPUT: true; the input reads as it did. -/
def waveTablesSpec : ChangeSpec := { name := "waveTables", fn := fun _ => fun
  | [d] => { results := [.lit (.bool true)], args := [d] }
  | _ => none }
def waveTablesRow : OpenClaim := { program := "ytpbkifimfggncaadoor", sum := "970b5b7d52242ffd357c8c318ad2a609a6f04356556b0c7af532ee141ddf4f4c", func := "psaltery/psalterylaw03.WaveTables", spec := "waveTables", named := ["psaltery/wave.polynomial"], apart := false, laid := [("psaltery/wave.polynomial", laid_psaltery_wave_polynomial)] }
def WaveTablesSaid : Prop := waveTablesRow.holds Tryd.pinned (OpenSpec.ofChange waveTablesSpec)

/-- ITS FALSE NEIGHBOUR: 'it returns false'. Refute it at one input. -/
def waveTablesWrong : ChangeSpec := { name := "waveTables", fn := fun _ => fun
  | [d] => { results := [.lit (.bool false)], args := [d] }
  | _ => none }
def WaveTablesWrongFalsely : Prop := waveTablesRow.holds Tryd.pinned (OpenSpec.ofChange waveTablesWrong)

/-- 'psalterylaw03.WaveTurns': WHATEVER THE INPUT: true; the input reads as it did. -/
def waveTurnsSpec : ChangeSpec := { name := "waveTurns", fn := fun _ => fun
  | [d1, d2, d3] => { results := [.lit (.bool true)], args := [d1, d2, d3] }
  | _ => none }
def waveTurnsRow : OpenClaim := { program := "ytpbkifimfggncaadoor", sum := "970b5b7d52242ffd357c8c318ad2a609a6f04356556b0c7af532ee141ddf4f4c", func := "psaltery/psalterylaw03.WaveTurns", spec := "waveTurns", named := ["psaltery/wave.polynomial"], apart := false, laid := [("psaltery/wave.polynomial", laid_psaltery_wave_polynomial)] }
def WaveTurnsSaid : Prop := waveTurnsRow.holds Tryd.pinned (OpenSpec.ofChange waveTurnsSpec)

/-- ITS FALSE NEIGHBOUR: 'it returns false'. Refute it at one input. -/
def waveTurnsWrong : ChangeSpec := { name := "waveTurns", fn := fun _ => fun
  | [d1, d2, d3] => { results := [.lit (.bool false)], args := [d1, d2, d3] }
  | _ => none }
def WaveTurnsWrongFalsely : Prop := waveTurnsRow.holds Tryd.pinned (OpenSpec.ofChange waveTurnsWrong)

/- THE SECOND FORM. 'bulk': how many values and letters a reading holds, each counted each time it is reached (what is shared counts as often as it is met; a slice's spare places count too). A statement '..UptoSaid' is the law's where the arguments, and the package variables that the reading takes, are together of bulk at most 1048576: NARROWER than '..Said'. Prove '..Said' where nothing that the law and all that it calls make is longer than what came in: it says more and counts as full. Else prove '..UptoSaid'. A law counts once. -/
mutual
def uptoBulk {H : Type} : DataW H → Nat
  | .lit (.string bytes) => bytes.length + 1
  | .lit _ => 1
  | .nil => 1
  | .ptr d => uptoBulk d + 1
  | .slice elems spare => uptoBulkAll elems + uptoBulkAll spare + 1
  | .agg parts => uptoBulkAll parts + 1
  | .iface _ d => uptoBulk d + 1
  | .map entries => uptoBulkEntries entries + 1
  | .held _ => 1
def uptoBulkAll {H : Type} : List (DataW H) → Nat
  | [] => 0
  | d :: r => uptoBulk d + uptoBulkAll r
def uptoBulkEntries {H : Type} : List (Lit × DataW H) → Nat
  | [] => 0
  | x :: r => uptoBulkEntry x + uptoBulkEntries r
def uptoBulkEntry {H : Type} : Lit × DataW H → Nat
  | (.string bytes, d) => bytes.length + uptoBulk d + 1
  | (_, d) => uptoBulk d + 1
 end
def uptoSmall : (H : Type) → List (DataW H) → Bool := fun _ ds => decide (uptoBulkAll ds ≤ 1048576)
def OpenSpec.upto (s : _root_.Go.ChangeSpec) : _root_.Go.OpenSpec := { _root_.Go.OpenSpec.ofChange s with cond := some uptoSmall }

/-- 'psalterylaw03.WaveSines', WHERE WHAT IT READS IS OF BULK AT MOST 1048576: true; the input reads as it did. -/
def waveSinesUptoRow : OpenClaim := { program := "ytpbkifimfggncaadoor", sum := "970b5b7d52242ffd357c8c318ad2a609a6f04356556b0c7af532ee141ddf4f4c", func := "psaltery/psalterylaw03.WaveSines", spec := "waveSines", named := ["psaltery/wave.polynomial"], apart := false, laid := [("psaltery/wave.polynomial", laid_psaltery_wave_polynomial)], narrowed := true }
def WaveSinesUptoSaid : Prop := waveSinesUptoRow.holds Tryd.pinned (OpenSpec.upto waveSinesSpec)

/-- 'psalterylaw03.WaveTables', WHERE WHAT IT READS IS OF BULK AT MOST 1048576: true; the input reads as it did. -/
def waveTablesUptoRow : OpenClaim := { program := "ytpbkifimfggncaadoor", sum := "970b5b7d52242ffd357c8c318ad2a609a6f04356556b0c7af532ee141ddf4f4c", func := "psaltery/psalterylaw03.WaveTables", spec := "waveTables", named := ["psaltery/wave.polynomial"], apart := false, laid := [("psaltery/wave.polynomial", laid_psaltery_wave_polynomial)], narrowed := true }
def WaveTablesUptoSaid : Prop := waveTablesUptoRow.holds Tryd.pinned (OpenSpec.upto waveTablesSpec)

/-- 'psalterylaw03.WaveTurns', WHERE WHAT IT READS IS OF BULK AT MOST 1048576: true; the input reads as it did. -/
def waveTurnsUptoRow : OpenClaim := { program := "ytpbkifimfggncaadoor", sum := "970b5b7d52242ffd357c8c318ad2a609a6f04356556b0c7af532ee141ddf4f4c", func := "psaltery/psalterylaw03.WaveTurns", spec := "waveTurns", named := ["psaltery/wave.polynomial"], apart := false, laid := [("psaltery/wave.polynomial", laid_psaltery_wave_polynomial)], narrowed := true }
def WaveTurnsUptoSaid : Prop := waveTurnsUptoRow.holds Tryd.pinned (OpenSpec.upto waveTurnsSpec)

end Rows
end Go.Proofs.YtpbkifimfggncaaDoor
