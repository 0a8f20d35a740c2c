/-
  NARROWER THAN 'FOR EVERY INPUT', by the rows' own cells (each row's printed sentence says how): PolySplits: laid · PolyJoins: laid · PolyForgets: laid · PolyWrong: laid · PolyQuiet: laid.
  DERIVED. THE GIVEN ROWS OF THIS SEAT. 5 by the template 'for every input the law returns true; each argument reads behind the call as it read before'; 0 by the template 'total and deterministic' (their statements: YtkmkackifihhjaaDoorTotals.lean).
  GIVEN WITH THE SEED: the statements are not yours to turn. If you find one false, say at which input.
  Laid BY PROGRAM, IN A SANDBOX (cutbox-rows.mjs): the forced cells as the released guide's own fill.sh prints them over the translation dc529d94cd95574e… (all of the seat's roots in one cut). By AI agents, Wed Nov 11 2026. No macro, syntax, notation, axiom, sorry.
-/
import Derived.Test.YtkmkackifihhjaaDoorChecked
import GoSem.Claim
import GoSem.ClaimJoined
import GoSem.ClaimMapViews
import Derived.JoinedTies
import Derived.KernelRfl
namespace Go.Proofs.YtkmkackifihhjaaDoor
/- THE CELL 'sum', in the pinned program and in every row, IS THE sha256 OF THE DUMP (.gsa) THAT YtkmkackifihhjaaDoorProg.lean LOADS. Nothing in Lean hashes anything: it is a label: what it is worth is what the hold of that sum in a sandbox is worth. -/
noncomputable def Tryd.pinned : Pinned := { name := "ytkmkackifihhjaadoor", sum := "dc529d94cd95574ed441fed5a301925dc1506f325b11c713a9d542c9a0eaf3a6", checked := Tryd.checked }
namespace Rows
def none {H : Type} : Left H := { results := [], args := [] }

/- WHAT THE LISTED PACKAGE-LEVEL VARIABLES READ AS WHEN THE CALL BEGINS. Each datum BY PROGRAM (the guide's laid-datum.mjs) off the statement by which the dump's own 'gosem.cut.vars' lays the variable. In a bare row this is a premise. The card (YtkmkackifihhjaaDoorCards.lean) ties it to the program's text. -/
def laid_psaltery_wave_polynomial {H : Type} : DataW H := .agg [.lit (.int .i64 172272), .lit (.int .i64 5026995), .lit (.int .i64 85569306), .lit (.int .i64 693598668), .lit (.int .i64 1686629713)]

/-- 'psalterylaw08.PolySplits': WHATEVER THE INPUT: true; the input reads as it did. -/
def polySplitsSpec : ChangeSpec := { name := "polySplits", fn := fun _ => fun
  | [d1, d2] => { results := [.lit (.bool true)], args := [d1, d2] }
  | _ => none }
def polySplitsRow : OpenClaim := { program := "ytkmkackifihhjaadoor", sum := "dc529d94cd95574ed441fed5a301925dc1506f325b11c713a9d542c9a0eaf3a6", func := "psaltery/psalterylaw08.PolySplits", spec := "polySplits", inPlace := ["sync/atomic.AddInt64", "sync/atomic.LoadUint32", "(*internal/sync.Mutex).Lock", "internal/race.Disable", "sync/atomic.CompareAndSwapInt32", "internal/race.Enable", "internal/race.Acquire", "(*internal/sync.Mutex).lockSlow", "internal/sync.runtime_canSpin", "internal/sync.runtime_doSpin", "internal/sync.throw", "internal/sync.runtime_nanotime", "internal/sync.runtime_SemacquireMutex", "sync/atomic.AddInt32", "(*internal/sync.Mutex).Unlock", "internal/race.ReleaseMerge", "(*internal/sync.Mutex).unlockSlow", "internal/sync.fatal", "internal/sync.runtime_Semrelease", "sync/atomic.StoreUint32"], unfollowed := true, recurses := true, named := ["psaltery/wave.polynomial"], apart := false, laid := [("psaltery/wave.polynomial", laid_psaltery_wave_polynomial)] }
def PolySplitsSaid : Prop := polySplitsRow.holds Tryd.pinned (OpenSpec.ofChange polySplitsSpec)

/-- ITS FALSE NEIGHBOUR: 'it returns false'. Refute it at one input. -/
def polySplitsWrong : ChangeSpec := { name := "polySplits", fn := fun _ => fun
  | [d1, d2] => { results := [.lit (.bool false)], args := [d1, d2] }
  | _ => none }
def PolySplitsWrongFalsely : Prop := polySplitsRow.holds Tryd.pinned (OpenSpec.ofChange polySplitsWrong)

/-- 'psalterylaw08.PolyJoins': WHATEVER THE INPUT: true; the input reads as it did. -/
def polyJoinsSpec : ChangeSpec := { name := "polyJoins", fn := fun _ => fun
  | [d1, d2] => { results := [.lit (.bool true)], args := [d1, d2] }
  | _ => none }
def polyJoinsRow : OpenClaim := { program := "ytkmkackifihhjaadoor", sum := "dc529d94cd95574ed441fed5a301925dc1506f325b11c713a9d542c9a0eaf3a6", func := "psaltery/psalterylaw08.PolyJoins", spec := "polyJoins", inPlace := ["sync/atomic.AddInt64", "sync/atomic.LoadUint32", "(*internal/sync.Mutex).Lock", "internal/race.Disable", "sync/atomic.CompareAndSwapInt32", "internal/race.Enable", "internal/race.Acquire", "(*internal/sync.Mutex).lockSlow", "internal/sync.runtime_canSpin", "internal/sync.runtime_doSpin", "internal/sync.throw", "internal/sync.runtime_nanotime", "internal/sync.runtime_SemacquireMutex", "sync/atomic.AddInt32", "(*internal/sync.Mutex).Unlock", "internal/race.ReleaseMerge", "(*internal/sync.Mutex).unlockSlow", "internal/sync.fatal", "internal/sync.runtime_Semrelease", "sync/atomic.StoreUint32"], unfollowed := true, recurses := true, named := ["psaltery/wave.polynomial"], apart := false, laid := [("psaltery/wave.polynomial", laid_psaltery_wave_polynomial)] }
def PolyJoinsSaid : Prop := polyJoinsRow.holds Tryd.pinned (OpenSpec.ofChange polyJoinsSpec)

/-- ITS FALSE NEIGHBOUR: 'it returns false'. Refute it at one input. -/
def polyJoinsWrong : ChangeSpec := { name := "polyJoins", fn := fun _ => fun
  | [d1, d2] => { results := [.lit (.bool false)], args := [d1, d2] }
  | _ => none }
def PolyJoinsWrongFalsely : Prop := polyJoinsRow.holds Tryd.pinned (OpenSpec.ofChange polyJoinsWrong)

/-- 'psalterylaw08.PolyForgets': WHATEVER THE INPUT: true; the input reads as it did. -/
def polyForgetsSpec : ChangeSpec := { name := "polyForgets", fn := fun _ => fun
  | [d1, d2, d3] => { results := [.lit (.bool true)], args := [d1, d2, d3] }
  | _ => none }
def polyForgetsRow : OpenClaim := { program := "ytkmkackifihhjaadoor", sum := "dc529d94cd95574ed441fed5a301925dc1506f325b11c713a9d542c9a0eaf3a6", func := "psaltery/psalterylaw08.PolyForgets", spec := "polyForgets", inPlace := ["sync/atomic.AddInt64", "sync/atomic.LoadUint32", "(*internal/sync.Mutex).Lock", "internal/race.Disable", "sync/atomic.CompareAndSwapInt32", "internal/race.Enable", "internal/race.Acquire", "(*internal/sync.Mutex).lockSlow", "internal/sync.runtime_canSpin", "internal/sync.runtime_doSpin", "internal/sync.throw", "internal/sync.runtime_nanotime", "internal/sync.runtime_SemacquireMutex", "sync/atomic.AddInt32", "(*internal/sync.Mutex).Unlock", "internal/race.ReleaseMerge", "(*internal/sync.Mutex).unlockSlow", "internal/sync.fatal", "internal/sync.runtime_Semrelease", "sync/atomic.StoreUint32"], unfollowed := true, recurses := true, named := ["psaltery/wave.polynomial"], apart := false, laid := [("psaltery/wave.polynomial", laid_psaltery_wave_polynomial)] }
def PolyForgetsSaid : Prop := polyForgetsRow.holds Tryd.pinned (OpenSpec.ofChange polyForgetsSpec)

/-- ITS FALSE NEIGHBOUR: 'it returns false'. Refute it at one input. -/
def polyForgetsWrong : ChangeSpec := { name := "polyForgets", fn := fun _ => fun
  | [d1, d2, d3] => { results := [.lit (.bool false)], args := [d1, d2, d3] }
  | _ => none }
def PolyForgetsWrongFalsely : Prop := polyForgetsRow.holds Tryd.pinned (OpenSpec.ofChange polyForgetsWrong)

/-- 'psalterylaw08.PolyWrong': WHATEVER THE INPUT: true; the input reads as it did. -/
def polyWrongSpec : ChangeSpec := { name := "polyWrong", fn := fun _ => fun
  | [d1, d2] => { results := [.lit (.bool true)], args := [d1, d2] }
  | _ => none }
def polyWrongRow : OpenClaim := { program := "ytkmkackifihhjaadoor", sum := "dc529d94cd95574ed441fed5a301925dc1506f325b11c713a9d542c9a0eaf3a6", func := "psaltery/psalterylaw08.PolyWrong", spec := "polyWrong", inPlace := ["sync/atomic.AddInt64", "sync/atomic.LoadUint32", "(*internal/sync.Mutex).Lock", "internal/race.Disable", "sync/atomic.CompareAndSwapInt32", "internal/race.Enable", "internal/race.Acquire", "(*internal/sync.Mutex).lockSlow", "internal/sync.runtime_canSpin", "internal/sync.runtime_doSpin", "internal/sync.throw", "internal/sync.runtime_nanotime", "internal/sync.runtime_SemacquireMutex", "sync/atomic.AddInt32", "(*internal/sync.Mutex).Unlock", "internal/race.ReleaseMerge", "(*internal/sync.Mutex).unlockSlow", "internal/sync.fatal", "internal/sync.runtime_Semrelease", "sync/atomic.StoreUint32"], unfollowed := true, recurses := true, named := ["psaltery/wave.polynomial"], apart := false, laid := [("psaltery/wave.polynomial", laid_psaltery_wave_polynomial)] }
def PolyWrongSaid : Prop := polyWrongRow.holds Tryd.pinned (OpenSpec.ofChange polyWrongSpec)

/-- ITS FALSE NEIGHBOUR: 'it returns false'. Refute it at one input. -/
def polyWrongWrong : ChangeSpec := { name := "polyWrong", fn := fun _ => fun
  | [d1, d2] => { results := [.lit (.bool false)], args := [d1, d2] }
  | _ => none }
def PolyWrongWrongFalsely : Prop := polyWrongRow.holds Tryd.pinned (OpenSpec.ofChange polyWrongWrong)

/-- 'psalterylaw08.PolyQuiet': WHATEVER THE INPUT: true; the input reads as it did. -/
def polyQuietSpec : ChangeSpec := { name := "polyQuiet", fn := fun _ => fun
  | [d1, d2] => { results := [.lit (.bool true)], args := [d1, d2] }
  | _ => none }
def polyQuietRow : OpenClaim := { program := "ytkmkackifihhjaadoor", sum := "dc529d94cd95574ed441fed5a301925dc1506f325b11c713a9d542c9a0eaf3a6", func := "psaltery/psalterylaw08.PolyQuiet", spec := "polyQuiet", inPlace := ["sync/atomic.AddInt64", "sync/atomic.LoadUint32", "(*internal/sync.Mutex).Lock", "internal/race.Disable", "sync/atomic.CompareAndSwapInt32", "internal/race.Enable", "internal/race.Acquire", "(*internal/sync.Mutex).lockSlow", "internal/sync.runtime_canSpin", "internal/sync.runtime_doSpin", "internal/sync.throw", "internal/sync.runtime_nanotime", "internal/sync.runtime_SemacquireMutex", "sync/atomic.AddInt32", "(*internal/sync.Mutex).Unlock", "internal/race.ReleaseMerge", "(*internal/sync.Mutex).unlockSlow", "internal/sync.fatal", "internal/sync.runtime_Semrelease", "sync/atomic.StoreUint32"], unfollowed := true, recurses := true, named := ["psaltery/wave.polynomial"], apart := false, laid := [("psaltery/wave.polynomial", laid_psaltery_wave_polynomial)] }
def PolyQuietSaid : Prop := polyQuietRow.holds Tryd.pinned (OpenSpec.ofChange polyQuietSpec)

/-- ITS FALSE NEIGHBOUR: 'it returns false'. Refute it at one input. -/
def polyQuietWrong : ChangeSpec := { name := "polyQuiet", fn := fun _ => fun
  | [d1, d2] => { results := [.lit (.bool false)], args := [d1, d2] }
  | _ => none }
def PolyQuietWrongFalsely : Prop := polyQuietRow.holds Tryd.pinned (OpenSpec.ofChange polyQuietWrong)

/- THE SECOND FORM. 'bulk': how many values and letters a reading holds, each counted each time it is reached (what is shared counts as often as it is met; a slice's spare places count too). A statement '..UptoSaid' is the law's where the arguments, and the package variables that the reading takes, are together of bulk at most 1048576: NARROWER than '..Said'. Prove '..Said' where nothing that the law and all that it calls make is longer than what came in: it says more and counts as full. Else prove '..UptoSaid'. A law counts once. -/
mutual
def uptoBulk {H : Type} : DataW H → Nat
  | .lit (.string bytes) => bytes.length + 1
  | .lit _ => 1
  | .nil => 1
  | .ptr d => uptoBulk d + 1
  | .slice elems spare => uptoBulkAll elems + uptoBulkAll spare + 1
  | .agg parts => uptoBulkAll parts + 1
  | .iface _ d => uptoBulk d + 1
  | .map entries => uptoBulkEntries entries + 1
  | .held _ => 1
def uptoBulkAll {H : Type} : List (DataW H) → Nat
  | [] => 0
  | d :: r => uptoBulk d + uptoBulkAll r
def uptoBulkEntries {H : Type} : List (Lit × DataW H) → Nat
  | [] => 0
  | x :: r => uptoBulkEntry x + uptoBulkEntries r
def uptoBulkEntry {H : Type} : Lit × DataW H → Nat
  | (.string bytes, d) => bytes.length + uptoBulk d + 1
  | (_, d) => uptoBulk d + 1
 end
def uptoSmall : (H : Type) → List (DataW H) → Bool := fun _ ds => decide (uptoBulkAll ds ≤ 1048576)
def OpenSpec.upto (s : _root_.Go.ChangeSpec) : _root_.Go.OpenSpec := { _root_.Go.OpenSpec.ofChange s with cond := some uptoSmall }

/-- 'psalterylaw08.PolySplits', WHERE WHAT IT READS IS OF BULK AT MOST 1048576: true; the input reads as it did. -/
def polySplitsUptoRow : OpenClaim := { program := "ytkmkackifihhjaadoor", sum := "dc529d94cd95574ed441fed5a301925dc1506f325b11c713a9d542c9a0eaf3a6", func := "psaltery/psalterylaw08.PolySplits", spec := "polySplits", inPlace := ["sync/atomic.AddInt64", "sync/atomic.LoadUint32", "(*internal/sync.Mutex).Lock", "internal/race.Disable", "sync/atomic.CompareAndSwapInt32", "internal/race.Enable", "internal/race.Acquire", "(*internal/sync.Mutex).lockSlow", "internal/sync.runtime_canSpin", "internal/sync.runtime_doSpin", "internal/sync.throw", "internal/sync.runtime_nanotime", "internal/sync.runtime_SemacquireMutex", "sync/atomic.AddInt32", "(*internal/sync.Mutex).Unlock", "internal/race.ReleaseMerge", "(*internal/sync.Mutex).unlockSlow", "internal/sync.fatal", "internal/sync.runtime_Semrelease", "sync/atomic.StoreUint32"], unfollowed := true, recurses := true, named := ["psaltery/wave.polynomial"], apart := false, laid := [("psaltery/wave.polynomial", laid_psaltery_wave_polynomial)], narrowed := true }
def PolySplitsUptoSaid : Prop := polySplitsUptoRow.holds Tryd.pinned (OpenSpec.upto polySplitsSpec)

/-- 'psalterylaw08.PolyJoins', WHERE WHAT IT READS IS OF BULK AT MOST 1048576: true; the input reads as it did. -/
def polyJoinsUptoRow : OpenClaim := { program := "ytkmkackifihhjaadoor", sum := "dc529d94cd95574ed441fed5a301925dc1506f325b11c713a9d542c9a0eaf3a6", func := "psaltery/psalterylaw08.PolyJoins", spec := "polyJoins", inPlace := ["sync/atomic.AddInt64", "sync/atomic.LoadUint32", "(*internal/sync.Mutex).Lock", "internal/race.Disable", "sync/atomic.CompareAndSwapInt32", "internal/race.Enable", "internal/race.Acquire", "(*internal/sync.Mutex).lockSlow", "internal/sync.runtime_canSpin", "internal/sync.runtime_doSpin", "internal/sync.throw", "internal/sync.runtime_nanotime", "internal/sync.runtime_SemacquireMutex", "sync/atomic.AddInt32", "(*internal/sync.Mutex).Unlock", "internal/race.ReleaseMerge", "(*internal/sync.Mutex).unlockSlow", "internal/sync.fatal", "internal/sync.runtime_Semrelease", "sync/atomic.StoreUint32"], unfollowed := true, recurses := true, named := ["psaltery/wave.polynomial"], apart := false, laid := [("psaltery/wave.polynomial", laid_psaltery_wave_polynomial)], narrowed := true }
def PolyJoinsUptoSaid : Prop := polyJoinsUptoRow.holds Tryd.pinned (OpenSpec.upto polyJoinsSpec)

/-- 'psalterylaw08.PolyForgets', WHERE WHAT IT READS IS OF BULK AT MOST 1048576: true; the input reads as it did. -/
def polyForgetsUptoRow : OpenClaim := { program := "ytkmkackifihhjaadoor", sum := "dc529d94cd95574ed441fed5a301925dc1506f325b11c713a9d542c9a0eaf3a6", func := "psaltery/psalterylaw08.PolyForgets", spec := "polyForgets", inPlace := ["sync/atomic.AddInt64", "sync/atomic.LoadUint32", "(*internal/sync.Mutex).Lock", "internal/race.Disable", "sync/atomic.CompareAndSwapInt32", "internal/race.Enable", "internal/race.Acquire", "(*internal/sync.Mutex).lockSlow", "internal/sync.runtime_canSpin", "internal/sync.runtime_doSpin", "internal/sync.throw", "internal/sync.runtime_nanotime", "internal/sync.runtime_SemacquireMutex", "sync/atomic.AddInt32", "(*internal/sync.Mutex).Unlock", "internal/race.ReleaseMerge", "(*internal/sync.Mutex).unlockSlow", "internal/sync.fatal", "internal/sync.runtime_Semrelease", "sync/atomic.StoreUint32"], unfollowed := true, recurses := true, named := ["psaltery/wave.polynomial"], apart := false, laid := [("psaltery/wave.polynomial", laid_psaltery_wave_polynomial)], narrowed := true }
def PolyForgetsUptoSaid : Prop := polyForgetsUptoRow.holds Tryd.pinned (OpenSpec.upto polyForgetsSpec)

/-- 'psalterylaw08.PolyWrong', WHERE WHAT IT READS IS OF BULK AT MOST 1048576: true; the input reads as it did. -/
def polyWrongUptoRow : OpenClaim := { program := "ytkmkackifihhjaadoor", sum := "dc529d94cd95574ed441fed5a301925dc1506f325b11c713a9d542c9a0eaf3a6", func := "psaltery/psalterylaw08.PolyWrong", spec := "polyWrong", inPlace := ["sync/atomic.AddInt64", "sync/atomic.LoadUint32", "(*internal/sync.Mutex).Lock", "internal/race.Disable", "sync/atomic.CompareAndSwapInt32", "internal/race.Enable", "internal/race.Acquire", "(*internal/sync.Mutex).lockSlow", "internal/sync.runtime_canSpin", "internal/sync.runtime_doSpin", "internal/sync.throw", "internal/sync.runtime_nanotime", "internal/sync.runtime_SemacquireMutex", "sync/atomic.AddInt32", "(*internal/sync.Mutex).Unlock", "internal/race.ReleaseMerge", "(*internal/sync.Mutex).unlockSlow", "internal/sync.fatal", "internal/sync.runtime_Semrelease", "sync/atomic.StoreUint32"], unfollowed := true, recurses := true, named := ["psaltery/wave.polynomial"], apart := false, laid := [("psaltery/wave.polynomial", laid_psaltery_wave_polynomial)], narrowed := true }
def PolyWrongUptoSaid : Prop := polyWrongUptoRow.holds Tryd.pinned (OpenSpec.upto polyWrongSpec)

/-- 'psalterylaw08.PolyQuiet', WHERE WHAT IT READS IS OF BULK AT MOST 1048576: true; the input reads as it did. -/
def polyQuietUptoRow : OpenClaim := { program := "ytkmkackifihhjaadoor", sum := "dc529d94cd95574ed441fed5a301925dc1506f325b11c713a9d542c9a0eaf3a6", func := "psaltery/psalterylaw08.PolyQuiet", spec := "polyQuiet", inPlace := ["sync/atomic.AddInt64", "sync/atomic.LoadUint32", "(*internal/sync.Mutex).Lock", "internal/race.Disable", "sync/atomic.CompareAndSwapInt32", "internal/race.Enable", "internal/race.Acquire", "(*internal/sync.Mutex).lockSlow", "internal/sync.runtime_canSpin", "internal/sync.runtime_doSpin", "internal/sync.throw", "internal/sync.runtime_nanotime", "internal/sync.runtime_SemacquireMutex", "sync/atomic.AddInt32", "(*internal/sync.Mutex).Unlock", "internal/race.ReleaseMerge", "(*internal/sync.Mutex).unlockSlow", "internal/sync.fatal", "internal/sync.runtime_Semrelease", "sync/atomic.StoreUint32"], unfollowed := true, recurses := true, named := ["psaltery/wave.polynomial"], apart := false, laid := [("psaltery/wave.polynomial", laid_psaltery_wave_polynomial)], narrowed := true }
def PolyQuietUptoSaid : Prop := polyQuietUptoRow.holds Tryd.pinned (OpenSpec.upto polyQuietSpec)

end Rows
end Go.Proofs.YtkmkackifihhjaaDoor
