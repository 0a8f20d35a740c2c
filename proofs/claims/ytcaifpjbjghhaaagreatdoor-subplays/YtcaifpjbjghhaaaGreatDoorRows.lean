/-
  NARROWER THAN 'FOR EVERY INPUT', by the rows' own cells (each row's printed sentence says how): SubAnalyses: laid · SubPacks: laid · SubFrames: laid · SubPlays: laid · SubBack: laid · SubTurned: laid · SubAny: laid · SubNil: laid.
  DERIVED. THE GIVEN ROWS OF THIS SEAT. 8 by the template 'for every input the law returns true; each argument reads behind the call as it read before'; 0 by the template 'total and deterministic' (their statements: YtcaifpjbjghhaaaGreatDoorTotals.lean).
  GIVEN WITH THE SEED: the statements are not yours to turn. If you find one false, say at which input.
  Laid BY PROGRAM, IN A SANDBOX (cutbox-rows.mjs): the forced cells as the released guide's own fill.sh prints them over the translation 9f4254247bc4dfed… (all of the seat's roots in one cut). By AI agents, Wed Nov 11 2026. No macro, syntax, notation, axiom, sorry.
-/
import Derived.Test.YtcaifpjbjghhaaaGreatDoorChecked
import GoSem.Claim
import GoSem.ClaimJoined
import GoSem.ClaimMapViews
import Derived.JoinedTies
import Derived.KernelRfl
namespace Go.Proofs.YtcaifpjbjghhaaaGreatDoor
/- THE CELL 'sum', in the pinned program and in every row, IS THE sha256 OF THE DUMP (.gsa) THAT YtcaifpjbjghhaaaGreatDoorProg.lean LOADS. Nothing in Lean hashes anything: it is a label: what it is worth is what the hold of that sum in a sandbox is worth. -/
noncomputable def Tryz.pinned : Pinned := { name := "ytcaifpjbjghhaaagreatdoor", sum := "9f4254247bc4dfed1c1dcd03be09038560248d48a45bf5bdbea8f72454862f23", checked := Tryz.checked }
namespace Rows
def none {H : Type} : Left H := { results := [], args := [] }

/- WHAT THE LISTED PACKAGE-LEVEL VARIABLES READ AS WHEN THE CALL BEGINS. Each datum BY PROGRAM (the guide's laid-datum.mjs) off the statement by which the dump's own 'gosem.cut.vars' lays the variable. In a bare row this is a premise. The card (YtcaifpjbjghhaaaGreatDoorCards.lean) ties it to the program's text. -/
def laid_psaltery_wave_polynomial {H : Type} : DataW H := .agg [.lit (.int .i64 172272), .lit (.int .i64 5026995), .lit (.int .i64 85569306), .lit (.int .i64 693598668), .lit (.int .i64 1686629713)]
def laid_psaltery_alloc_offsetsOf4 {H : Type} : DataW H := .agg [.agg [.lit (.int .i64 (-1)), .lit (.int .i64 0), .lit (.int .i64 0), .lit (.int .i64 0)], .agg [.lit (.int .i64 (-2)), .lit (.int .i64 0), .lit (.int .i64 0), .lit (.int .i64 1)], .agg [.lit (.int .i64 (-2)), .lit (.int .i64 0), .lit (.int .i64 0), .lit (.int .i64 1)], .agg [.lit (.int .i64 (-2)), .lit (.int .i64 0), .lit (.int .i64 0), .lit (.int .i64 1)]]
def laid_psaltery_alloc_offsetsOf8 {H : Type} : DataW H := .agg [.agg [.lit (.int .i64 (-2)), .lit (.int .i64 0), .lit (.int .i64 0), .lit (.int .i64 0), .lit (.int .i64 0), .lit (.int .i64 0), .lit (.int .i64 0), .lit (.int .i64 1)], .agg [.lit (.int .i64 (-3)), .lit (.int .i64 0), .lit (.int .i64 0), .lit (.int .i64 0), .lit (.int .i64 0), .lit (.int .i64 0), .lit (.int .i64 1), .lit (.int .i64 2)], .agg [.lit (.int .i64 (-4)), .lit (.int .i64 0), .lit (.int .i64 0), .lit (.int .i64 0), .lit (.int .i64 0), .lit (.int .i64 0), .lit (.int .i64 1), .lit (.int .i64 2)], .agg [.lit (.int .i64 (-4)), .lit (.int .i64 0), .lit (.int .i64 0), .lit (.int .i64 0), .lit (.int .i64 0), .lit (.int .i64 0), .lit (.int .i64 1), .lit (.int .i64 2)]]

/-- 'psalterylaw14.SubAnalyses': WHATEVER THE INPUT: true; the input reads as it did. -/
def subAnalysesSpec : ChangeSpec := { name := "subAnalyses", fn := fun _ => fun
  | [d1, d2, d3] => { results := [.lit (.bool true)], args := [d1, d2, d3] }
  | _ => none }
def subAnalysesRow : OpenClaim := { program := "ytcaifpjbjghhaaagreatdoor", sum := "9f4254247bc4dfed1c1dcd03be09038560248d48a45bf5bdbea8f72454862f23", func := "psaltery/psalterylaw14.SubAnalyses", spec := "subAnalyses", inPlace := ["sync/atomic.AddInt64", "sync/atomic.LoadUint32", "(*internal/sync.Mutex).Lock", "internal/race.Disable", "sync/atomic.CompareAndSwapInt32", "internal/race.Enable", "internal/race.Acquire", "(*internal/sync.Mutex).lockSlow", "internal/sync.runtime_canSpin", "internal/sync.runtime_doSpin", "internal/sync.throw", "internal/sync.runtime_nanotime", "internal/sync.runtime_SemacquireMutex", "sync/atomic.AddInt32", "(*internal/sync.Mutex).Unlock", "internal/race.ReleaseMerge", "(*internal/sync.Mutex).unlockSlow", "internal/sync.fatal", "internal/sync.runtime_Semrelease", "sync/atomic.StoreUint32"], unfollowed := true, recurses := true, named := ["psaltery/wave.polynomial", "psaltery/alloc.offsetsOf4", "psaltery/alloc.offsetsOf8"], apart := false, laid := [("psaltery/wave.polynomial", laid_psaltery_wave_polynomial), ("psaltery/alloc.offsetsOf4", laid_psaltery_alloc_offsetsOf4), ("psaltery/alloc.offsetsOf8", laid_psaltery_alloc_offsetsOf8)] }
def SubAnalysesSaid : Prop := subAnalysesRow.holds Tryz.pinned (OpenSpec.ofChange subAnalysesSpec)

/-- ITS FALSE NEIGHBOUR: 'it returns false'. Refute it at one input. -/
def subAnalysesWrong : ChangeSpec := { name := "subAnalyses", fn := fun _ => fun
  | [d1, d2, d3] => { results := [.lit (.bool false)], args := [d1, d2, d3] }
  | _ => none }
def SubAnalysesWrongFalsely : Prop := subAnalysesRow.holds Tryz.pinned (OpenSpec.ofChange subAnalysesWrong)

/-- 'psalterylaw14.SubPacks': WHATEVER THE INPUT: true; the input reads as it did. -/
def subPacksSpec : ChangeSpec := { name := "subPacks", fn := fun _ => fun
  | [d1, d2, d3] => { results := [.lit (.bool true)], args := [d1, d2, d3] }
  | _ => none }
def subPacksRow : OpenClaim := { program := "ytcaifpjbjghhaaagreatdoor", sum := "9f4254247bc4dfed1c1dcd03be09038560248d48a45bf5bdbea8f72454862f23", func := "psaltery/psalterylaw14.SubPacks", spec := "subPacks", inPlace := ["sync/atomic.AddInt64", "sync/atomic.LoadUint32", "(*internal/sync.Mutex).Lock", "internal/race.Disable", "sync/atomic.CompareAndSwapInt32", "internal/race.Enable", "internal/race.Acquire", "(*internal/sync.Mutex).lockSlow", "internal/sync.runtime_canSpin", "internal/sync.runtime_doSpin", "internal/sync.throw", "internal/sync.runtime_nanotime", "internal/sync.runtime_SemacquireMutex", "sync/atomic.AddInt32", "(*internal/sync.Mutex).Unlock", "internal/race.ReleaseMerge", "(*internal/sync.Mutex).unlockSlow", "internal/sync.fatal", "internal/sync.runtime_Semrelease", "sync/atomic.StoreUint32"], unfollowed := true, recurses := true, named := ["psaltery/wave.polynomial", "psaltery/alloc.offsetsOf4", "psaltery/alloc.offsetsOf8"], apart := false, laid := [("psaltery/wave.polynomial", laid_psaltery_wave_polynomial), ("psaltery/alloc.offsetsOf4", laid_psaltery_alloc_offsetsOf4), ("psaltery/alloc.offsetsOf8", laid_psaltery_alloc_offsetsOf8)] }
def SubPacksSaid : Prop := subPacksRow.holds Tryz.pinned (OpenSpec.ofChange subPacksSpec)

/-- ITS FALSE NEIGHBOUR: 'it returns false'. Refute it at one input. -/
def subPacksWrong : ChangeSpec := { name := "subPacks", fn := fun _ => fun
  | [d1, d2, d3] => { results := [.lit (.bool false)], args := [d1, d2, d3] }
  | _ => none }
def SubPacksWrongFalsely : Prop := subPacksRow.holds Tryz.pinned (OpenSpec.ofChange subPacksWrong)

/-- 'psalterylaw14.SubFrames': WHATEVER THE INPUT: true; the input reads as it did. -/
def subFramesSpec : ChangeSpec := { name := "subFrames", fn := fun _ => fun
  | [d1, d2] => { results := [.lit (.bool true)], args := [d1, d2] }
  | _ => none }
def subFramesRow : OpenClaim := { program := "ytcaifpjbjghhaaagreatdoor", sum := "9f4254247bc4dfed1c1dcd03be09038560248d48a45bf5bdbea8f72454862f23", func := "psaltery/psalterylaw14.SubFrames", spec := "subFrames", inPlace := ["sync/atomic.AddInt64", "sync/atomic.LoadUint32", "(*internal/sync.Mutex).Lock", "internal/race.Disable", "sync/atomic.CompareAndSwapInt32", "internal/race.Enable", "internal/race.Acquire", "(*internal/sync.Mutex).lockSlow", "internal/sync.runtime_canSpin", "internal/sync.runtime_doSpin", "internal/sync.throw", "internal/sync.runtime_nanotime", "internal/sync.runtime_SemacquireMutex", "sync/atomic.AddInt32", "(*internal/sync.Mutex).Unlock", "internal/race.ReleaseMerge", "(*internal/sync.Mutex).unlockSlow", "internal/sync.fatal", "internal/sync.runtime_Semrelease", "sync/atomic.StoreUint32"], unfollowed := true, recurses := true, named := ["psaltery/wave.polynomial", "psaltery/alloc.offsetsOf4", "psaltery/alloc.offsetsOf8"], apart := false, laid := [("psaltery/wave.polynomial", laid_psaltery_wave_polynomial), ("psaltery/alloc.offsetsOf4", laid_psaltery_alloc_offsetsOf4), ("psaltery/alloc.offsetsOf8", laid_psaltery_alloc_offsetsOf8)] }
def SubFramesSaid : Prop := subFramesRow.holds Tryz.pinned (OpenSpec.ofChange subFramesSpec)

/-- ITS FALSE NEIGHBOUR: 'it returns false'. Refute it at one input. -/
def subFramesWrong : ChangeSpec := { name := "subFrames", fn := fun _ => fun
  | [d1, d2] => { results := [.lit (.bool false)], args := [d1, d2] }
  | _ => none }
def SubFramesWrongFalsely : Prop := subFramesRow.holds Tryz.pinned (OpenSpec.ofChange subFramesWrong)

/-- 'psalterylaw14.SubPlays': WHATEVER THE INPUT: true; the input reads as it did. -/
def subPlaysSpec : ChangeSpec := { name := "subPlays", fn := fun _ => fun
  | [d1, d2, d3] => { results := [.lit (.bool true)], args := [d1, d2, d3] }
  | _ => none }
def subPlaysRow : OpenClaim := { program := "ytcaifpjbjghhaaagreatdoor", sum := "9f4254247bc4dfed1c1dcd03be09038560248d48a45bf5bdbea8f72454862f23", func := "psaltery/psalterylaw14.SubPlays", spec := "subPlays", inPlace := ["sync/atomic.AddInt64", "sync/atomic.LoadUint32", "(*internal/sync.Mutex).Lock", "internal/race.Disable", "sync/atomic.CompareAndSwapInt32", "internal/race.Enable", "internal/race.Acquire", "(*internal/sync.Mutex).lockSlow", "internal/sync.runtime_canSpin", "internal/sync.runtime_doSpin", "internal/sync.throw", "internal/sync.runtime_nanotime", "internal/sync.runtime_SemacquireMutex", "sync/atomic.AddInt32", "(*internal/sync.Mutex).Unlock", "internal/race.ReleaseMerge", "(*internal/sync.Mutex).unlockSlow", "internal/sync.fatal", "internal/sync.runtime_Semrelease", "sync/atomic.StoreUint32"], unfollowed := true, recurses := true, named := ["psaltery/wave.polynomial", "psaltery/alloc.offsetsOf4", "psaltery/alloc.offsetsOf8"], apart := false, laid := [("psaltery/wave.polynomial", laid_psaltery_wave_polynomial), ("psaltery/alloc.offsetsOf4", laid_psaltery_alloc_offsetsOf4), ("psaltery/alloc.offsetsOf8", laid_psaltery_alloc_offsetsOf8)] }
def SubPlaysSaid : Prop := subPlaysRow.holds Tryz.pinned (OpenSpec.ofChange subPlaysSpec)

/-- ITS FALSE NEIGHBOUR: 'it returns false'. Refute it at one input. -/
def subPlaysWrong : ChangeSpec := { name := "subPlays", fn := fun _ => fun
  | [d1, d2, d3] => { results := [.lit (.bool false)], args := [d1, d2, d3] }
  | _ => none }
def SubPlaysWrongFalsely : Prop := subPlaysRow.holds Tryz.pinned (OpenSpec.ofChange subPlaysWrong)

/-- 'psalterylaw14.SubBack': WHATEVER THE INPUT: true; the input reads as it did. -/
def subBackSpec : ChangeSpec := { name := "subBack", fn := fun _ => fun
  | [d1, d2] => { results := [.lit (.bool true)], args := [d1, d2] }
  | _ => none }
def subBackRow : OpenClaim := { program := "ytcaifpjbjghhaaagreatdoor", sum := "9f4254247bc4dfed1c1dcd03be09038560248d48a45bf5bdbea8f72454862f23", func := "psaltery/psalterylaw14.SubBack", spec := "subBack", inPlace := ["sync/atomic.AddInt64", "sync/atomic.LoadUint32", "(*internal/sync.Mutex).Lock", "internal/race.Disable", "sync/atomic.CompareAndSwapInt32", "internal/race.Enable", "internal/race.Acquire", "(*internal/sync.Mutex).lockSlow", "internal/sync.runtime_canSpin", "internal/sync.runtime_doSpin", "internal/sync.throw", "internal/sync.runtime_nanotime", "internal/sync.runtime_SemacquireMutex", "sync/atomic.AddInt32", "(*internal/sync.Mutex).Unlock", "internal/race.ReleaseMerge", "(*internal/sync.Mutex).unlockSlow", "internal/sync.fatal", "internal/sync.runtime_Semrelease", "sync/atomic.StoreUint32"], unfollowed := true, recurses := true, named := ["psaltery/wave.polynomial", "psaltery/alloc.offsetsOf4", "psaltery/alloc.offsetsOf8"], apart := false, laid := [("psaltery/wave.polynomial", laid_psaltery_wave_polynomial), ("psaltery/alloc.offsetsOf4", laid_psaltery_alloc_offsetsOf4), ("psaltery/alloc.offsetsOf8", laid_psaltery_alloc_offsetsOf8)] }
def SubBackSaid : Prop := subBackRow.holds Tryz.pinned (OpenSpec.ofChange subBackSpec)

/-- ITS FALSE NEIGHBOUR: 'it returns false'. Refute it at one input. -/
def subBackWrong : ChangeSpec := { name := "subBack", fn := fun _ => fun
  | [d1, d2] => { results := [.lit (.bool false)], args := [d1, d2] }
  | _ => none }
def SubBackWrongFalsely : Prop := subBackRow.holds Tryz.pinned (OpenSpec.ofChange subBackWrong)

/-- 'psalterylaw14.SubTurned': WHATEVER THE INPUT: true; the input reads as it did. -/
def subTurnedSpec : ChangeSpec := { name := "subTurned", fn := fun _ => fun
  | [d1, d2, d3, d4, d5] => { results := [.lit (.bool true)], args := [d1, d2, d3, d4, d5] }
  | _ => none }
def subTurnedRow : OpenClaim := { program := "ytcaifpjbjghhaaagreatdoor", sum := "9f4254247bc4dfed1c1dcd03be09038560248d48a45bf5bdbea8f72454862f23", func := "psaltery/psalterylaw14.SubTurned", spec := "subTurned", inPlace := ["sync/atomic.AddInt64", "sync/atomic.LoadUint32", "(*internal/sync.Mutex).Lock", "internal/race.Disable", "sync/atomic.CompareAndSwapInt32", "internal/race.Enable", "internal/race.Acquire", "(*internal/sync.Mutex).lockSlow", "internal/sync.runtime_canSpin", "internal/sync.runtime_doSpin", "internal/sync.throw", "internal/sync.runtime_nanotime", "internal/sync.runtime_SemacquireMutex", "sync/atomic.AddInt32", "(*internal/sync.Mutex).Unlock", "internal/race.ReleaseMerge", "(*internal/sync.Mutex).unlockSlow", "internal/sync.fatal", "internal/sync.runtime_Semrelease", "sync/atomic.StoreUint32"], unfollowed := true, recurses := true, named := ["psaltery/wave.polynomial", "psaltery/alloc.offsetsOf4", "psaltery/alloc.offsetsOf8"], apart := false, laid := [("psaltery/wave.polynomial", laid_psaltery_wave_polynomial), ("psaltery/alloc.offsetsOf4", laid_psaltery_alloc_offsetsOf4), ("psaltery/alloc.offsetsOf8", laid_psaltery_alloc_offsetsOf8)] }
def SubTurnedSaid : Prop := subTurnedRow.holds Tryz.pinned (OpenSpec.ofChange subTurnedSpec)

/-- ITS FALSE NEIGHBOUR: 'it returns false'. Refute it at one input. -/
def subTurnedWrong : ChangeSpec := { name := "subTurned", fn := fun _ => fun
  | [d1, d2, d3, d4, d5] => { results := [.lit (.bool false)], args := [d1, d2, d3, d4, d5] }
  | _ => none }
def SubTurnedWrongFalsely : Prop := subTurnedRow.holds Tryz.pinned (OpenSpec.ofChange subTurnedWrong)

/-- 'psalterylaw14.SubAny': WHATEVER THE INPUT: true; the input reads as it did. -/
def subAnySpec : ChangeSpec := { name := "subAny", fn := fun _ => fun
  | [d1, d2] => { results := [.lit (.bool true)], args := [d1, d2] }
  | _ => none }
def subAnyRow : OpenClaim := { program := "ytcaifpjbjghhaaagreatdoor", sum := "9f4254247bc4dfed1c1dcd03be09038560248d48a45bf5bdbea8f72454862f23", func := "psaltery/psalterylaw14.SubAny", spec := "subAny", inPlace := ["sync/atomic.AddInt64", "sync/atomic.LoadUint32", "(*internal/sync.Mutex).Lock", "internal/race.Disable", "sync/atomic.CompareAndSwapInt32", "internal/race.Enable", "internal/race.Acquire", "(*internal/sync.Mutex).lockSlow", "internal/sync.runtime_canSpin", "internal/sync.runtime_doSpin", "internal/sync.throw", "internal/sync.runtime_nanotime", "internal/sync.runtime_SemacquireMutex", "sync/atomic.AddInt32", "(*internal/sync.Mutex).Unlock", "internal/race.ReleaseMerge", "(*internal/sync.Mutex).unlockSlow", "internal/sync.fatal", "internal/sync.runtime_Semrelease", "sync/atomic.StoreUint32"], unfollowed := true, recurses := true, named := ["psaltery/wave.polynomial", "psaltery/alloc.offsetsOf4", "psaltery/alloc.offsetsOf8"], apart := false, laid := [("psaltery/wave.polynomial", laid_psaltery_wave_polynomial), ("psaltery/alloc.offsetsOf4", laid_psaltery_alloc_offsetsOf4), ("psaltery/alloc.offsetsOf8", laid_psaltery_alloc_offsetsOf8)] }
def SubAnySaid : Prop := subAnyRow.holds Tryz.pinned (OpenSpec.ofChange subAnySpec)

/-- ITS FALSE NEIGHBOUR: 'it returns false'. Refute it at one input. -/
def subAnyWrong : ChangeSpec := { name := "subAny", fn := fun _ => fun
  | [d1, d2] => { results := [.lit (.bool false)], args := [d1, d2] }
  | _ => none }
def SubAnyWrongFalsely : Prop := subAnyRow.holds Tryz.pinned (OpenSpec.ofChange subAnyWrong)

/-- 'psalterylaw14.SubNil': WHATEVER THE INPUT: true; the input reads as it did. -/
def subNilSpec : ChangeSpec := { name := "subNil", fn := fun _ => fun
  | [d1, d2] => { results := [.lit (.bool true)], args := [d1, d2] }
  | _ => none }
def subNilRow : OpenClaim := { program := "ytcaifpjbjghhaaagreatdoor", sum := "9f4254247bc4dfed1c1dcd03be09038560248d48a45bf5bdbea8f72454862f23", func := "psaltery/psalterylaw14.SubNil", spec := "subNil", inPlace := ["sync/atomic.AddInt64", "sync/atomic.LoadUint32", "(*internal/sync.Mutex).Lock", "internal/race.Disable", "sync/atomic.CompareAndSwapInt32", "internal/race.Enable", "internal/race.Acquire", "(*internal/sync.Mutex).lockSlow", "internal/sync.runtime_canSpin", "internal/sync.runtime_doSpin", "internal/sync.throw", "internal/sync.runtime_nanotime", "internal/sync.runtime_SemacquireMutex", "sync/atomic.AddInt32", "(*internal/sync.Mutex).Unlock", "internal/race.ReleaseMerge", "(*internal/sync.Mutex).unlockSlow", "internal/sync.fatal", "internal/sync.runtime_Semrelease", "sync/atomic.StoreUint32"], unfollowed := true, recurses := true, named := ["psaltery/wave.polynomial", "psaltery/alloc.offsetsOf4", "psaltery/alloc.offsetsOf8"], apart := false, laid := [("psaltery/wave.polynomial", laid_psaltery_wave_polynomial), ("psaltery/alloc.offsetsOf4", laid_psaltery_alloc_offsetsOf4), ("psaltery/alloc.offsetsOf8", laid_psaltery_alloc_offsetsOf8)] }
def SubNilSaid : Prop := subNilRow.holds Tryz.pinned (OpenSpec.ofChange subNilSpec)

/-- ITS FALSE NEIGHBOUR: 'it returns false'. Refute it at one input. -/
def subNilWrong : ChangeSpec := { name := "subNil", fn := fun _ => fun
  | [d1, d2] => { results := [.lit (.bool false)], args := [d1, d2] }
  | _ => none }
def SubNilWrongFalsely : Prop := subNilRow.holds Tryz.pinned (OpenSpec.ofChange subNilWrong)

/- THE SECOND FORM. 'bulk': how many values and letters a reading holds, each counted each time it is reached (what is shared counts as often as it is met; a slice's spare places count too). A statement '..UptoSaid' is the law's where the arguments, and the package variables that the reading takes, are together of bulk at most 1048576: NARROWER than '..Said'. Prove '..Said' where nothing that the law and all that it calls make is longer than what came in: it says more and counts as full. Else prove '..UptoSaid'. A law counts once. -/
mutual
def uptoBulk {H : Type} : DataW H → Nat
  | .lit (.string bytes) => bytes.length + 1
  | .lit _ => 1
  | .nil => 1
  | .ptr d => uptoBulk d + 1
  | .slice elems spare => uptoBulkAll elems + uptoBulkAll spare + 1
  | .agg parts => uptoBulkAll parts + 1
  | .iface _ d => uptoBulk d + 1
  | .map entries => uptoBulkEntries entries + 1
  | .held _ => 1
def uptoBulkAll {H : Type} : List (DataW H) → Nat
  | [] => 0
  | d :: r => uptoBulk d + uptoBulkAll r
def uptoBulkEntries {H : Type} : List (Lit × DataW H) → Nat
  | [] => 0
  | x :: r => uptoBulkEntry x + uptoBulkEntries r
def uptoBulkEntry {H : Type} : Lit × DataW H → Nat
  | (.string bytes, d) => bytes.length + uptoBulk d + 1
  | (_, d) => uptoBulk d + 1
 end
def uptoSmall : (H : Type) → List (DataW H) → Bool := fun _ ds => decide (uptoBulkAll ds ≤ 1048576)
def OpenSpec.upto (s : _root_.Go.ChangeSpec) : _root_.Go.OpenSpec := { _root_.Go.OpenSpec.ofChange s with cond := some uptoSmall }

/-- 'psalterylaw14.SubAnalyses', WHERE WHAT IT READS IS OF BULK AT MOST 1048576: true; the input reads as it did. -/
def subAnalysesUptoRow : OpenClaim := { program := "ytcaifpjbjghhaaagreatdoor", sum := "9f4254247bc4dfed1c1dcd03be09038560248d48a45bf5bdbea8f72454862f23", func := "psaltery/psalterylaw14.SubAnalyses", spec := "subAnalyses", inPlace := ["sync/atomic.AddInt64", "sync/atomic.LoadUint32", "(*internal/sync.Mutex).Lock", "internal/race.Disable", "sync/atomic.CompareAndSwapInt32", "internal/race.Enable", "internal/race.Acquire", "(*internal/sync.Mutex).lockSlow", "internal/sync.runtime_canSpin", "internal/sync.runtime_doSpin", "internal/sync.throw", "internal/sync.runtime_nanotime", "internal/sync.runtime_SemacquireMutex", "sync/atomic.AddInt32", "(*internal/sync.Mutex).Unlock", "internal/race.ReleaseMerge", "(*internal/sync.Mutex).unlockSlow", "internal/sync.fatal", "internal/sync.runtime_Semrelease", "sync/atomic.StoreUint32"], unfollowed := true, recurses := true, named := ["psaltery/wave.polynomial", "psaltery/alloc.offsetsOf4", "psaltery/alloc.offsetsOf8"], apart := false, laid := [("psaltery/wave.polynomial", laid_psaltery_wave_polynomial), ("psaltery/alloc.offsetsOf4", laid_psaltery_alloc_offsetsOf4), ("psaltery/alloc.offsetsOf8", laid_psaltery_alloc_offsetsOf8)], narrowed := true }
def SubAnalysesUptoSaid : Prop := subAnalysesUptoRow.holds Tryz.pinned (OpenSpec.upto subAnalysesSpec)

/-- 'psalterylaw14.SubPacks', WHERE WHAT IT READS IS OF BULK AT MOST 1048576: true; the input reads as it did. -/
def subPacksUptoRow : OpenClaim := { program := "ytcaifpjbjghhaaagreatdoor", sum := "9f4254247bc4dfed1c1dcd03be09038560248d48a45bf5bdbea8f72454862f23", func := "psaltery/psalterylaw14.SubPacks", spec := "subPacks", inPlace := ["sync/atomic.AddInt64", "sync/atomic.LoadUint32", "(*internal/sync.Mutex).Lock", "internal/race.Disable", "sync/atomic.CompareAndSwapInt32", "internal/race.Enable", "internal/race.Acquire", "(*internal/sync.Mutex).lockSlow", "internal/sync.runtime_canSpin", "internal/sync.runtime_doSpin", "internal/sync.throw", "internal/sync.runtime_nanotime", "internal/sync.runtime_SemacquireMutex", "sync/atomic.AddInt32", "(*internal/sync.Mutex).Unlock", "internal/race.ReleaseMerge", "(*internal/sync.Mutex).unlockSlow", "internal/sync.fatal", "internal/sync.runtime_Semrelease", "sync/atomic.StoreUint32"], unfollowed := true, recurses := true, named := ["psaltery/wave.polynomial", "psaltery/alloc.offsetsOf4", "psaltery/alloc.offsetsOf8"], apart := false, laid := [("psaltery/wave.polynomial", laid_psaltery_wave_polynomial), ("psaltery/alloc.offsetsOf4", laid_psaltery_alloc_offsetsOf4), ("psaltery/alloc.offsetsOf8", laid_psaltery_alloc_offsetsOf8)], narrowed := true }
def SubPacksUptoSaid : Prop := subPacksUptoRow.holds Tryz.pinned (OpenSpec.upto subPacksSpec)

/-- 'psalterylaw14.SubFrames', WHERE WHAT IT READS IS OF BULK AT MOST 1048576: true; the input reads as it did. -/
def subFramesUptoRow : OpenClaim := { program := "ytcaifpjbjghhaaagreatdoor", sum := "9f4254247bc4dfed1c1dcd03be09038560248d48a45bf5bdbea8f72454862f23", func := "psaltery/psalterylaw14.SubFrames", spec := "subFrames", inPlace := ["sync/atomic.AddInt64", "sync/atomic.LoadUint32", "(*internal/sync.Mutex).Lock", "internal/race.Disable", "sync/atomic.CompareAndSwapInt32", "internal/race.Enable", "internal/race.Acquire", "(*internal/sync.Mutex).lockSlow", "internal/sync.runtime_canSpin", "internal/sync.runtime_doSpin", "internal/sync.throw", "internal/sync.runtime_nanotime", "internal/sync.runtime_SemacquireMutex", "sync/atomic.AddInt32", "(*internal/sync.Mutex).Unlock", "internal/race.ReleaseMerge", "(*internal/sync.Mutex).unlockSlow", "internal/sync.fatal", "internal/sync.runtime_Semrelease", "sync/atomic.StoreUint32"], unfollowed := true, recurses := true, named := ["psaltery/wave.polynomial", "psaltery/alloc.offsetsOf4", "psaltery/alloc.offsetsOf8"], apart := false, laid := [("psaltery/wave.polynomial", laid_psaltery_wave_polynomial), ("psaltery/alloc.offsetsOf4", laid_psaltery_alloc_offsetsOf4), ("psaltery/alloc.offsetsOf8", laid_psaltery_alloc_offsetsOf8)], narrowed := true }
def SubFramesUptoSaid : Prop := subFramesUptoRow.holds Tryz.pinned (OpenSpec.upto subFramesSpec)

/-- 'psalterylaw14.SubPlays', WHERE WHAT IT READS IS OF BULK AT MOST 1048576: true; the input reads as it did. -/
def subPlaysUptoRow : OpenClaim := { program := "ytcaifpjbjghhaaagreatdoor", sum := "9f4254247bc4dfed1c1dcd03be09038560248d48a45bf5bdbea8f72454862f23", func := "psaltery/psalterylaw14.SubPlays", spec := "subPlays", inPlace := ["sync/atomic.AddInt64", "sync/atomic.LoadUint32", "(*internal/sync.Mutex).Lock", "internal/race.Disable", "sync/atomic.CompareAndSwapInt32", "internal/race.Enable", "internal/race.Acquire", "(*internal/sync.Mutex).lockSlow", "internal/sync.runtime_canSpin", "internal/sync.runtime_doSpin", "internal/sync.throw", "internal/sync.runtime_nanotime", "internal/sync.runtime_SemacquireMutex", "sync/atomic.AddInt32", "(*internal/sync.Mutex).Unlock", "internal/race.ReleaseMerge", "(*internal/sync.Mutex).unlockSlow", "internal/sync.fatal", "internal/sync.runtime_Semrelease", "sync/atomic.StoreUint32"], unfollowed := true, recurses := true, named := ["psaltery/wave.polynomial", "psaltery/alloc.offsetsOf4", "psaltery/alloc.offsetsOf8"], apart := false, laid := [("psaltery/wave.polynomial", laid_psaltery_wave_polynomial), ("psaltery/alloc.offsetsOf4", laid_psaltery_alloc_offsetsOf4), ("psaltery/alloc.offsetsOf8", laid_psaltery_alloc_offsetsOf8)], narrowed := true }
def SubPlaysUptoSaid : Prop := subPlaysUptoRow.holds Tryz.pinned (OpenSpec.upto subPlaysSpec)

/-- 'psalterylaw14.SubBack', WHERE WHAT IT READS IS OF BULK AT MOST 1048576: true; the input reads as it did. -/
def subBackUptoRow : OpenClaim := { program := "ytcaifpjbjghhaaagreatdoor", sum := "9f4254247bc4dfed1c1dcd03be09038560248d48a45bf5bdbea8f72454862f23", func := "psaltery/psalterylaw14.SubBack", spec := "subBack", inPlace := ["sync/atomic.AddInt64", "sync/atomic.LoadUint32", "(*internal/sync.Mutex).Lock", "internal/race.Disable", "sync/atomic.CompareAndSwapInt32", "internal/race.Enable", "internal/race.Acquire", "(*internal/sync.Mutex).lockSlow", "internal/sync.runtime_canSpin", "internal/sync.runtime_doSpin", "internal/sync.throw", "internal/sync.runtime_nanotime", "internal/sync.runtime_SemacquireMutex", "sync/atomic.AddInt32", "(*internal/sync.Mutex).Unlock", "internal/race.ReleaseMerge", "(*internal/sync.Mutex).unlockSlow", "internal/sync.fatal", "internal/sync.runtime_Semrelease", "sync/atomic.StoreUint32"], unfollowed := true, recurses := true, named := ["psaltery/wave.polynomial", "psaltery/alloc.offsetsOf4", "psaltery/alloc.offsetsOf8"], apart := false, laid := [("psaltery/wave.polynomial", laid_psaltery_wave_polynomial), ("psaltery/alloc.offsetsOf4", laid_psaltery_alloc_offsetsOf4), ("psaltery/alloc.offsetsOf8", laid_psaltery_alloc_offsetsOf8)], narrowed := true }
def SubBackUptoSaid : Prop := subBackUptoRow.holds Tryz.pinned (OpenSpec.upto subBackSpec)

/-- 'psalterylaw14.SubTurned', WHERE WHAT IT READS IS OF BULK AT MOST 1048576: true; the input reads as it did. -/
def subTurnedUptoRow : OpenClaim := { program := "ytcaifpjbjghhaaagreatdoor", sum := "9f4254247bc4dfed1c1dcd03be09038560248d48a45bf5bdbea8f72454862f23", func := "psaltery/psalterylaw14.SubTurned", spec := "subTurned", inPlace := ["sync/atomic.AddInt64", "sync/atomic.LoadUint32", "(*internal/sync.Mutex).Lock", "internal/race.Disable", "sync/atomic.CompareAndSwapInt32", "internal/race.Enable", "internal/race.Acquire", "(*internal/sync.Mutex).lockSlow", "internal/sync.runtime_canSpin", "internal/sync.runtime_doSpin", "internal/sync.throw", "internal/sync.runtime_nanotime", "internal/sync.runtime_SemacquireMutex", "sync/atomic.AddInt32", "(*internal/sync.Mutex).Unlock", "internal/race.ReleaseMerge", "(*internal/sync.Mutex).unlockSlow", "internal/sync.fatal", "internal/sync.runtime_Semrelease", "sync/atomic.StoreUint32"], unfollowed := true, recurses := true, named := ["psaltery/wave.polynomial", "psaltery/alloc.offsetsOf4", "psaltery/alloc.offsetsOf8"], apart := false, laid := [("psaltery/wave.polynomial", laid_psaltery_wave_polynomial), ("psaltery/alloc.offsetsOf4", laid_psaltery_alloc_offsetsOf4), ("psaltery/alloc.offsetsOf8", laid_psaltery_alloc_offsetsOf8)], narrowed := true }
def SubTurnedUptoSaid : Prop := subTurnedUptoRow.holds Tryz.pinned (OpenSpec.upto subTurnedSpec)

/-- 'psalterylaw14.SubAny', WHERE WHAT IT READS IS OF BULK AT MOST 1048576: true; the input reads as it did. -/
def subAnyUptoRow : OpenClaim := { program := "ytcaifpjbjghhaaagreatdoor", sum := "9f4254247bc4dfed1c1dcd03be09038560248d48a45bf5bdbea8f72454862f23", func := "psaltery/psalterylaw14.SubAny", spec := "subAny", inPlace := ["sync/atomic.AddInt64", "sync/atomic.LoadUint32", "(*internal/sync.Mutex).Lock", "internal/race.Disable", "sync/atomic.CompareAndSwapInt32", "internal/race.Enable", "internal/race.Acquire", "(*internal/sync.Mutex).lockSlow", "internal/sync.runtime_canSpin", "internal/sync.runtime_doSpin", "internal/sync.throw", "internal/sync.runtime_nanotime", "internal/sync.runtime_SemacquireMutex", "sync/atomic.AddInt32", "(*internal/sync.Mutex).Unlock", "internal/race.ReleaseMerge", "(*internal/sync.Mutex).unlockSlow", "internal/sync.fatal", "internal/sync.runtime_Semrelease", "sync/atomic.StoreUint32"], unfollowed := true, recurses := true, named := ["psaltery/wave.polynomial", "psaltery/alloc.offsetsOf4", "psaltery/alloc.offsetsOf8"], apart := false, laid := [("psaltery/wave.polynomial", laid_psaltery_wave_polynomial), ("psaltery/alloc.offsetsOf4", laid_psaltery_alloc_offsetsOf4), ("psaltery/alloc.offsetsOf8", laid_psaltery_alloc_offsetsOf8)], narrowed := true }
def SubAnyUptoSaid : Prop := subAnyUptoRow.holds Tryz.pinned (OpenSpec.upto subAnySpec)

/-- 'psalterylaw14.SubNil', WHERE WHAT IT READS IS OF BULK AT MOST 1048576: true; the input reads as it did. -/
def subNilUptoRow : OpenClaim := { program := "ytcaifpjbjghhaaagreatdoor", sum := "9f4254247bc4dfed1c1dcd03be09038560248d48a45bf5bdbea8f72454862f23", func := "psaltery/psalterylaw14.SubNil", spec := "subNil", inPlace := ["sync/atomic.AddInt64", "sync/atomic.LoadUint32", "(*internal/sync.Mutex).Lock", "internal/race.Disable", "sync/atomic.CompareAndSwapInt32", "internal/race.Enable", "internal/race.Acquire", "(*internal/sync.Mutex).lockSlow", "internal/sync.runtime_canSpin", "internal/sync.runtime_doSpin", "internal/sync.throw", "internal/sync.runtime_nanotime", "internal/sync.runtime_SemacquireMutex", "sync/atomic.AddInt32", "(*internal/sync.Mutex).Unlock", "internal/race.ReleaseMerge", "(*internal/sync.Mutex).unlockSlow", "internal/sync.fatal", "internal/sync.runtime_Semrelease", "sync/atomic.StoreUint32"], unfollowed := true, recurses := true, named := ["psaltery/wave.polynomial", "psaltery/alloc.offsetsOf4", "psaltery/alloc.offsetsOf8"], apart := false, laid := [("psaltery/wave.polynomial", laid_psaltery_wave_polynomial), ("psaltery/alloc.offsetsOf4", laid_psaltery_alloc_offsetsOf4), ("psaltery/alloc.offsetsOf8", laid_psaltery_alloc_offsetsOf8)], narrowed := true }
def SubNilUptoSaid : Prop := subNilUptoRow.holds Tryz.pinned (OpenSpec.upto subNilSpec)

end Rows
end Go.Proofs.YtcaifpjbjghhaaaGreatDoor
