/-
  NARROWER THAN 'FOR EVERY INPUT', by the rows' own cells (each row's printed sentence says how): LappedWindows: laid · LappedLaps: laid · LappedUnlaps: laid · LappedForgets: laid.
  DERIVED. THE GIVEN ROWS OF THIS SEAT. 4 by the template 'for every input the law returns true; each argument reads behind the call as it read before'; 0 by the template 'total and deterministic' (their statements: YtjfhlaahgfdmnaaDoorTotals.lean).
  GIVEN WITH THE SEED: the statements are not yours to turn. If you find one false, say at which input.
  Laid BY PROGRAM, IN A SANDBOX (cutbox-rows.mjs): the forced cells as the released guide's own fill.sh prints them over the translation 8aaab6c7e225ac68… (all of the seat's roots in one cut). By AI agents, Wed Nov 11 2026. No macro, syntax, notation, axiom, sorry.
-/
import Derived.Test.YtjfhlaahgfdmnaaDoorChecked
import GoSem.Claim
import GoSem.ClaimJoined
import GoSem.ClaimMapViews
import Derived.JoinedTies
import Derived.KernelRfl
namespace Go.Proofs.YtjfhlaahgfdmnaaDoor
/- THE CELL 'sum', in the pinned program and in every row, IS THE sha256 OF THE DUMP (.gsa) THAT YtjfhlaahgfdmnaaDoorProg.lean LOADS. Nothing in Lean hashes anything: it is a label: what it is worth is what the hold of that sum in a sandbox is worth. -/
noncomputable def Tryd.pinned : Pinned := { name := "ytjfhlaahgfdmnaadoor", sum := "8aaab6c7e225ac686f3d102a459ea65607fda647f41f1005fbfc91b434a4a26f", checked := Tryd.checked }
namespace Rows
def none {H : Type} : Left H := { results := [], args := [] }

/- WHAT THE LISTED PACKAGE-LEVEL VARIABLES READ AS WHEN THE CALL BEGINS. Each datum BY PROGRAM (the guide's laid-datum.mjs) off the statement by which the dump's own 'gosem.cut.vars' lays the variable. In a bare row this is a premise. The card (YtjfhlaahgfdmnaaDoorCards.lean) ties it to the program's text. -/
def laid_psaltery_wave_polynomial {H : Type} : DataW H := .agg [.lit (.int .i64 172272), .lit (.int .i64 5026995), .lit (.int .i64 85569306), .lit (.int .i64 693598668), .lit (.int .i64 1686629713)]

/-- 'psalterylaw09.LappedWindows': WHATEVER THE INPUT: true; the input reads as it did. -/
def lappedWindowsSpec : ChangeSpec := { name := "lappedWindows", fn := fun _ => fun
  | [d] => { results := [.lit (.bool true)], args := [d] }
  | _ => none }
def lappedWindowsRow : OpenClaim := { program := "ytjfhlaahgfdmnaadoor", sum := "8aaab6c7e225ac686f3d102a459ea65607fda647f41f1005fbfc91b434a4a26f", func := "psaltery/psalterylaw09.LappedWindows", spec := "lappedWindows", inPlace := ["sync/atomic.AddInt64", "sync/atomic.LoadUint32", "(*internal/sync.Mutex).Lock", "internal/race.Disable", "sync/atomic.CompareAndSwapInt32", "internal/race.Enable", "internal/race.Acquire", "(*internal/sync.Mutex).lockSlow", "internal/sync.runtime_canSpin", "internal/sync.runtime_doSpin", "internal/sync.throw", "internal/sync.runtime_nanotime", "internal/sync.runtime_SemacquireMutex", "sync/atomic.AddInt32", "(*internal/sync.Mutex).Unlock", "internal/race.ReleaseMerge", "(*internal/sync.Mutex).unlockSlow", "internal/sync.fatal", "internal/sync.runtime_Semrelease", "sync/atomic.StoreUint32"], unfollowed := true, recurses := true, named := ["psaltery/wave.polynomial"], apart := false, laid := [("psaltery/wave.polynomial", laid_psaltery_wave_polynomial)] }
def LappedWindowsSaid : Prop := lappedWindowsRow.holds Tryd.pinned (OpenSpec.ofChange lappedWindowsSpec)

/-- ITS FALSE NEIGHBOUR: 'it returns false'. Refute it at one input. -/
def lappedWindowsWrong : ChangeSpec := { name := "lappedWindows", fn := fun _ => fun
  | [d] => { results := [.lit (.bool false)], args := [d] }
  | _ => none }
def LappedWindowsWrongFalsely : Prop := lappedWindowsRow.holds Tryd.pinned (OpenSpec.ofChange lappedWindowsWrong)

/-- 'psalterylaw09.LappedLaps': WHATEVER THE INPUT: true; the input reads as it did. -/
def lappedLapsSpec : ChangeSpec := { name := "lappedLaps", fn := fun _ => fun
  | [d1, d2] => { results := [.lit (.bool true)], args := [d1, d2] }
  | _ => none }
def lappedLapsRow : OpenClaim := { program := "ytjfhlaahgfdmnaadoor", sum := "8aaab6c7e225ac686f3d102a459ea65607fda647f41f1005fbfc91b434a4a26f", func := "psaltery/psalterylaw09.LappedLaps", spec := "lappedLaps", inPlace := ["sync/atomic.AddInt64", "sync/atomic.LoadUint32", "(*internal/sync.Mutex).Lock", "internal/race.Disable", "sync/atomic.CompareAndSwapInt32", "internal/race.Enable", "internal/race.Acquire", "(*internal/sync.Mutex).lockSlow", "internal/sync.runtime_canSpin", "internal/sync.runtime_doSpin", "internal/sync.throw", "internal/sync.runtime_nanotime", "internal/sync.runtime_SemacquireMutex", "sync/atomic.AddInt32", "(*internal/sync.Mutex).Unlock", "internal/race.ReleaseMerge", "(*internal/sync.Mutex).unlockSlow", "internal/sync.fatal", "internal/sync.runtime_Semrelease", "sync/atomic.StoreUint32"], unfollowed := true, recurses := true, named := ["psaltery/wave.polynomial"], apart := false, laid := [("psaltery/wave.polynomial", laid_psaltery_wave_polynomial)] }
def LappedLapsSaid : Prop := lappedLapsRow.holds Tryd.pinned (OpenSpec.ofChange lappedLapsSpec)

/-- ITS FALSE NEIGHBOUR: 'it returns false'. Refute it at one input. -/
def lappedLapsWrong : ChangeSpec := { name := "lappedLaps", fn := fun _ => fun
  | [d1, d2] => { results := [.lit (.bool false)], args := [d1, d2] }
  | _ => none }
def LappedLapsWrongFalsely : Prop := lappedLapsRow.holds Tryd.pinned (OpenSpec.ofChange lappedLapsWrong)

/-- 'psalterylaw09.LappedUnlaps': WHATEVER THE INPUT: true; the input reads as it did. -/
def lappedUnlapsSpec : ChangeSpec := { name := "lappedUnlaps", fn := fun _ => fun
  | [d1, d2] => { results := [.lit (.bool true)], args := [d1, d2] }
  | _ => none }
def lappedUnlapsRow : OpenClaim := { program := "ytjfhlaahgfdmnaadoor", sum := "8aaab6c7e225ac686f3d102a459ea65607fda647f41f1005fbfc91b434a4a26f", func := "psaltery/psalterylaw09.LappedUnlaps", spec := "lappedUnlaps", inPlace := ["sync/atomic.AddInt64", "sync/atomic.LoadUint32", "(*internal/sync.Mutex).Lock", "internal/race.Disable", "sync/atomic.CompareAndSwapInt32", "internal/race.Enable", "internal/race.Acquire", "(*internal/sync.Mutex).lockSlow", "internal/sync.runtime_canSpin", "internal/sync.runtime_doSpin", "internal/sync.throw", "internal/sync.runtime_nanotime", "internal/sync.runtime_SemacquireMutex", "sync/atomic.AddInt32", "(*internal/sync.Mutex).Unlock", "internal/race.ReleaseMerge", "(*internal/sync.Mutex).unlockSlow", "internal/sync.fatal", "internal/sync.runtime_Semrelease", "sync/atomic.StoreUint32"], unfollowed := true, recurses := true, named := ["psaltery/wave.polynomial"], apart := false, laid := [("psaltery/wave.polynomial", laid_psaltery_wave_polynomial)] }
def LappedUnlapsSaid : Prop := lappedUnlapsRow.holds Tryd.pinned (OpenSpec.ofChange lappedUnlapsSpec)

/-- ITS FALSE NEIGHBOUR: 'it returns false'. Refute it at one input. -/
def lappedUnlapsWrong : ChangeSpec := { name := "lappedUnlaps", fn := fun _ => fun
  | [d1, d2] => { results := [.lit (.bool false)], args := [d1, d2] }
  | _ => none }
def LappedUnlapsWrongFalsely : Prop := lappedUnlapsRow.holds Tryd.pinned (OpenSpec.ofChange lappedUnlapsWrong)

/-- 'psalterylaw09.LappedForgets': WHATEVER THE INPUT: true; the input reads as it did. -/
def lappedForgetsSpec : ChangeSpec := { name := "lappedForgets", fn := fun _ => fun
  | [d1, d2, d3, d4] => { results := [.lit (.bool true)], args := [d1, d2, d3, d4] }
  | _ => none }
def lappedForgetsRow : OpenClaim := { program := "ytjfhlaahgfdmnaadoor", sum := "8aaab6c7e225ac686f3d102a459ea65607fda647f41f1005fbfc91b434a4a26f", func := "psaltery/psalterylaw09.LappedForgets", spec := "lappedForgets", inPlace := ["sync/atomic.AddInt64", "sync/atomic.LoadUint32", "(*internal/sync.Mutex).Lock", "internal/race.Disable", "sync/atomic.CompareAndSwapInt32", "internal/race.Enable", "internal/race.Acquire", "(*internal/sync.Mutex).lockSlow", "internal/sync.runtime_canSpin", "internal/sync.runtime_doSpin", "internal/sync.throw", "internal/sync.runtime_nanotime", "internal/sync.runtime_SemacquireMutex", "sync/atomic.AddInt32", "(*internal/sync.Mutex).Unlock", "internal/race.ReleaseMerge", "(*internal/sync.Mutex).unlockSlow", "internal/sync.fatal", "internal/sync.runtime_Semrelease", "sync/atomic.StoreUint32"], unfollowed := true, recurses := true, named := ["psaltery/wave.polynomial"], apart := false, laid := [("psaltery/wave.polynomial", laid_psaltery_wave_polynomial)] }
def LappedForgetsSaid : Prop := lappedForgetsRow.holds Tryd.pinned (OpenSpec.ofChange lappedForgetsSpec)

/-- ITS FALSE NEIGHBOUR: 'it returns false'. Refute it at one input. -/
def lappedForgetsWrong : ChangeSpec := { name := "lappedForgets", fn := fun _ => fun
  | [d1, d2, d3, d4] => { results := [.lit (.bool false)], args := [d1, d2, d3, d4] }
  | _ => none }
def LappedForgetsWrongFalsely : Prop := lappedForgetsRow.holds Tryd.pinned (OpenSpec.ofChange lappedForgetsWrong)

/- THE SECOND FORM. 'bulk': how many values and letters a reading holds, each counted each time it is reached (what is shared counts as often as it is met; a slice's spare places count too). A statement '..UptoSaid' is the law's where the arguments, and the package variables that the reading takes, are together of bulk at most 1048576: NARROWER than '..Said'. Prove '..Said' where nothing that the law and all that it calls make is longer than what came in: it says more and counts as full. Else prove '..UptoSaid'. A law counts once. -/
mutual
def uptoBulk {H : Type} : DataW H → Nat
  | .lit (.string bytes) => bytes.length + 1
  | .lit _ => 1
  | .nil => 1
  | .ptr d => uptoBulk d + 1
  | .slice elems spare => uptoBulkAll elems + uptoBulkAll spare + 1
  | .agg parts => uptoBulkAll parts + 1
  | .iface _ d => uptoBulk d + 1
  | .map entries => uptoBulkEntries entries + 1
  | .held _ => 1
def uptoBulkAll {H : Type} : List (DataW H) → Nat
  | [] => 0
  | d :: r => uptoBulk d + uptoBulkAll r
def uptoBulkEntries {H : Type} : List (Lit × DataW H) → Nat
  | [] => 0
  | x :: r => uptoBulkEntry x + uptoBulkEntries r
def uptoBulkEntry {H : Type} : Lit × DataW H → Nat
  | (.string bytes, d) => bytes.length + uptoBulk d + 1
  | (_, d) => uptoBulk d + 1
 end
def uptoSmall : (H : Type) → List (DataW H) → Bool := fun _ ds => decide (uptoBulkAll ds ≤ 1048576)
def OpenSpec.upto (s : _root_.Go.ChangeSpec) : _root_.Go.OpenSpec := { _root_.Go.OpenSpec.ofChange s with cond := some uptoSmall }

/-- 'psalterylaw09.LappedWindows', WHERE WHAT IT READS IS OF BULK AT MOST 1048576: true; the input reads as it did. -/
def lappedWindowsUptoRow : OpenClaim := { program := "ytjfhlaahgfdmnaadoor", sum := "8aaab6c7e225ac686f3d102a459ea65607fda647f41f1005fbfc91b434a4a26f", func := "psaltery/psalterylaw09.LappedWindows", spec := "lappedWindows", inPlace := ["sync/atomic.AddInt64", "sync/atomic.LoadUint32", "(*internal/sync.Mutex).Lock", "internal/race.Disable", "sync/atomic.CompareAndSwapInt32", "internal/race.Enable", "internal/race.Acquire", "(*internal/sync.Mutex).lockSlow", "internal/sync.runtime_canSpin", "internal/sync.runtime_doSpin", "internal/sync.throw", "internal/sync.runtime_nanotime", "internal/sync.runtime_SemacquireMutex", "sync/atomic.AddInt32", "(*internal/sync.Mutex).Unlock", "internal/race.ReleaseMerge", "(*internal/sync.Mutex).unlockSlow", "internal/sync.fatal", "internal/sync.runtime_Semrelease", "sync/atomic.StoreUint32"], unfollowed := true, recurses := true, named := ["psaltery/wave.polynomial"], apart := false, laid := [("psaltery/wave.polynomial", laid_psaltery_wave_polynomial)], narrowed := true }
def LappedWindowsUptoSaid : Prop := lappedWindowsUptoRow.holds Tryd.pinned (OpenSpec.upto lappedWindowsSpec)

/-- 'psalterylaw09.LappedLaps', WHERE WHAT IT READS IS OF BULK AT MOST 1048576: true; the input reads as it did. -/
def lappedLapsUptoRow : OpenClaim := { program := "ytjfhlaahgfdmnaadoor", sum := "8aaab6c7e225ac686f3d102a459ea65607fda647f41f1005fbfc91b434a4a26f", func := "psaltery/psalterylaw09.LappedLaps", spec := "lappedLaps", inPlace := ["sync/atomic.AddInt64", "sync/atomic.LoadUint32", "(*internal/sync.Mutex).Lock", "internal/race.Disable", "sync/atomic.CompareAndSwapInt32", "internal/race.Enable", "internal/race.Acquire", "(*internal/sync.Mutex).lockSlow", "internal/sync.runtime_canSpin", "internal/sync.runtime_doSpin", "internal/sync.throw", "internal/sync.runtime_nanotime", "internal/sync.runtime_SemacquireMutex", "sync/atomic.AddInt32", "(*internal/sync.Mutex).Unlock", "internal/race.ReleaseMerge", "(*internal/sync.Mutex).unlockSlow", "internal/sync.fatal", "internal/sync.runtime_Semrelease", "sync/atomic.StoreUint32"], unfollowed := true, recurses := true, named := ["psaltery/wave.polynomial"], apart := false, laid := [("psaltery/wave.polynomial", laid_psaltery_wave_polynomial)], narrowed := true }
def LappedLapsUptoSaid : Prop := lappedLapsUptoRow.holds Tryd.pinned (OpenSpec.upto lappedLapsSpec)

/-- 'psalterylaw09.LappedUnlaps', WHERE WHAT IT READS IS OF BULK AT MOST 1048576: true; the input reads as it did. -/
def lappedUnlapsUptoRow : OpenClaim := { program := "ytjfhlaahgfdmnaadoor", sum := "8aaab6c7e225ac686f3d102a459ea65607fda647f41f1005fbfc91b434a4a26f", func := "psaltery/psalterylaw09.LappedUnlaps", spec := "lappedUnlaps", inPlace := ["sync/atomic.AddInt64", "sync/atomic.LoadUint32", "(*internal/sync.Mutex).Lock", "internal/race.Disable", "sync/atomic.CompareAndSwapInt32", "internal/race.Enable", "internal/race.Acquire", "(*internal/sync.Mutex).lockSlow", "internal/sync.runtime_canSpin", "internal/sync.runtime_doSpin", "internal/sync.throw", "internal/sync.runtime_nanotime", "internal/sync.runtime_SemacquireMutex", "sync/atomic.AddInt32", "(*internal/sync.Mutex).Unlock", "internal/race.ReleaseMerge", "(*internal/sync.Mutex).unlockSlow", "internal/sync.fatal", "internal/sync.runtime_Semrelease", "sync/atomic.StoreUint32"], unfollowed := true, recurses := true, named := ["psaltery/wave.polynomial"], apart := false, laid := [("psaltery/wave.polynomial", laid_psaltery_wave_polynomial)], narrowed := true }
def LappedUnlapsUptoSaid : Prop := lappedUnlapsUptoRow.holds Tryd.pinned (OpenSpec.upto lappedUnlapsSpec)

/-- 'psalterylaw09.LappedForgets', WHERE WHAT IT READS IS OF BULK AT MOST 1048576: true; the input reads as it did. -/
def lappedForgetsUptoRow : OpenClaim := { program := "ytjfhlaahgfdmnaadoor", sum := "8aaab6c7e225ac686f3d102a459ea65607fda647f41f1005fbfc91b434a4a26f", func := "psaltery/psalterylaw09.LappedForgets", spec := "lappedForgets", inPlace := ["sync/atomic.AddInt64", "sync/atomic.LoadUint32", "(*internal/sync.Mutex).Lock", "internal/race.Disable", "sync/atomic.CompareAndSwapInt32", "internal/race.Enable", "internal/race.Acquire", "(*internal/sync.Mutex).lockSlow", "internal/sync.runtime_canSpin", "internal/sync.runtime_doSpin", "internal/sync.throw", "internal/sync.runtime_nanotime", "internal/sync.runtime_SemacquireMutex", "sync/atomic.AddInt32", "(*internal/sync.Mutex).Unlock", "internal/race.ReleaseMerge", "(*internal/sync.Mutex).unlockSlow", "internal/sync.fatal", "internal/sync.runtime_Semrelease", "sync/atomic.StoreUint32"], unfollowed := true, recurses := true, named := ["psaltery/wave.polynomial"], apart := false, laid := [("psaltery/wave.polynomial", laid_psaltery_wave_polynomial)], narrowed := true }
def LappedForgetsUptoSaid : Prop := lappedForgetsUptoRow.holds Tryd.pinned (OpenSpec.upto lappedForgetsSpec)

end Rows
end Go.Proofs.YtjfhlaahgfdmnaaDoor
