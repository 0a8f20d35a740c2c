/-
  Of any planes, played one to three times one behind the other, a decoder of any format tells just the samples that the document's sums over all planes that came tell; planes that do not fit are refused, and no other format has a decoder. Conditions: none.
-/
import Derived.Test.YtcaifpjbjghhaaaGreatDoorSubPlaysPart
namespace Go.Proofs.YtcaifpjbjghhaaaGreatDoor.subPlays
open Go.ChangeShapes Go.WideShapes Go.ChangeAt Go.RowKit
set_option linter.unusedVariables false
theorem kFn : Tryz.pinned.checked.prog.funcNamed Rows.subPlaysRow.func = some 6 := by kernel_rfl
theorem kClosed : joinedFacts Tryz.pinned.checked.prog 6 Tryz.f6 (OpenSpec.ofChange Rows.subPlaysSpec).bare Rows.subPlaysRow = true := by kernel_rfl
theorem kInst : Tryz.f6.isInstance Tryz.pinned.checked.prog Rows.subPlaysRow.origin Rows.subPlaysRow.targs := of_decide_eq_true (by kernel_rfl)
theorem kWrap : Tryz.f6.isWrapper Tryz.pinned.checked.prog Rows.subPlaysRow.wrapper Rows.subPlaysRow.mainSum := by unfold Func.isWrapper; first | (rw [if_pos (by decide +kernel)]; kernel_rfl) | (rw [if_neg (by decide +kernel)]; exact ⟨rfl, rfl⟩)
theorem said : Rows.SubPlaysSaid :=
  OpenClaim.holds_of_cond 6 Tryz.f6 rfl rfl rfl rfl rfl rfl rfl ⟨rfl, rfl, rfl, rfl, rfl⟩ rfl rfl rfl rfl rfl kFn Tryz.func6 kClosed kInst kWrap
    (fun os started H enc _ F => by rw [OpenClaim.pre_eq_preRow]; exact lifted os started H enc F)

/-- No parameter wants a stand-in; the program's own looks are off: what the card asks. -/
theorem plain (f : FuncId) (fn : Func) (hf : Tryz.pinned.checked.prog.funcNamed "psaltery/psalterylaw14.SubPlays" = some f) (hfn : Tryz.pinned.checked.prog.funcs[f]? = some fn) :
    false = Tryz.pinned.checked.prog.looks [] ∧ ∀ (j : Nat) t, fn.params[j]? = some t → Tryz.pinned.checked.prog.wantsStandIn t = false := by
  obtain rfl : f = 6 := Option.some.inj ((show Tryz.prog.funcNamed "psaltery/psalterylaw14.SubPlays" = some 6 by kernel_rfl).symm.trans hf) |>.symm
  obtain rfl : fn = Tryz.f6 := (Option.some.inj (Tryz.func6.symm.trans hfn)).symm
  refine ⟨by kernel_rfl, fun j t ht => ?_⟩
  rw [Tryz.params6] at ht
  have hm := Array.mem_of_getElem? ht
  have hc : t = 23 ∨ t = 24 ∨ t = 5 := by simpa using hm
  rcases hc with rfl | rfl | rfl
  · exact (show Tryz.prog.wantsStandIn 23 = false by kernel_rfl)
  · exact (show Tryz.prog.wantsStandIn 24 = false by kernel_rfl)
  · exact (show Tryz.prog.wantsStandIn 5 = false by kernel_rfl)

/-- ████ THE STATEMENT: THE CARD ████ -/
theorem proved : Rows.SubPlaysCardSaid :=
  Claim7.holds_tied_plain_at .later [] _ _ _ _ said (fun _ h => by cases h) (by kernel_rfl) (fun _ h => by cases h) subPlays_row_tie rfl ⟨rfl, rfl⟩ (by kernel_rfl) rfl plain (by kernel_rfl)
#print axioms proved
end Go.Proofs.YtcaifpjbjghhaaaGreatDoor.subPlays
