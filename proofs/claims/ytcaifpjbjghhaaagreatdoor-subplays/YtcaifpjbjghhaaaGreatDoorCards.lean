/-
  DERIVED. GIVEN WITH THE SEED: THE CARDS: each row of YtcaifpjbjghhaaaGreatDoorRows.lean that lists a variable, with what it lists TIED to the program's text (the seventh form; the later family's looks); each row that meets fmt, with fmt's text TOLD by the authors' own Lean function (tested against real Go, not proved from fmt's source: count such statements apart). THE CARD IS WHAT COUNTS. Prove the row's statement (the work); the ties are given (YtcaifpjbjghhaaaGreatDoorTie.lean); close each card by the builder's one call (the guide's Derived/Test/ToyasCard.lean, 'card_holds'). Laid BY PROGRAM, IN A SANDBOX (cutbox-door.mjs). By AI agents, Wed Nov 11 2026. No macro, syntax, notation, axiom, sorry.
-/
import Derived.Test.YtcaifpjbjghhaaaGreatDoorRows
import GoSem.ClaimSeven
namespace Go.Proofs.YtcaifpjbjghhaaaGreatDoor
namespace Rows

/-- THE TIED CARD OF 'psalterylaw14.SubAnalyses'. -/
def subAnalysesCard : Claim7 := { stood := { row := subAnalysesRow, standIns := [], harness := (true, "e6be9b5c67c6e758affb0cf33db723170da102c00631376b67cf9ff293f8e911"), looks := false }, kinds := [], alts := [], laidByText := true, laidKinds := [.data, .data, .data], laidTests := true, laidLooks := .later }
def SubAnalysesCardSaid : Prop := Claim7.holds Tryz.pinned (.plain (OpenSpec.ofChange subAnalysesSpec)) subAnalysesCard

/-- THE TIED CARD OF 'psalterylaw14.SubPacks'. -/
def subPacksCard : Claim7 := { stood := { row := subPacksRow, standIns := [], harness := (true, "e6be9b5c67c6e758affb0cf33db723170da102c00631376b67cf9ff293f8e911"), looks := false }, kinds := [], alts := [], laidByText := true, laidKinds := [.data, .data, .data], laidTests := true, laidLooks := .later }
def SubPacksCardSaid : Prop := Claim7.holds Tryz.pinned (.plain (OpenSpec.ofChange subPacksSpec)) subPacksCard

/-- THE TIED CARD OF 'psalterylaw14.SubFrames'. -/
def subFramesCard : Claim7 := { stood := { row := subFramesRow, standIns := [], harness := (true, "e6be9b5c67c6e758affb0cf33db723170da102c00631376b67cf9ff293f8e911"), looks := false }, kinds := [], alts := [], laidByText := true, laidKinds := [.data, .data, .data], laidTests := true, laidLooks := .later }
def SubFramesCardSaid : Prop := Claim7.holds Tryz.pinned (.plain (OpenSpec.ofChange subFramesSpec)) subFramesCard

/-- THE TIED CARD OF 'psalterylaw14.SubPlays'. -/
def subPlaysCard : Claim7 := { stood := { row := subPlaysRow, standIns := [], harness := (true, "e6be9b5c67c6e758affb0cf33db723170da102c00631376b67cf9ff293f8e911"), looks := false }, kinds := [], alts := [], laidByText := true, laidKinds := [.data, .data, .data], laidTests := true, laidLooks := .later }
def SubPlaysCardSaid : Prop := Claim7.holds Tryz.pinned (.plain (OpenSpec.ofChange subPlaysSpec)) subPlaysCard

/-- THE TIED CARD OF 'psalterylaw14.SubBack'. -/
def subBackCard : Claim7 := { stood := { row := subBackRow, standIns := [], harness := (true, "e6be9b5c67c6e758affb0cf33db723170da102c00631376b67cf9ff293f8e911"), looks := false }, kinds := [], alts := [], laidByText := true, laidKinds := [.data, .data, .data], laidTests := true, laidLooks := .later }
def SubBackCardSaid : Prop := Claim7.holds Tryz.pinned (.plain (OpenSpec.ofChange subBackSpec)) subBackCard

/-- THE TIED CARD OF 'psalterylaw14.SubTurned'. -/
def subTurnedCard : Claim7 := { stood := { row := subTurnedRow, standIns := [], harness := (true, "e6be9b5c67c6e758affb0cf33db723170da102c00631376b67cf9ff293f8e911"), looks := false }, kinds := [], alts := [], laidByText := true, laidKinds := [.data, .data, .data], laidTests := true, laidLooks := .later }
def SubTurnedCardSaid : Prop := Claim7.holds Tryz.pinned (.plain (OpenSpec.ofChange subTurnedSpec)) subTurnedCard

/-- THE TIED CARD OF 'psalterylaw14.SubAny'. -/
def subAnyCard : Claim7 := { stood := { row := subAnyRow, standIns := [], harness := (true, "e6be9b5c67c6e758affb0cf33db723170da102c00631376b67cf9ff293f8e911"), looks := false }, kinds := [], alts := [], laidByText := true, laidKinds := [.data, .data, .data], laidTests := true, laidLooks := .later }
def SubAnyCardSaid : Prop := Claim7.holds Tryz.pinned (.plain (OpenSpec.ofChange subAnySpec)) subAnyCard

/-- THE TIED CARD OF 'psalterylaw14.SubNil'. -/
def subNilCard : Claim7 := { stood := { row := subNilRow, standIns := [], harness := (true, "e6be9b5c67c6e758affb0cf33db723170da102c00631376b67cf9ff293f8e911"), looks := false }, kinds := [], alts := [], laidByText := true, laidKinds := [.data, .data, .data], laidTests := true, laidLooks := .later }
def SubNilCardSaid : Prop := Claim7.holds Tryz.pinned (.plain (OpenSpec.ofChange subNilSpec)) subNilCard

/-- THE SECOND FORM's CARD OF 'psalterylaw14.SubAnalyses'. -/
def subAnalysesUptoCard : Claim7 := { stood := { row := subAnalysesUptoRow, standIns := [], harness := (true, "e6be9b5c67c6e758affb0cf33db723170da102c00631376b67cf9ff293f8e911"), looks := false }, kinds := [], alts := [], laidByText := true, laidKinds := [.data, .data, .data], laidTests := true, laidLooks := .later }
def SubAnalysesUptoCardSaid : Prop := Claim7.holds Tryz.pinned (.plain (OpenSpec.upto subAnalysesSpec)) subAnalysesUptoCard

/-- THE SECOND FORM's CARD OF 'psalterylaw14.SubPacks'. -/
def subPacksUptoCard : Claim7 := { stood := { row := subPacksUptoRow, standIns := [], harness := (true, "e6be9b5c67c6e758affb0cf33db723170da102c00631376b67cf9ff293f8e911"), looks := false }, kinds := [], alts := [], laidByText := true, laidKinds := [.data, .data, .data], laidTests := true, laidLooks := .later }
def SubPacksUptoCardSaid : Prop := Claim7.holds Tryz.pinned (.plain (OpenSpec.upto subPacksSpec)) subPacksUptoCard

/-- THE SECOND FORM's CARD OF 'psalterylaw14.SubFrames'. -/
def subFramesUptoCard : Claim7 := { stood := { row := subFramesUptoRow, standIns := [], harness := (true, "e6be9b5c67c6e758affb0cf33db723170da102c00631376b67cf9ff293f8e911"), looks := false }, kinds := [], alts := [], laidByText := true, laidKinds := [.data, .data, .data], laidTests := true, laidLooks := .later }
def SubFramesUptoCardSaid : Prop := Claim7.holds Tryz.pinned (.plain (OpenSpec.upto subFramesSpec)) subFramesUptoCard

/-- THE SECOND FORM's CARD OF 'psalterylaw14.SubPlays'. -/
def subPlaysUptoCard : Claim7 := { stood := { row := subPlaysUptoRow, standIns := [], harness := (true, "e6be9b5c67c6e758affb0cf33db723170da102c00631376b67cf9ff293f8e911"), looks := false }, kinds := [], alts := [], laidByText := true, laidKinds := [.data, .data, .data], laidTests := true, laidLooks := .later }
def SubPlaysUptoCardSaid : Prop := Claim7.holds Tryz.pinned (.plain (OpenSpec.upto subPlaysSpec)) subPlaysUptoCard

/-- THE SECOND FORM's CARD OF 'psalterylaw14.SubBack'. -/
def subBackUptoCard : Claim7 := { stood := { row := subBackUptoRow, standIns := [], harness := (true, "e6be9b5c67c6e758affb0cf33db723170da102c00631376b67cf9ff293f8e911"), looks := false }, kinds := [], alts := [], laidByText := true, laidKinds := [.data, .data, .data], laidTests := true, laidLooks := .later }
def SubBackUptoCardSaid : Prop := Claim7.holds Tryz.pinned (.plain (OpenSpec.upto subBackSpec)) subBackUptoCard

/-- THE SECOND FORM's CARD OF 'psalterylaw14.SubTurned'. -/
def subTurnedUptoCard : Claim7 := { stood := { row := subTurnedUptoRow, standIns := [], harness := (true, "e6be9b5c67c6e758affb0cf33db723170da102c00631376b67cf9ff293f8e911"), looks := false }, kinds := [], alts := [], laidByText := true, laidKinds := [.data, .data, .data], laidTests := true, laidLooks := .later }
def SubTurnedUptoCardSaid : Prop := Claim7.holds Tryz.pinned (.plain (OpenSpec.upto subTurnedSpec)) subTurnedUptoCard

/-- THE SECOND FORM's CARD OF 'psalterylaw14.SubAny'. -/
def subAnyUptoCard : Claim7 := { stood := { row := subAnyUptoRow, standIns := [], harness := (true, "e6be9b5c67c6e758affb0cf33db723170da102c00631376b67cf9ff293f8e911"), looks := false }, kinds := [], alts := [], laidByText := true, laidKinds := [.data, .data, .data], laidTests := true, laidLooks := .later }
def SubAnyUptoCardSaid : Prop := Claim7.holds Tryz.pinned (.plain (OpenSpec.upto subAnySpec)) subAnyUptoCard

/-- THE SECOND FORM's CARD OF 'psalterylaw14.SubNil'. -/
def subNilUptoCard : Claim7 := { stood := { row := subNilUptoRow, standIns := [], harness := (true, "e6be9b5c67c6e758affb0cf33db723170da102c00631376b67cf9ff293f8e911"), looks := false }, kinds := [], alts := [], laidByText := true, laidKinds := [.data, .data, .data], laidTests := true, laidLooks := .later }
def SubNilUptoCardSaid : Prop := Claim7.holds Tryz.pinned (.plain (OpenSpec.upto subNilSpec)) subNilUptoCard
end Rows
end Go.Proofs.YtcaifpjbjghhaaaGreatDoor
