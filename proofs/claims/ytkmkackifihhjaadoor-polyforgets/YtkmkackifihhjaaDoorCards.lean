/-
  DERIVED. GIVEN WITH THE SEED: THE CARDS: each row of YtkmkackifihhjaaDoorRows.lean that lists a variable, with what it lists TIED to the program's text (the seventh form; the later family's looks); each row that meets fmt, with fmt's text TOLD by the authors' own Lean function (tested against real Go, not proved from fmt's source: count such statements apart). THE CARD IS WHAT COUNTS. Prove the row's statement (the work); the ties are given (YtkmkackifihhjaaDoorTie.lean); close each card by the builder's one call (the guide's Derived/Test/ToyasCard.lean, 'card_holds'). Laid BY PROGRAM, IN A SANDBOX (cutbox-door.mjs). By AI agents, Wed Nov 11 2026. No macro, syntax, notation, axiom, sorry.
-/
import Derived.Test.YtkmkackifihhjaaDoorRows
import GoSem.ClaimSeven
namespace Go.Proofs.YtkmkackifihhjaaDoor
namespace Rows

/-- THE TIED CARD OF 'psalterylaw08.PolySplits'. -/
def polySplitsCard : Claim7 := { stood := { row := polySplitsRow, standIns := [], harness := (true, "54df760c72281a10b237d19e0851cf56886958ab52d8a7e7fbdd6cacf41a21ff"), looks := false }, kinds := [], alts := [], laidByText := true, laidKinds := [.data], laidTests := true, laidLooks := .later }
def PolySplitsCardSaid : Prop := Claim7.holds Tryd.pinned (.plain (OpenSpec.ofChange polySplitsSpec)) polySplitsCard

/-- THE TIED CARD OF 'psalterylaw08.PolyJoins'. -/
def polyJoinsCard : Claim7 := { stood := { row := polyJoinsRow, standIns := [], harness := (true, "54df760c72281a10b237d19e0851cf56886958ab52d8a7e7fbdd6cacf41a21ff"), looks := false }, kinds := [], alts := [], laidByText := true, laidKinds := [.data], laidTests := true, laidLooks := .later }
def PolyJoinsCardSaid : Prop := Claim7.holds Tryd.pinned (.plain (OpenSpec.ofChange polyJoinsSpec)) polyJoinsCard

/-- THE TIED CARD OF 'psalterylaw08.PolyForgets'. -/
def polyForgetsCard : Claim7 := { stood := { row := polyForgetsRow, standIns := [], harness := (true, "54df760c72281a10b237d19e0851cf56886958ab52d8a7e7fbdd6cacf41a21ff"), looks := false }, kinds := [], alts := [], laidByText := true, laidKinds := [.data], laidTests := true, laidLooks := .later }
def PolyForgetsCardSaid : Prop := Claim7.holds Tryd.pinned (.plain (OpenSpec.ofChange polyForgetsSpec)) polyForgetsCard

/-- THE TIED CARD OF 'psalterylaw08.PolyWrong'. -/
def polyWrongCard : Claim7 := { stood := { row := polyWrongRow, standIns := [], harness := (true, "54df760c72281a10b237d19e0851cf56886958ab52d8a7e7fbdd6cacf41a21ff"), looks := false }, kinds := [], alts := [], laidByText := true, laidKinds := [.data], laidTests := true, laidLooks := .later }
def PolyWrongCardSaid : Prop := Claim7.holds Tryd.pinned (.plain (OpenSpec.ofChange polyWrongSpec)) polyWrongCard

/-- THE TIED CARD OF 'psalterylaw08.PolyQuiet'. -/
def polyQuietCard : Claim7 := { stood := { row := polyQuietRow, standIns := [], harness := (true, "54df760c72281a10b237d19e0851cf56886958ab52d8a7e7fbdd6cacf41a21ff"), looks := false }, kinds := [], alts := [], laidByText := true, laidKinds := [.data], laidTests := true, laidLooks := .later }
def PolyQuietCardSaid : Prop := Claim7.holds Tryd.pinned (.plain (OpenSpec.ofChange polyQuietSpec)) polyQuietCard

/-- THE SECOND FORM's CARD OF 'psalterylaw08.PolySplits'. -/
def polySplitsUptoCard : Claim7 := { stood := { row := polySplitsUptoRow, standIns := [], harness := (true, "54df760c72281a10b237d19e0851cf56886958ab52d8a7e7fbdd6cacf41a21ff"), looks := false }, kinds := [], alts := [], laidByText := true, laidKinds := [.data], laidTests := true, laidLooks := .later }
def PolySplitsUptoCardSaid : Prop := Claim7.holds Tryd.pinned (.plain (OpenSpec.upto polySplitsSpec)) polySplitsUptoCard

/-- THE SECOND FORM's CARD OF 'psalterylaw08.PolyJoins'. -/
def polyJoinsUptoCard : Claim7 := { stood := { row := polyJoinsUptoRow, standIns := [], harness := (true, "54df760c72281a10b237d19e0851cf56886958ab52d8a7e7fbdd6cacf41a21ff"), looks := false }, kinds := [], alts := [], laidByText := true, laidKinds := [.data], laidTests := true, laidLooks := .later }
def PolyJoinsUptoCardSaid : Prop := Claim7.holds Tryd.pinned (.plain (OpenSpec.upto polyJoinsSpec)) polyJoinsUptoCard

/-- THE SECOND FORM's CARD OF 'psalterylaw08.PolyForgets'. -/
def polyForgetsUptoCard : Claim7 := { stood := { row := polyForgetsUptoRow, standIns := [], harness := (true, "54df760c72281a10b237d19e0851cf56886958ab52d8a7e7fbdd6cacf41a21ff"), looks := false }, kinds := [], alts := [], laidByText := true, laidKinds := [.data], laidTests := true, laidLooks := .later }
def PolyForgetsUptoCardSaid : Prop := Claim7.holds Tryd.pinned (.plain (OpenSpec.upto polyForgetsSpec)) polyForgetsUptoCard

/-- THE SECOND FORM's CARD OF 'psalterylaw08.PolyWrong'. -/
def polyWrongUptoCard : Claim7 := { stood := { row := polyWrongUptoRow, standIns := [], harness := (true, "54df760c72281a10b237d19e0851cf56886958ab52d8a7e7fbdd6cacf41a21ff"), looks := false }, kinds := [], alts := [], laidByText := true, laidKinds := [.data], laidTests := true, laidLooks := .later }
def PolyWrongUptoCardSaid : Prop := Claim7.holds Tryd.pinned (.plain (OpenSpec.upto polyWrongSpec)) polyWrongUptoCard

/-- THE SECOND FORM's CARD OF 'psalterylaw08.PolyQuiet'. -/
def polyQuietUptoCard : Claim7 := { stood := { row := polyQuietUptoRow, standIns := [], harness := (true, "54df760c72281a10b237d19e0851cf56886958ab52d8a7e7fbdd6cacf41a21ff"), looks := false }, kinds := [], alts := [], laidByText := true, laidKinds := [.data], laidTests := true, laidLooks := .later }
def PolyQuietUptoCardSaid : Prop := Claim7.holds Tryd.pinned (.plain (OpenSpec.upto polyQuietSpec)) polyQuietUptoCard
end Rows
end Go.Proofs.YtkmkackifihhjaaDoor
