/-
  DERIVED. GIVEN WITH THE SEED: THE CARDS: each row of YthfligbkgoonoaaDoorRows.lean that lists a variable, with what it lists TIED to the program's text (the seventh form; the later family's looks); each row that meets fmt, with fmt's text TOLD by the authors' own Lean function (tested against real Go, not proved from fmt's source: count such statements apart). THE CARD IS WHAT COUNTS. Prove the row's statement (the work); the ties are given (YthfligbkgoonoaaDoorTie.lean); close each card by the builder's one call (the guide's Derived/Test/ToyasCard.lean, 'card_holds'). Laid BY PROGRAM, IN A SANDBOX (cutbox-door.mjs). By AI agents, Wed Nov 11 2026. No macro, syntax, notation, axiom, sorry.
-/
import Derived.Test.YthfligbkgoonoaaDoorRows
import GoSem.ClaimSeven
namespace Go.Proofs.YthfligbkgoonoaaDoor
namespace Rows

/-- THE TIED CARD OF 'psalterylaw02.LogsReckon'. -/
def logsReckonCard : Claim7 := { stood := { row := logsReckonRow, standIns := [], harness := (true, "c7b81462cca7ffe16d4db09faade47d09b98e16b97b7e75159dd3fa4e5455ef0"), looks := false }, kinds := [], alts := [], laidByText := true, laidKinds := [.data], laidTests := true, laidLooks := .later }
def LogsReckonCardSaid : Prop := Claim7.holds Tryd.pinned (.plain (OpenSpec.ofChange logsReckonSpec)) logsReckonCard

/-- THE TIED CARD OF 'psalterylaw02.LogsPower'. -/
def logsPowerCard : Claim7 := { stood := { row := logsPowerRow, standIns := [], harness := (true, "c7b81462cca7ffe16d4db09faade47d09b98e16b97b7e75159dd3fa4e5455ef0"), looks := false }, kinds := [], alts := [], laidByText := true, laidKinds := [.data], laidTests := true, laidLooks := .later }
def LogsPowerCardSaid : Prop := Claim7.holds Tryd.pinned (.plain (OpenSpec.ofChange logsPowerSpec)) logsPowerCard

/-- THE TIED CARD OF 'psalterylaw02.LogsGrow'. -/
def logsGrowCard : Claim7 := { stood := { row := logsGrowRow, standIns := [], harness := (true, "c7b81462cca7ffe16d4db09faade47d09b98e16b97b7e75159dd3fa4e5455ef0"), looks := false }, kinds := [], alts := [], laidByText := true, laidKinds := [.data], laidTests := true, laidLooks := .later }
def LogsGrowCardSaid : Prop := Claim7.holds Tryd.pinned (.plain (OpenSpec.ofChange logsGrowSpec)) logsGrowCard

/-- THE TIED CARD OF 'psalterylaw02.LogsNear'. -/
def logsNearCard : Claim7 := { stood := { row := logsNearRow, standIns := [], harness := (true, "c7b81462cca7ffe16d4db09faade47d09b98e16b97b7e75159dd3fa4e5455ef0"), looks := false }, kinds := [], alts := [], laidByText := true, laidKinds := [.data], laidTests := true, laidLooks := .later }
def LogsNearCardSaid : Prop := Claim7.holds Tryd.pinned (.plain (OpenSpec.ofChange logsNearSpec)) logsNearCard

/-- THE SECOND FORM's CARD OF 'psalterylaw02.LogsReckon'. -/
def logsReckonUptoCard : Claim7 := { stood := { row := logsReckonUptoRow, standIns := [], harness := (true, "c7b81462cca7ffe16d4db09faade47d09b98e16b97b7e75159dd3fa4e5455ef0"), looks := false }, kinds := [], alts := [], laidByText := true, laidKinds := [.data], laidTests := true, laidLooks := .later }
def LogsReckonUptoCardSaid : Prop := Claim7.holds Tryd.pinned (.plain (OpenSpec.upto logsReckonSpec)) logsReckonUptoCard

/-- THE SECOND FORM's CARD OF 'psalterylaw02.LogsPower'. -/
def logsPowerUptoCard : Claim7 := { stood := { row := logsPowerUptoRow, standIns := [], harness := (true, "c7b81462cca7ffe16d4db09faade47d09b98e16b97b7e75159dd3fa4e5455ef0"), looks := false }, kinds := [], alts := [], laidByText := true, laidKinds := [.data], laidTests := true, laidLooks := .later }
def LogsPowerUptoCardSaid : Prop := Claim7.holds Tryd.pinned (.plain (OpenSpec.upto logsPowerSpec)) logsPowerUptoCard

/-- THE SECOND FORM's CARD OF 'psalterylaw02.LogsGrow'. -/
def logsGrowUptoCard : Claim7 := { stood := { row := logsGrowUptoRow, standIns := [], harness := (true, "c7b81462cca7ffe16d4db09faade47d09b98e16b97b7e75159dd3fa4e5455ef0"), looks := false }, kinds := [], alts := [], laidByText := true, laidKinds := [.data], laidTests := true, laidLooks := .later }
def LogsGrowUptoCardSaid : Prop := Claim7.holds Tryd.pinned (.plain (OpenSpec.upto logsGrowSpec)) logsGrowUptoCard

/-- THE SECOND FORM's CARD OF 'psalterylaw02.LogsNear'. -/
def logsNearUptoCard : Claim7 := { stood := { row := logsNearUptoRow, standIns := [], harness := (true, "c7b81462cca7ffe16d4db09faade47d09b98e16b97b7e75159dd3fa4e5455ef0"), looks := false }, kinds := [], alts := [], laidByText := true, laidKinds := [.data], laidTests := true, laidLooks := .later }
def LogsNearUptoCardSaid : Prop := Claim7.holds Tryd.pinned (.plain (OpenSpec.upto logsNearSpec)) logsNearUptoCard
end Rows
end Go.Proofs.YthfligbkgoonoaaDoor
