/-
  DERIVED. GIVEN WITH THE SEED: THE CARDS: each row of YtfmjdlaalkjfeaaDoorRows.lean that lists a variable, with what it lists TIED to the program's text (the seventh form; the later family's looks); each row that meets fmt, with fmt's text TOLD by the authors' own Lean function (tested against real Go, not proved from fmt's source: count such statements apart). THE CARD IS WHAT COUNTS. Prove the row's statement (the work); the ties are given (YtfmjdlaalkjfeaaDoorTie.lean); close each card by the builder's one call (the guide's Derived/Test/ToyasCard.lean, 'card_holds'). Laid BY PROGRAM, IN A SANDBOX (cutbox-door.mjs). By AI agents, Wed Nov 11 2026. No macro, syntax, notation, axiom, sorry.
-/
import Derived.Test.YtfmjdlaalkjfeaaDoorRows
import GoSem.ClaimSeven
namespace Go.Proofs.YtfmjdlaalkjfeaaDoor
namespace Rows

/-- THE TIED CARD OF 'psalterylaw04.BankTells'. -/
def bankTellsCard : Claim7 := { stood := { row := bankTellsRow, standIns := [], harness := (true, "b038f76093e88e1317bd54ef2e17321e83132bf0181d9c4633d0f061ab635ad2"), looks := false }, kinds := [], alts := [], laidByText := true, laidKinds := [.data], laidTests := true, laidLooks := .later }
def BankTellsCardSaid : Prop := Claim7.holds Tryd.pinned (.plain (OpenSpec.ofChange bankTellsSpec)) bankTellsCard

/-- THE TIED CARD OF 'psalterylaw04.BankOnce'. -/
def bankOnceCard : Claim7 := { stood := { row := bankOnceRow, standIns := [], harness := (true, "b038f76093e88e1317bd54ef2e17321e83132bf0181d9c4633d0f061ab635ad2"), looks := false }, kinds := [], alts := [], laidByText := true, laidKinds := [.data], laidTests := true, laidLooks := .later }
def BankOnceCardSaid : Prop := Claim7.holds Tryd.pinned (.plain (OpenSpec.ofChange bankOnceSpec)) bankOnceCard

/-- THE TIED CARD OF 'psalterylaw04.BankNil'. -/
def bankNilCard : Claim7 := { stood := { row := bankNilRow, standIns := [], harness := (true, "b038f76093e88e1317bd54ef2e17321e83132bf0181d9c4633d0f061ab635ad2"), looks := false }, kinds := [], alts := [], laidByText := true, laidKinds := [.data], laidTests := true, laidLooks := .later }
def BankNilCardSaid : Prop := Claim7.holds Tryd.pinned (.plain (OpenSpec.ofChange bankNilSpec)) bankNilCard

/-- THE SECOND FORM's CARD OF 'psalterylaw04.BankTells'. -/
def bankTellsUptoCard : Claim7 := { stood := { row := bankTellsUptoRow, standIns := [], harness := (true, "b038f76093e88e1317bd54ef2e17321e83132bf0181d9c4633d0f061ab635ad2"), looks := false }, kinds := [], alts := [], laidByText := true, laidKinds := [.data], laidTests := true, laidLooks := .later }
def BankTellsUptoCardSaid : Prop := Claim7.holds Tryd.pinned (.plain (OpenSpec.upto bankTellsSpec)) bankTellsUptoCard

/-- THE SECOND FORM's CARD OF 'psalterylaw04.BankOnce'. -/
def bankOnceUptoCard : Claim7 := { stood := { row := bankOnceUptoRow, standIns := [], harness := (true, "b038f76093e88e1317bd54ef2e17321e83132bf0181d9c4633d0f061ab635ad2"), looks := false }, kinds := [], alts := [], laidByText := true, laidKinds := [.data], laidTests := true, laidLooks := .later }
def BankOnceUptoCardSaid : Prop := Claim7.holds Tryd.pinned (.plain (OpenSpec.upto bankOnceSpec)) bankOnceUptoCard

/-- THE SECOND FORM's CARD OF 'psalterylaw04.BankNil'. -/
def bankNilUptoCard : Claim7 := { stood := { row := bankNilUptoRow, standIns := [], harness := (true, "b038f76093e88e1317bd54ef2e17321e83132bf0181d9c4633d0f061ab635ad2"), looks := false }, kinds := [], alts := [], laidByText := true, laidKinds := [.data], laidTests := true, laidLooks := .later }
def BankNilUptoCardSaid : Prop := Claim7.holds Tryd.pinned (.plain (OpenSpec.upto bankNilSpec)) bankNilUptoCard
end Rows
end Go.Proofs.YtfmjdlaalkjfeaaDoor
