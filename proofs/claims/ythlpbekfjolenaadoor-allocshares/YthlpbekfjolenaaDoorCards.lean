/-
  DERIVED. GIVEN WITH THE SEED: THE CARDS: each row of YthlpbekfjolenaaDoorRows.lean that lists a variable, with what it lists TIED to the program's text (the seventh form; the later family's looks); each row that meets fmt, with fmt's text TOLD by the authors' own Lean function (tested against real Go, not proved from fmt's source: count such statements apart). THE CARD IS WHAT COUNTS. Prove the row's statement (the work); the ties are given (YthlpbekfjolenaaDoorTie.lean); close each card by the builder's one call (the guide's Derived/Test/ToyasCard.lean, 'card_holds'). Laid BY PROGRAM, IN A SANDBOX (cutbox-door.mjs). By AI agents, Wed Nov 11 2026. No macro, syntax, notation, axiom, sorry.
-/
import Derived.Test.YthlpbekfjolenaaDoorRows
import GoSem.ClaimSeven
namespace Go.Proofs.YthlpbekfjolenaaDoor
namespace Rows

/-- THE TIED CARD OF 'psalterylaw12.AllocShares'. -/
def allocSharesCard : Claim7 := { stood := { row := allocSharesRow, standIns := [], harness := (true, "f6408deda494ef2417f803e626450f5ab274bbc370fb22fee891391fc9772822"), looks := false }, kinds := [], alts := [], laidByText := true, laidKinds := [.data, .data], laidTests := true, laidLooks := .later }
def AllocSharesCardSaid : Prop := Claim7.holds Tryd.pinned (.plain (OpenSpec.ofChange allocSharesSpec)) allocSharesCard

/-- THE SECOND FORM's CARD OF 'psalterylaw12.AllocShares'. -/
def allocSharesUptoCard : Claim7 := { stood := { row := allocSharesUptoRow, standIns := [], harness := (true, "f6408deda494ef2417f803e626450f5ab274bbc370fb22fee891391fc9772822"), looks := false }, kinds := [], alts := [], laidByText := true, laidKinds := [.data, .data], laidTests := true, laidLooks := .later }
def AllocSharesUptoCardSaid : Prop := Claim7.holds Tryd.pinned (.plain (OpenSpec.upto allocSharesSpec)) allocSharesUptoCard
end Rows
end Go.Proofs.YthlpbekfjolenaaDoor
