/-
  DERIVED. GIVEN WITH THE SEED: THE CARDS: each row of YtpbkifimfggncaaDoorRows.lean that lists a variable, with what it lists TIED to the program's text (the seventh form; the later family's looks); each row that meets fmt, with fmt's text TOLD by the authors' own Lean function (tested against real Go, not proved from fmt's source: count such statements apart). THE CARD IS WHAT COUNTS. Prove the row's statement (the work); the ties are given (YtpbkifimfggncaaDoorTie.lean); close each card by the builder's one call (the guide's Derived/Test/ToyasCard.lean, 'card_holds'). Laid BY PROGRAM, IN A SANDBOX (cutbox-door.mjs). By AI agents, Wed Nov 11 2026. No macro, syntax, notation, axiom, sorry.
-/
import Derived.Test.YtpbkifimfggncaaDoorRows
import GoSem.ClaimSeven
namespace Go.Proofs.YtpbkifimfggncaaDoor
namespace Rows

/-- THE TIED CARD OF 'psalterylaw03.WaveSines'. -/
def waveSinesCard : Claim7 := { stood := { row := waveSinesRow, standIns := [], harness := (true, "8664fa85c6bab6744c36c71567eec2d1d6903a9a5f6158b18961ef3674429935"), looks := false }, kinds := [], alts := [], laidByText := true, laidKinds := [.data], laidTests := true, laidLooks := .later }
def WaveSinesCardSaid : Prop := Claim7.holds Tryd.pinned (.plain (OpenSpec.ofChange waveSinesSpec)) waveSinesCard

/-- THE TIED CARD OF 'psalterylaw03.WaveTables'. -/
def waveTablesCard : Claim7 := { stood := { row := waveTablesRow, standIns := [], harness := (true, "8664fa85c6bab6744c36c71567eec2d1d6903a9a5f6158b18961ef3674429935"), looks := false }, kinds := [], alts := [], laidByText := true, laidKinds := [.data], laidTests := true, laidLooks := .later }
def WaveTablesCardSaid : Prop := Claim7.holds Tryd.pinned (.plain (OpenSpec.ofChange waveTablesSpec)) waveTablesCard

/-- THE TIED CARD OF 'psalterylaw03.WaveTurns'. -/
def waveTurnsCard : Claim7 := { stood := { row := waveTurnsRow, standIns := [], harness := (true, "8664fa85c6bab6744c36c71567eec2d1d6903a9a5f6158b18961ef3674429935"), looks := false }, kinds := [], alts := [], laidByText := true, laidKinds := [.data], laidTests := true, laidLooks := .later }
def WaveTurnsCardSaid : Prop := Claim7.holds Tryd.pinned (.plain (OpenSpec.ofChange waveTurnsSpec)) waveTurnsCard

/-- THE SECOND FORM's CARD OF 'psalterylaw03.WaveSines'. -/
def waveSinesUptoCard : Claim7 := { stood := { row := waveSinesUptoRow, standIns := [], harness := (true, "8664fa85c6bab6744c36c71567eec2d1d6903a9a5f6158b18961ef3674429935"), looks := false }, kinds := [], alts := [], laidByText := true, laidKinds := [.data], laidTests := true, laidLooks := .later }
def WaveSinesUptoCardSaid : Prop := Claim7.holds Tryd.pinned (.plain (OpenSpec.upto waveSinesSpec)) waveSinesUptoCard

/-- THE SECOND FORM's CARD OF 'psalterylaw03.WaveTables'. -/
def waveTablesUptoCard : Claim7 := { stood := { row := waveTablesUptoRow, standIns := [], harness := (true, "8664fa85c6bab6744c36c71567eec2d1d6903a9a5f6158b18961ef3674429935"), looks := false }, kinds := [], alts := [], laidByText := true, laidKinds := [.data], laidTests := true, laidLooks := .later }
def WaveTablesUptoCardSaid : Prop := Claim7.holds Tryd.pinned (.plain (OpenSpec.upto waveTablesSpec)) waveTablesUptoCard

/-- THE SECOND FORM's CARD OF 'psalterylaw03.WaveTurns'. -/
def waveTurnsUptoCard : Claim7 := { stood := { row := waveTurnsUptoRow, standIns := [], harness := (true, "8664fa85c6bab6744c36c71567eec2d1d6903a9a5f6158b18961ef3674429935"), looks := false }, kinds := [], alts := [], laidByText := true, laidKinds := [.data], laidTests := true, laidLooks := .later }
def WaveTurnsUptoCardSaid : Prop := Claim7.holds Tryd.pinned (.plain (OpenSpec.upto waveTurnsSpec)) waveTurnsUptoCard
end Rows
end Go.Proofs.YtpbkifimfggncaaDoor
