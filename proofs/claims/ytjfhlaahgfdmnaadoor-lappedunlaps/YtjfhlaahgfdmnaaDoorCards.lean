/-
  DERIVED. GIVEN WITH THE SEED: THE CARDS: each row of YtjfhlaahgfdmnaaDoorRows.lean that lists a variable, with what it lists TIED to the program's text (the seventh form; the later family's looks); each row that meets fmt, with fmt's text TOLD by the authors' own Lean function (tested against real Go, not proved from fmt's source: count such statements apart). THE CARD IS WHAT COUNTS. Prove the row's statement (the work); the ties are given (YtjfhlaahgfdmnaaDoorTie.lean); close each card by the builder's one call (the guide's Derived/Test/ToyasCard.lean, 'card_holds'). Laid BY PROGRAM, IN A SANDBOX (cutbox-door.mjs). By AI agents, Wed Nov 11 2026. No macro, syntax, notation, axiom, sorry.
-/
import Derived.Test.YtjfhlaahgfdmnaaDoorRows
import GoSem.ClaimSeven
namespace Go.Proofs.YtjfhlaahgfdmnaaDoor
namespace Rows

/-- THE TIED CARD OF 'psalterylaw09.LappedWindows'. -/
def lappedWindowsCard : Claim7 := { stood := { row := lappedWindowsRow, standIns := [], harness := (true, "bfb69b0567a1ae2edb63b99edde2d48909ac8fd868a2657f4b95ea7f013a2ecd"), looks := false }, kinds := [], alts := [], laidByText := true, laidKinds := [.data], laidTests := true, laidLooks := .later }
def LappedWindowsCardSaid : Prop := Claim7.holds Tryd.pinned (.plain (OpenSpec.ofChange lappedWindowsSpec)) lappedWindowsCard

/-- THE TIED CARD OF 'psalterylaw09.LappedLaps'. -/
def lappedLapsCard : Claim7 := { stood := { row := lappedLapsRow, standIns := [], harness := (true, "bfb69b0567a1ae2edb63b99edde2d48909ac8fd868a2657f4b95ea7f013a2ecd"), looks := false }, kinds := [], alts := [], laidByText := true, laidKinds := [.data], laidTests := true, laidLooks := .later }
def LappedLapsCardSaid : Prop := Claim7.holds Tryd.pinned (.plain (OpenSpec.ofChange lappedLapsSpec)) lappedLapsCard

/-- THE TIED CARD OF 'psalterylaw09.LappedUnlaps'. -/
def lappedUnlapsCard : Claim7 := { stood := { row := lappedUnlapsRow, standIns := [], harness := (true, "bfb69b0567a1ae2edb63b99edde2d48909ac8fd868a2657f4b95ea7f013a2ecd"), looks := false }, kinds := [], alts := [], laidByText := true, laidKinds := [.data], laidTests := true, laidLooks := .later }
def LappedUnlapsCardSaid : Prop := Claim7.holds Tryd.pinned (.plain (OpenSpec.ofChange lappedUnlapsSpec)) lappedUnlapsCard

/-- THE TIED CARD OF 'psalterylaw09.LappedForgets'. -/
def lappedForgetsCard : Claim7 := { stood := { row := lappedForgetsRow, standIns := [], harness := (true, "bfb69b0567a1ae2edb63b99edde2d48909ac8fd868a2657f4b95ea7f013a2ecd"), looks := false }, kinds := [], alts := [], laidByText := true, laidKinds := [.data], laidTests := true, laidLooks := .later }
def LappedForgetsCardSaid : Prop := Claim7.holds Tryd.pinned (.plain (OpenSpec.ofChange lappedForgetsSpec)) lappedForgetsCard

/-- THE SECOND FORM's CARD OF 'psalterylaw09.LappedWindows'. -/
def lappedWindowsUptoCard : Claim7 := { stood := { row := lappedWindowsUptoRow, standIns := [], harness := (true, "bfb69b0567a1ae2edb63b99edde2d48909ac8fd868a2657f4b95ea7f013a2ecd"), looks := false }, kinds := [], alts := [], laidByText := true, laidKinds := [.data], laidTests := true, laidLooks := .later }
def LappedWindowsUptoCardSaid : Prop := Claim7.holds Tryd.pinned (.plain (OpenSpec.upto lappedWindowsSpec)) lappedWindowsUptoCard

/-- THE SECOND FORM's CARD OF 'psalterylaw09.LappedLaps'. -/
def lappedLapsUptoCard : Claim7 := { stood := { row := lappedLapsUptoRow, standIns := [], harness := (true, "bfb69b0567a1ae2edb63b99edde2d48909ac8fd868a2657f4b95ea7f013a2ecd"), looks := false }, kinds := [], alts := [], laidByText := true, laidKinds := [.data], laidTests := true, laidLooks := .later }
def LappedLapsUptoCardSaid : Prop := Claim7.holds Tryd.pinned (.plain (OpenSpec.upto lappedLapsSpec)) lappedLapsUptoCard

/-- THE SECOND FORM's CARD OF 'psalterylaw09.LappedUnlaps'. -/
def lappedUnlapsUptoCard : Claim7 := { stood := { row := lappedUnlapsUptoRow, standIns := [], harness := (true, "bfb69b0567a1ae2edb63b99edde2d48909ac8fd868a2657f4b95ea7f013a2ecd"), looks := false }, kinds := [], alts := [], laidByText := true, laidKinds := [.data], laidTests := true, laidLooks := .later }
def LappedUnlapsUptoCardSaid : Prop := Claim7.holds Tryd.pinned (.plain (OpenSpec.upto lappedUnlapsSpec)) lappedUnlapsUptoCard

/-- THE SECOND FORM's CARD OF 'psalterylaw09.LappedForgets'. -/
def lappedForgetsUptoCard : Claim7 := { stood := { row := lappedForgetsUptoRow, standIns := [], harness := (true, "bfb69b0567a1ae2edb63b99edde2d48909ac8fd868a2657f4b95ea7f013a2ecd"), looks := false }, kinds := [], alts := [], laidByText := true, laidKinds := [.data], laidTests := true, laidLooks := .later }
def LappedForgetsUptoCardSaid : Prop := Claim7.holds Tryd.pinned (.plain (OpenSpec.upto lappedForgetsSpec)) lappedForgetsUptoCard
end Rows
end Go.Proofs.YtjfhlaahgfdmnaaDoor
