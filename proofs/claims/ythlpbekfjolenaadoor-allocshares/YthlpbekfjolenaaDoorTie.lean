/-
  DERIVED. GIVEN WITH THE SEED: THE PROGRAM's TIES (one call each: nine closed facts by the kernel) AND EACH ROW's TIE, after the 31st guide's Derived/Test/Toyas{Tie, Card}.lean. No idea stands in it: it is a product of the set-up. Laid BY PROGRAM, IN A SANDBOX (cutbox-door.mjs). By AI agents, Wed Nov 11 2026. No macro, syntax, notation, axiom, sorry.
-/
import Derived.Test.YthlpbekfjolenaaDoorRows
import Derived.LaidByTextLater
import Derived.SevenTiedAt
import Derived.LaidSub
import Derived.LaidOnce
namespace Go.Proofs.YthlpbekfjolenaaDoor
open Go
set_option maxRecDepth 100000
theorem seatTie1 : Tryd.prog.laidByTextLater [("psaltery/alloc.offsetsOf4", Rows.laid_psaltery_alloc_offsetsOf4), ("psaltery/alloc.offsetsOf8", Rows.laid_psaltery_alloc_offsetsOf8)] [.data, .data] true :=
  Program.laidByTextLater_by_one 27 8 33 (by kernel_rfl) (by kernel_rfl) (by kernel_rfl) (by kernel_rfl) (by kernel_rfl) (by kernel_rfl) (fun _ _ => by kernel_rfl)
theorem noOwnUnsafe : Tryd.pinned.checked.prog.headLifts.contains "ownunsafe" = false := by kernel_rfl
theorem tie : Tryd.prog.laidByTextLater [("psaltery/alloc.offsetsOf4", Rows.laid_psaltery_alloc_offsetsOf4), ("psaltery/alloc.offsetsOf8", Rows.laid_psaltery_alloc_offsetsOf8)] [.data, .data] true :=
  Program.laidByTextLater.sub seatTie1 ["psaltery/alloc.offsetsOf4", "psaltery/alloc.offsetsOf8"] (by kernel_rfl) (by kernel_rfl)
theorem allocShares_row_tie : Rows.allocSharesRow.laidByTextAt .later Tryd.pinned [.data, .data] true :=
  OpenClaim.laidByTextAt_later rfl rfl tie noOwnUnsafe
theorem allocSharesUpto_row_tie : Rows.allocSharesUptoRow.laidByTextAt .later Tryd.pinned [.data, .data] true :=
  OpenClaim.laidByTextAt_later rfl rfl tie noOwnUnsafe
end Go.Proofs.YthlpbekfjolenaaDoor
