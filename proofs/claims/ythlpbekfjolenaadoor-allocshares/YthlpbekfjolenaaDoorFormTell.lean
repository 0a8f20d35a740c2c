/-
  Samples, Payload, Bits: of a format what the chapter says, of anything else 0. Conditions: none.
-/
import Derived.Test.YthlpbekfjolenaaDoorFormCheck
namespace Go.Proofs.YthlpbekfjolenaaDoor
set_option linter.unusedVariables false
open Go.RowKit
namespace Form
open Bank (Blk But)
open Poly (alloc_size)

theorem Check_ok (f : M.Fmt) (w : World) (h : M.okF f) : Calls Tryd.prog 21 #[fv f] w fun e w' => e = .returned (.int .i64 0) ∧ Below w.heap.size w w' := by
  refine (Check_any f w).mono ?_
  rintro e w' ⟨q, rfl, hb, hq⟩
  obtain rfl : q = true := hq.2 h
  exact ⟨rfl, hb⟩
theorem Check_no (f : M.Fmt) (w : World) (h : ¬ M.okF f) : Calls Tryd.prog 21 #[fv f] w fun e w' => e = .returned (.int .i64 110) ∧ Below w.heap.size w w' := by
  refine (Check_any f w).mono ?_
  rintro e w' ⟨q, rfl, hb, hq⟩
  obtain rfl : q = false := Bool.eq_false_iff.2 (fun h' => h (hq.1 h'))
  exact ⟨rfl, hb⟩

/-- the cells of a box that holds a format -/
theorem box_cells {w : World} {g : Nat} {f : M.Fmt} (h : Blk w g (fc f) 23) : w.cell? ⟨g, 0, none⟩ = some (.int .i64 f.c) ∧ w.cell? ⟨g, 1, none⟩ = some (.int .i64 f.r) ∧ w.cell? ⟨g, 2, none⟩ = some (.int .i64 f.h) ∧ w.cell? ⟨g, 3, none⟩ = some (.int .i64 f.b) ∧ w.cell? ⟨g, 4, none⟩ = some (.int .i64 f.k) ∧
    w.cell? ⟨g, 5, none⟩ = some (.int .i64 f.m) ∧ w.cell? ⟨g, 6, none⟩ = some (.int .i64 f.j) ∧ w.cell? ⟨g, 7, none⟩ = some (.int .i64 f.p) ∧ w.cell? ⟨g, 8, none⟩ = some (.int .i64 f.l) ∧ w.cell? ⟨g, 9, none⟩ = some (.int .i64 f.y) :=
  ⟨h.cell rfl, h.cell rfl, h.cell rfl, h.cell rfl, h.cell rfl, h.cell rfl, h.cell rfl, h.cell rfl, h.cell rfl, h.cell rfl⟩
/-- a call behind the box leaves the box -/
theorem box_behind {w w2 : World} {f : M.Fmt} (h : Below (w.alloc (.cells (fc f) 23)).heap.size (w.alloc (.cells (fc f) 23)) w2) : Blk w2 w.heap.size (fc f) 23 ∧ Below w.heap.size w w2 :=
  ⟨blk_below h (Blk.new _ _ _) (by simp), (bel1 _ _).trans (h.mono (bel1 _ _).size)⟩

end Form
end Go.Proofs.YthlpbekfjolenaaDoor
