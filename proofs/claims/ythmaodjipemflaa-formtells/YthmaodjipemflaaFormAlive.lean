/-
  The chapter's example: it answers. Conditions: none.
-/
import Derived.Test.YthmaodjipemflaaFormTell
namespace Go.Proofs.Ythmaodjipemflaa
set_option linter.unusedVariables false
open Go.RowKit
namespace Form
open Bank (Blk But)
open Poly (alloc_size)

theorem box_next {w2 w3 : World} {g : Nat} {f : M.Fmt} (h : Below w2.heap.size w2 w3) (hb : Blk w2 g (fc f) 23) : Blk w3 g (fc f) 23 := blk_below h hb hb.lt

theorem ex_ok : M.okF ⟨1, 0, 1, 4, 4, 0, 0, 2, 0, 0⟩ := by
  refine .inl ⟨rfl, ?_, ?_, ?_, ?_, ?_, ?_, ?_, ?_, ?_, rfl, rfl, ?_⟩
  all_goals first | decide | (dsimp only; omega)
theorem zero_no : ¬ M.okF ⟨0, 0, 0, 0, 0, 0, 0, 0, 0, 0⟩ := by
  rintro (h | h)
  · exact absurd h.1 (by decide)
  · exact absurd h.1 (by decide)

theorem alive_any (w : World) : Calls Try.prog 6 #[] w fun e w' => e = .returned (.bool true) ∧ Below w.heap.size w w' := by
  have h1 : ∀ wx, Calls Try.prog 8 #[.agg #[.int .i64 1, .int .i64 0, .int .i64 1, .int .i64 4, .int .i64 4, .int .i64 0, .int .i64 0, .int .i64 2, .int .i64 0, .int .i64 0]] wx fun e w' => e = .returned (.int .i64 0) ∧ Below wx.heap.size wx w' := fun wx => Check_ok ⟨1, 0, 1, 4, 4, 0, 0, 2, 0, 0⟩ wx ex_ok
  have h2 : ∀ wx, Calls Try.prog 9 #[.agg #[.int .i64 1, .int .i64 0, .int .i64 1, .int .i64 4, .int .i64 4, .int .i64 0, .int .i64 0, .int .i64 2, .int .i64 0, .int .i64 0]] wx fun e w' => e = .returned (.int .i64 16) ∧ Below wx.heap.size wx w' := fun wx => Samples_ok ⟨1, 0, 1, 4, 4, 0, 0, 2, 0, 0⟩ wx ex_ok
  have h3 : ∀ wx, Calls Try.prog 10 #[.agg #[.int .i64 1, .int .i64 0, .int .i64 1, .int .i64 4, .int .i64 4, .int .i64 0, .int .i64 0, .int .i64 2, .int .i64 0, .int .i64 0]] wx fun e w' => e = .returned (.int .i64 56) ∧ Below wx.heap.size wx w' := fun wx => Bits_ok ⟨1, 0, 1, 4, 4, 0, 0, 2, 0, 0⟩ wx ex_ok
  have h4 : ∀ wx, Calls Try.prog 11 #[.agg #[.int .i64 1, .int .i64 0, .int .i64 1, .int .i64 4, .int .i64 4, .int .i64 0, .int .i64 0, .int .i64 2, .int .i64 0, .int .i64 0]] wx fun e w' => e = .returned (.int .i64 7) ∧ Below wx.heap.size wx w' := fun wx => Payload_ok ⟨1, 0, 1, 4, 4, 0, 0, 2, 0, 0⟩ wx ex_ok
  have h5 : ∀ wx, Calls Try.prog 8 #[.agg #[.int .i64 0, .int .i64 0, .int .i64 0, .int .i64 0, .int .i64 0, .int .i64 0, .int .i64 0, .int .i64 0, .int .i64 0, .int .i64 0]] wx fun e w' => e = .returned (.int .i64 110) ∧ Below wx.heap.size wx w' := fun wx => Check_no ⟨0, 0, 0, 0, 0, 0, 0, 0, 0, 0⟩ wx zero_no
  go_enter Try.func6, Try.ntmps6
  go_wp2_with (first
    | (go_at_call 8; refine (h1 _).mono ?_; clear h1; rintro e w2 ⟨rfl, bel⟩; obtain ⟨hb2, bel2⟩ := box_behind (f := ⟨1, 0, 1, 4, 4, 0, 0, 2, 0, 0⟩) bel; clear bel; have xs2 := box_cells hb2; dsimp only at xs2; obtain ⟨x0, x1, x2, x3, x4, x5, x6, x7, x8, x9⟩ := xs2; have HB2 : Hid _ := hb2; clear hb2)
    | (go_at_call 9; refine (h2 _).mono ?_; clear h2; rintro e w3 ⟨rfl, bel⟩; have hb3 := box_next bel HB2.out; have bel3 := bel2.trans (bel.mono bel2.size); clear bel; have xs3 := box_cells hb3; dsimp only at xs3; obtain ⟨y0, y1, y2, y3, y4, y5, y6, y7, y8, y9⟩ := xs3; have HB3 : Hid _ := hb3; clear hb3)
    | (go_at_call 10; refine (h3 _).mono ?_; clear h3; rintro e w4 ⟨rfl, bel⟩; have hb4 := box_next bel HB3.out; have bel4 := bel3.trans (bel.mono bel3.size); clear bel; have xs4 := box_cells hb4; dsimp only at xs4; obtain ⟨z0, z1, z2, z3, z4, z5, z6, z7, z8, z9⟩ := xs4; have HB4 : Hid _ := hb4; clear hb4)
    | (go_at_call 11; refine (h4 _).mono ?_; clear h4; rintro e w5 ⟨rfl, bel⟩; have bel5 := bel4.trans (bel.mono bel4.size); clear bel)
    | (go_at_call 8; refine (h5 _).mono ?_; clear h5; rintro e w6 ⟨rfl, bel⟩; have bel6 := bel5.trans (bel.mono bel5.size); clear bel))
  go_ret
  exact ⟨rfl, bel6⟩

end Form
end Go.Proofs.Ythmaodjipemflaa
