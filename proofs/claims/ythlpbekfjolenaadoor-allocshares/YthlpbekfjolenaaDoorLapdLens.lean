/-
  The lengths of package lapped, and the document's. Conditions: none.
-/
import Derived.Test.YthlpbekfjolenaaDoorLists
namespace Go.Proofs.YthlpbekfjolenaaDoor
set_option linter.unusedVariables false
open Go.RowKit
namespace Lapd
open Bank (Blk But)

/-- the four lengths, as they lie -/
def lens : Array Value := #[.int .i64 40, .int .i64 60, .int .i64 80, .int .i64 120]

theorem Lengths_any (w : World) : Calls Tryd.prog 49 #[] w fun e w' => e = .returned (.slice (some ⟨w.heap.size, 0, none⟩) 4 4) ∧ Blk w' w.heap.size lens 55 ∧ Below w.heap.size w w' ∧ w'.heap.size = w.heap.size + 1 := by
  have hB := Blk.new w lens 55
  have bel : Below w.heap.size w (w.alloc (.cells lens 55)) := (Below.refl _ _).alloc (Nat.le_refl _) _
  go_enter Tryd.func49, Tryd.ntmps49
  go_wp2
  go_ret
  exact ⟨rfl, hB, bel, by simp⟩

theorem Index_any (n : Int) (b : Nat) (w : World) (hb : Blk w b lens 55) :
    Calls Tryd.prog 55 #[.slice (some ⟨b, 0, none⟩) 4 4, .int .i64 n] w fun e w' => ∃ r : Int, e = .returned (.int .i64 r) ∧ w' = w ∧ (0 ≤ r ↔ (n = 40 ∨ n = 60 ∨ n = 80 ∨ n = 120)) := by
  have h0 : w.cell? ⟨b, 0, none⟩ = some (.int .i64 40) := hb.cell rfl
  have h1 : w.cell? ⟨b, 1, none⟩ = some (.int .i64 60) := hb.cell rfl
  have h2 : w.cell? ⟨b, 2, none⟩ = some (.int .i64 80) := hb.cell rfl
  have h3 : w.cell? ⟨b, 3, none⟩ = some (.int .i64 120) := hb.cell rfl
  clear hb
  rcases (by omega : n = 40 ∨ n = 60 ∨ n = 80 ∨ n = 120 ∨ (n ≠ 40 ∧ n ≠ 60 ∧ n ≠ 80 ∧ n ≠ 120)) with rfl | rfl | rfl | rfl | ⟨n0, n1, n2, n3⟩
  · go_enter Tryd.func55, Tryd.ntmps55
    go_wp2
    refine wp_loop_rounds 5 ?_
    rw [rounds_succ]
    go_wp2
    go_ret
    exact ⟨_, rfl, rfl, by decide⟩
  · go_enter Tryd.func55, Tryd.ntmps55
    go_wp2
    refine wp_loop_rounds 5 ?_
    rw [rounds_succ]
    go_wp2
    rw [rounds_succ]
    go_wp2
    go_ret
    exact ⟨_, rfl, rfl, by decide⟩
  · go_enter Tryd.func55, Tryd.ntmps55
    go_wp2
    refine wp_loop_rounds 5 ?_
    rw [rounds_succ]
    go_wp2
    rw [rounds_succ]
    go_wp2
    rw [rounds_succ]
    go_wp2
    go_ret
    exact ⟨_, rfl, rfl, by decide⟩
  · go_enter Tryd.func55, Tryd.ntmps55
    go_wp2
    refine wp_loop_rounds 5 ?_
    rw [rounds_succ]
    go_wp2
    rw [rounds_succ]
    go_wp2
    rw [rounds_succ]
    go_wp2
    rw [rounds_succ]
    go_wp2
    go_ret
    exact ⟨_, rfl, rfl, by decide⟩
  · have e0 : (n == 40) = false := by simpa using n0
    have e1 : (n == 60) = false := by simpa using n1
    have e2 : (n == 80) = false := by simpa using n2
    have e3 : (n == 120) = false := by simpa using n3
    go_enter Tryd.func55, Tryd.ntmps55
    go_wp2
    refine wp_loop_rounds 5 ?_
    rw [rounds_succ]
    go_wp2
    rw [rounds_succ]
    go_wp2
    rw [rounds_succ]
    go_wp2
    rw [rounds_succ]
    go_wp2
    rw [rounds_succ]
    go_wp2
    go_ret
    exact ⟨_, rfl, rfl, by omega⟩

theorem Contains_any (n : Int) (b : Nat) (w : World) (hb : Blk w b lens 55) :
    Calls Tryd.prog 48 #[.slice (some ⟨b, 0, none⟩) 4 4, .int .i64 n] w fun e w' => ∃ r : Bool, e = .returned (.bool r) ∧ w' = w ∧ (r = true ↔ (n = 40 ∨ n = 60 ∨ n = 80 ∨ n = 120)) := by
  go_enter Tryd.func48, Tryd.ntmps48
  go_wp2_with (go_at_call 55; refine (Index_any n b w hb).mono ?_; rintro e w' ⟨r, rfl, hw, hr⟩; rw [hw]; clear hw w')
  go_ret
  exact ⟨_, rfl, rfl, by simp⟩

end Lapd
end Go.Proofs.YthlpbekfjolenaaDoor
