/-
  Contract of wave.Sines, and the walk of the law of whole turns. Conditions: each number fits its kind; the polynomial's numbers stand as their initialiser lays them.
-/
import Derived.Test.YtjfhlaahgfdmnaaDoorWaveLaws
import Derived.OwnWalk
import Derived.Below
namespace Go.Proofs.YtjfhlaahgfdmnaaDoor
open Go.RowKit
namespace Wave

/-- between the rounds: of the list that the call made, the first k are told -/
def Made (w wr : World) (n k : Nat) : Prop :=
  (∃ cur : Array Value, wr.heap[w.heap.size]? = some (.cells cur 56 (0, 0)) ∧ cur.size = n ∧ ∀ j, j < k → cur[j]? = some (.int .i16 (M.sine (j : Int) (n : Int)))) ∧ Grown w wr ∧ Tab wr
theorem Made.drewN {w wr : World} {n k : Nat} (h : Made w wr n k) (m : Nat) : Made w (wr.drewN m) n k := h
theorem Made.cell {w wr : World} {n k : Nat} (h : Made w wr n k) {j : Nat} (hj : j < n) : ∃ v, wr.cell? ⟨w.heap.size, j, none⟩ = some v := by
  obtain ⟨⟨cur, h1, h2, _⟩, _⟩ := h
  refine ⟨cur[j]'(by omega), ?_⟩
  simp [World.cell?, h1, h2, hj]
theorem Made.told {w wr : World} {n k : Nat} (h : Made w wr n k) {j : Nat} (hj : j < k) : wr.cell? ⟨w.heap.size, j, none⟩ = some (.int .i16 (M.sine (j : Int) (n : Int))) := by
  obtain ⟨⟨cur, h1, h2, h3⟩, _⟩ := h
  simp [World.cell?, h1, h3 j hj]
theorem Made.free {w wr : World} {n k : Nat} (h : Made w wr n k) (j : Nat) : wr.frozen? ⟨w.heap.size, j, none⟩ = false := by
  obtain ⟨⟨cur, h1, _⟩, _⟩ := h
  simp [World.frozen?, h1]
theorem made_start {w : World} (hT : Tab w) (cs : Array Value) (n : Nat) (hn : cs.size = n) : Made w (w.alloc (.cells cs 56)) n 0 := by
  refine ⟨⟨cs, heap_alloc_new w _, hn, fun j hj => absurd hj (by omega)⟩, (Grown.refl _).alloc _ _, ?_⟩
  obtain ⟨t, fr, h⟩ := hT
  have hl : 0 < w.heap.size := by
    rcases Nat.lt_or_ge 0 w.heap.size with h' | h'
    · exact h'
    · rw [Array.getElem?_eq_none h'] at h; cases h
  exact ⟨t, fr, (Below.heap_alloc w _ _ hl).trans h⟩
theorem made_step {w wr : World} {n k : Nat} (h : Made w wr n k) (hT : Tab w) (hk : k < n) : Made w (wr.setCell ⟨w.heap.size, k, none⟩ (.int .i16 (M.sine (k : Int) (n : Int)))) n (k + 1) := by
  obtain ⟨⟨cur, h1, h2, h3⟩, h4, t, fr, h5⟩ := h
  have hl : 0 < w.heap.size := by
    obtain ⟨t, fr, h⟩ := hT
    rcases Nat.lt_or_ge 0 w.heap.size with h' | h'
    · exact h'
    · rw [Array.getElem?_eq_none h'] at h; cases h
  refine ⟨⟨cur.setIfInBounds k (.int .i16 (M.sine (k : Int) (n : Int))), ?_, by simpa using h2, ?_⟩, h4.setCell (Nat.le_refl _) _, t, fr, ?_⟩
  · simp [World.setCell, Array.getElem?_modify, h1]
  · intro j hj
    rw [Array.getElem?_setIfInBounds]
    split
    · rename_i e; subst e; rw [if_pos (by omega)]
    · exact h3 j (by omega)
  · rw [Below.heap_setCell _ _ _ _ (by show _ ≠ w.heap.size; omega)]
    exact h5

theorem info16 : (Tryd.prog.info? 56).map (fun i => (i.zero, i.size, i.bytes)) = some (some (.int .i16 0), 1, 2) := by kernel_rfl

theorem run_made (w : World) (n : Nat) (hn : n ≤ 65536) :
    ∃ cs : Array Value, cs.size = n ∧ (Instr.makeSlice 23 (.int .i64 n) (.int .i64 n)).run Tryd.prog w = .ok (.slice (some ⟨w.heap.size, 0, none⟩) n n) (w.alloc (.cells cs 56)) := by
  obtain ⟨i0, hi, hz0, hz1, hz2⟩ := info_parts info16
  have := run_make (P := Tryd.prog) w 23 56 i0 (.int .i16 0) Tryd.underlying23 hi hz0 .i64 .i64 n n (by omega) (by omega) (by rw [hz2]; omega) (by omega)
  refine ⟨_, ?_, by simpa using this⟩
  rw [size_madeCells, hz1]; simp

end Wave
end Go.Proofs.YtjfhlaahgfdmnaaDoor
