/-
  Contract of wave.Sines, and the walk of the law of whole turns. Conditions: each number fits its kind; the polynomial's numbers stand as their initialiser lays them.
-/
import Derived.Test.YtpbkifimfggncaaDoorWaveLaws
import Derived.OwnWalk
import Derived.Below
namespace Go.Proofs.YtpbkifimfggncaaDoor
open Go.RowKit
namespace Wave

/-- between the rounds: of the list that the call made, the first k are told -/
def Made (w wr : World) (n k : Nat) : Prop :=
  (∃ cur : Array Value, wr.heap[w.heap.size]? = some (.cells cur 23 (0, 0)) ∧ cur.size = n ∧ ∀ j, j < k → cur[j]? = some (.int .i16 (M.sine (j : Int) (n : Int)))) ∧ Grown w wr ∧ Tab wr
theorem Made.drewN {w wr : World} {n k : Nat} (h : Made w wr n k) (m : Nat) : Made w (wr.drewN m) n k := h
theorem Made.cell {w wr : World} {n k : Nat} (h : Made w wr n k) {j : Nat} (hj : j < n) : ∃ v, wr.cell? ⟨w.heap.size, j, none⟩ = some v := by
  obtain ⟨⟨cur, h1, h2, _⟩, _⟩ := h
  refine ⟨cur[j]'(by omega), ?_⟩
  simp [World.cell?, h1, h2, hj]
theorem Made.told {w wr : World} {n k : Nat} (h : Made w wr n k) {j : Nat} (hj : j < k) : wr.cell? ⟨w.heap.size, j, none⟩ = some (.int .i16 (M.sine (j : Int) (n : Int))) := by
  obtain ⟨⟨cur, h1, h2, h3⟩, _⟩ := h
  simp [World.cell?, h1, h3 j hj]
theorem Made.free {w wr : World} {n k : Nat} (h : Made w wr n k) (j : Nat) : wr.frozen? ⟨w.heap.size, j, none⟩ = false := by
  obtain ⟨⟨cur, h1, _⟩, _⟩ := h
  simp [World.frozen?, h1]
theorem made_start {w : World} (hT : Tab w) (cs : Array Value) (n : Nat) (hn : cs.size = n) : Made w (w.alloc (.cells cs 23)) n 0 := by
  refine ⟨⟨cs, heap_alloc_new w _, hn, fun j hj => absurd hj (by omega)⟩, (Grown.refl _).alloc _ _, ?_⟩
  obtain ⟨t, fr, h⟩ := hT
  have hl : 0 < w.heap.size := by
    rcases Nat.lt_or_ge 0 w.heap.size with h' | h'
    · exact h'
    · rw [Array.getElem?_eq_none h'] at h; cases h
  exact ⟨t, fr, (Below.heap_alloc w _ _ hl).trans h⟩
theorem made_step {w wr : World} {n k : Nat} (h : Made w wr n k) (hT : Tab w) (hk : k < n) : Made w (wr.setCell ⟨w.heap.size, k, none⟩ (.int .i16 (M.sine (k : Int) (n : Int)))) n (k + 1) := by
  obtain ⟨⟨cur, h1, h2, h3⟩, h4, t, fr, h5⟩ := h
  have hl : 0 < w.heap.size := by
    obtain ⟨t, fr, h⟩ := hT
    rcases Nat.lt_or_ge 0 w.heap.size with h' | h'
    · exact h'
    · rw [Array.getElem?_eq_none h'] at h; cases h
  refine ⟨⟨cur.setIfInBounds k (.int .i16 (M.sine (k : Int) (n : Int))), ?_, by simpa using h2, ?_⟩, h4.setCell (Nat.le_refl _) _, t, fr, ?_⟩
  · simp [World.setCell, Array.getElem?_modify, h1]
  · intro j hj
    rw [Array.getElem?_setIfInBounds]
    split
    · rename_i e; subst e; rw [if_pos (by omega)]
    · exact h3 j (by omega)
  · rw [Below.heap_setCell _ _ _ _ (by show _ ≠ w.heap.size; omega)]
    exact h5

theorem info16 : (Tryd.prog.info? 23).map (fun i => (i.zero, i.size, i.bytes)) = some (some (.int .i16 0), 1, 2) := by kernel_rfl

theorem run_made (w : World) (n : Nat) (hn : n ≤ 65536) :
    ∃ cs : Array Value, cs.size = n ∧ (Instr.makeSlice 30 (.int .i64 n) (.int .i64 n)).run Tryd.prog w = .ok (.slice (some ⟨w.heap.size, 0, none⟩) n n) (w.alloc (.cells cs 23)) := by
  obtain ⟨i0, hi, hz0, hz1, hz2⟩ := info_parts info16
  have := run_make (P := Tryd.prog) w 30 23 i0 (.int .i16 0) Tryd.underlying30 hi hz0 .i64 .i64 n n (by omega) (by omega) (by rw [hz2]; omega) (by omega)
  refine ⟨_, ?_, by simpa using this⟩
  rw [size_madeCells, hz1]; simp

theorem Sines_err (d : Int) (w : World) (h : d < 1 ∨ 65536 < d) :
    Calls Tryd.prog 11 #[.int .i64 d] w fun e w' => e = .returned (.tuple #[.slice none 0 0, .int .i64 1]) ∧ w' = w := by
  rcases h with h | h
  · go_enter Tryd.func11, Tryd.ntmps11
    go_wp2
    go_ret2
    exact ⟨rfl, rfl⟩
  · have h' : ¬ d < 1 := by omega
    go_enter Tryd.func11, Tryd.ntmps11
    go_wp2
    go_ret2
    exact ⟨rfl, rfl⟩

set_option maxRecDepth 100000 in
theorem Sines_any (n : Nat) (w : World) (hT : Tab w) (n0 : 1 ≤ n) (n1 : n ≤ 65536) :
    Calls Tryd.prog 11 #[.int .i64 n] w fun e w' => e = .returned (.tuple #[.slice (some ⟨w.heap.size, 0, none⟩) n n, .int .i64 0]) ∧ Made w w' n n := by
  obtain ⟨cs, hcs, hmk⟩ := run_made w n n1
  have hst := made_start hT cs n hcs
  have i1 : ¬ (n : Int) < 1 := by omega
  have i2 : ¬ (65536 : Int) < n := by omega
  go_enter Tryd.func11, Tryd.ntmps11
  go_wp2
  go_loopw [16] (fun i wr => ∃ k : Nat, k ≤ n ∧ i = .int .i64 k ∧ Made w wr n k) (fun i _ => n - (intOf i).toNat)
  case atStart => exact ⟨0, by omega, rfl, hst⟩
  case round =>
    obtain ⟨k, hk, rfl, hm⟩ := hrel
    by_cases hlt : k < n
    · obtain ⟨v0, hc⟩ := hm.cell hlt
      have hf := hm.free k
      have hT2 := hm.2.2
      go_wp2_with (go_at_call 13; refine (sine_any _ _ _ hT2 (by omega) (by omega) (by omega) (by omega)).mono ?_; rintro e w' ⟨rfl, m, rfl⟩)
      go_roundw
      case rel => exact ⟨k + 1, by omega, by go_num, made_step (hm.drewN _) hT hlt⟩
      case measure => simp [intOf]; omega
    · obtain rfl : k = n := by omega
      go_wp2
      go_ret2
      exact ⟨rfl, hm⟩

set_option maxRecDepth 100000 in
theorem WaveTables_walk (a0 : Int) (w : World) (hT : Tab w) :
    Calls Tryd.prog 4 #[.int .i64 a0] w fun e w' => e = .returned (.bool true) ∧ Grown w w' := by
  rcases (by omega : a0 < 1 ∨ 65536 < a0 ∨ (5000 < a0 ∧ a0 ≤ 65536) ∨ (1 ≤ a0 ∧ a0 ≤ 5000)) with h | h | ⟨h1, h2⟩ | ⟨h1, h2⟩
  · have g1 : ¬ 5000 < a0 := by omega
    go_enter Tryd.func4, Tryd.ntmps4
    go_wp2_with (first
      | (go_at_call 6; refine (alive_any _ hT).mono ?_; rintro e w' ⟨rfl, m, rfl⟩)
      | (go_at_call 11; refine (Sines_err _ _ (.inl h)).mono ?_; rintro e w' ⟨rfl, rfl⟩))
    go_ret
    exact ⟨rfl, grown_drewN (Grown.refl _) _⟩
  · have g1 : 5000 < a0 := by omega
    have g2 : ¬ a0 ≤ 65536 := by omega
    have g3 : ¬ a0 < 1 := by omega
    go_enter Tryd.func4, Tryd.ntmps4
    go_wp2_with (first
      | (go_at_call 6; refine (alive_any _ hT).mono ?_; rintro e w' ⟨rfl, m, rfl⟩)
      | (go_at_call 11; refine (Sines_err _ _ (.inr h)).mono ?_; rintro e w' ⟨rfl, rfl⟩))
    go_ret
    exact ⟨rfl, grown_drewN (Grown.refl _) _⟩
  · go_enter Tryd.func4, Tryd.ntmps4
    go_wp2_with (go_at_call 6; refine (alive_any _ hT).mono ?_; rintro e w' ⟨rfl, m, rfl⟩)
    go_ret
    exact ⟨rfl, grown_drewN (Grown.refl _) _⟩
  · obtain ⟨n, rfl⟩ : ∃ n : Nat, a0 = n := ⟨a0.toNat, by omega⟩
    have g1 : ¬ (5000 : Int) < n := by omega
    have g2 : ¬ (n : Int) < 1 := by omega
    have g3 : ¬ (65536 : Int) < n := by omega
    go_enter Tryd.func4, Tryd.ntmps4
    go_wp2_with (first
      | (go_at_call 6; refine (alive_any _ hT).mono ?_; rintro e w' ⟨rfl, m, rfl⟩)
      | (go_at_call 11; refine (Sines_any n _ (Tab.drewN hT _) (by omega) (by omega)).mono ?_; rintro e w' ⟨rfl, hm⟩))
    go_loopw [5] (fun i wr => ∃ k : Nat, k ≤ n ∧ i = .int .i64 k ∧ Made w wr n n) (fun i _ => n - (intOf i).toNat)
    case atStart => exact ⟨0, by omega, rfl, hm⟩
    case round =>
      obtain ⟨k, hk, rfl, hm⟩ := hrel
      by_cases hlt : k < n
      · have hc := hm.told hlt
        have hlt' : (k : Int) < n := by omega
        go_wp2
        go_quiet (first | (go_at_call 12; refine Calls.quiet_of_same (Of_any _ _ _ (by omega) (by omega))))
        go_wp2
        go_roundw
        case rel => exact ⟨k + 1, by omega, by go_num, hm.drewN _⟩
        case measure => simp [intOf]; omega
      · obtain rfl : k = n := by omega
        go_wp2
        go_ret
        exact ⟨rfl, hm.2.1⟩

end Wave
end Go.Proofs.YtpbkifimfggncaaDoor
