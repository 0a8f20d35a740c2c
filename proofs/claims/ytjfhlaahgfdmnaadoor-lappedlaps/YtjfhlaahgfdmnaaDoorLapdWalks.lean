/-
  Contracts of package lapped's small functions: lengths, the window. Conditions: as told at each.
-/
import Derived.Test.YtjfhlaahgfdmnaaDoorLapdMath
import Derived.Test.YtjfhlaahgfdmnaaDoorBankSame
import Derived.BigRegion
import Derived.BigQuiet
import Derived.Deep.RegionWith
namespace Go.Proofs.YtjfhlaahgfdmnaaDoor
set_option linter.unusedVariables false
open Go.RowKit
namespace Lapd
open Bank (Blk But)
open Poly (Reads enc enc_get enc_length enc_rep fit16 fit32 Fill make16 make32 reads_blk reads_own cell_keep below_but below_drewN below_drew alloc_size)

/-- the four lengths, as they lie -/
def lens : Array Value := #[.int .i64 40, .int .i64 60, .int .i64 80, .int .i64 120]

theorem Lengths_any (w : World) : Calls Tryd.prog 25 #[] w fun e w' => e = .returned (.slice (some ⟨w.heap.size, 0, none⟩) 4 4) ∧ Blk w' w.heap.size lens 96 ∧ Below w.heap.size w w' ∧ w'.heap.size = w.heap.size + 1 := by
  have hB := Blk.new w lens 96
  have bel : Below w.heap.size w (w.alloc (.cells lens 96)) := (Below.refl _ _).alloc (Nat.le_refl _) _
  go_enter Tryd.func25, Tryd.ntmps25
  go_wp2
  go_ret
  exact ⟨rfl, hB, bel, by simp⟩

theorem Index_any (n : Int) (b : Nat) (w : World) (hb : Blk w b lens 96) :
    Calls Tryd.prog 39 #[.slice (some ⟨b, 0, none⟩) 4 4, .int .i64 n] w fun e w' => ∃ r : Int, e = .returned (.int .i64 r) ∧ w' = w ∧ (0 ≤ r ↔ (n = 40 ∨ n = 60 ∨ n = 80 ∨ n = 120)) := by
  have h0 : w.cell? ⟨b, 0, none⟩ = some (.int .i64 40) := hb.cell rfl
  have h1 : w.cell? ⟨b, 1, none⟩ = some (.int .i64 60) := hb.cell rfl
  have h2 : w.cell? ⟨b, 2, none⟩ = some (.int .i64 80) := hb.cell rfl
  have h3 : w.cell? ⟨b, 3, none⟩ = some (.int .i64 120) := hb.cell rfl
  clear hb
  rcases (by omega : n = 40 ∨ n = 60 ∨ n = 80 ∨ n = 120 ∨ (n ≠ 40 ∧ n ≠ 60 ∧ n ≠ 80 ∧ n ≠ 120)) with rfl | rfl | rfl | rfl | ⟨n0, n1, n2, n3⟩
  · go_enter Tryd.func39, Tryd.ntmps39
    go_wp2
    refine wp_loop_rounds 5 ?_
    rw [rounds_succ]
    go_wp2
    go_ret
    exact ⟨_, rfl, rfl, by decide⟩
  · go_enter Tryd.func39, Tryd.ntmps39
    go_wp2
    refine wp_loop_rounds 5 ?_
    rw [rounds_succ]
    go_wp2
    rw [rounds_succ]
    go_wp2
    go_ret
    exact ⟨_, rfl, rfl, by decide⟩
  · go_enter Tryd.func39, Tryd.ntmps39
    go_wp2
    refine wp_loop_rounds 5 ?_
    rw [rounds_succ]
    go_wp2
    rw [rounds_succ]
    go_wp2
    rw [rounds_succ]
    go_wp2
    go_ret
    exact ⟨_, rfl, rfl, by decide⟩
  · go_enter Tryd.func39, Tryd.ntmps39
    go_wp2
    refine wp_loop_rounds 5 ?_
    rw [rounds_succ]
    go_wp2
    rw [rounds_succ]
    go_wp2
    rw [rounds_succ]
    go_wp2
    rw [rounds_succ]
    go_wp2
    go_ret
    exact ⟨_, rfl, rfl, by decide⟩
  · have e0 : (n == 40) = false := by simpa using n0
    have e1 : (n == 60) = false := by simpa using n1
    have e2 : (n == 80) = false := by simpa using n2
    have e3 : (n == 120) = false := by simpa using n3
    go_enter Tryd.func39, Tryd.ntmps39
    go_wp2
    refine wp_loop_rounds 5 ?_
    rw [rounds_succ]
    go_wp2
    rw [rounds_succ]
    go_wp2
    rw [rounds_succ]
    go_wp2
    rw [rounds_succ]
    go_wp2
    rw [rounds_succ]
    go_wp2
    go_ret
    exact ⟨_, rfl, rfl, by omega⟩

theorem Contains_any (n : Int) (b : Nat) (w : World) (hb : Blk w b lens 96) :
    Calls Tryd.prog 26 #[.slice (some ⟨b, 0, none⟩) 4 4, .int .i64 n] w fun e w' => ∃ r : Bool, e = .returned (.bool r) ∧ w' = w ∧ (r = true ↔ (n = 40 ∨ n = 60 ∨ n = 80 ∨ n = 120)) := by
  go_enter Tryd.func26, Tryd.ntmps26
  go_wp2_with (go_at_call 39; refine (Index_any n b w hb).mono ?_; rintro e w' ⟨r, rfl, hw, hr⟩; rw [hw]; clear hw w')
  go_ret
  exact ⟨_, rfl, rfl, by simp⟩

theorem rising_any (n place lo hi : Nat) (vs : Value) (zs : List Int) (w : World) (hr : Reads .i16 lo hi w vs zs) (hl : zs.length = n / 2) (hz : ∀ i, i < n / 2 → zs.getD i 0 = M.sine (2 * (i : Int) + 1) (8 * ((n / 2 : Nat) : Int))) (n0 : 4 ≤ n) (n1 : n ≤ 1000) (hp : place < n) (N4 : Nat) (h4 : n / 4 = N4) :
    Calls Tryd.prog 28 #[vs, .int .i64 N4, .int .i64 place] w fun e w' => e = .returned (.int .i16 (M.ris n place)) ∧ w' = w := by
  obtain ⟨a, c, rfl⟩ := hr.form
  obtain ⟨b, off, rfl, _, _, hx⟩ := hr.cell (by omega)
  rw [hl] at hx ⊢
  unfold M.ris
  have b4 : (N4 : Int) ≤ 1000 := by omega
  rcases (by omega : place < N4 ∨ (N4 ≤ place ∧ place < N4 + n / 2) ∨ N4 + n / 2 ≤ place) with h | ⟨h, h'⟩ | h
  · rw [if_pos (by omega)]
    clear hx hz hr hl h4
    generalize n / 2 = L at *
    go_enter Tryd.func28, Tryd.ntmps28
    go_wp2
    go_ret
    exact ⟨rfl, rfl⟩
  · rw [if_neg (by omega), if_pos (by omega), h4]
    obtain ⟨q, hq⟩ : ∃ q, place - N4 = q := ⟨_, rfl⟩
    have q1 := hx q (by omega)
    rw [hz q (by omega)] at q1
    rw [hq]
    have hq' : (place : Int) - (N4 : Int) = (q : Int) := by omega
    have hq2 : (q : Int) < ((n / 2 : Nat) : Int) := by omega
    generalize M.sine (2 * (q : Int) + 1) (8 * ((n / 2 : Nat) : Int)) = y at *
    clear hx hz hr hl h4 hq
    generalize n / 2 = L at *
    go_enter Tryd.func28, Tryd.ntmps28
    go_wp2
    go_ret
    exact ⟨rfl, rfl⟩
  · rw [if_neg (by omega), if_neg (by omega)]
    clear hx hz hr hl h4
    generalize n / 2 = L at *
    have hh : ¬ (place : Int) - (N4 : Int) < 0 := by omega
    have hh2 : ¬ (place : Int) - (N4 : Int) < (L : Int) := by omega
    go_enter Tryd.func28, Tryd.ntmps28
    go_wp2
    go_ret
    exact ⟨rfl, rfl⟩

end Lapd
end Go.Proofs.YtjfhlaahgfdmnaaDoor
