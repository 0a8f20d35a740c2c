/-
  Contracts: parted and woven samples as lists, and the errors. Conditions: as told at each.
-/
import Derived.Test.YtnnljamkomlglaaPcmWeave
namespace Go.Proofs.Ytnnljamkomlglaa
set_option linter.unusedVariables false
open Go.RowKit
namespace Pcm
open Bank (Blk But)
open Poly

theorem reads_fill {g L : Nat} {f : Nat → Int} {w : World} (h : Fill .i16 51 g L L f w) (hf : M.fits16 ((List.range L).map f)) : Reads .i16 g (g + 1) w (.slice (some ⟨g, 0, none⟩) L L) ((List.range L).map f) := by
  have := reads_blk h.whole (fit16.2 hf)
  simpa using this

theorem Part_ok (lo hi c n : Nat) (v : Value) (xs : List Int) (w : World) (h : Reads .i16 lo hi w v xs) (hh : hi ≤ w.heap.size) (hl : xs.length ≤ 65536) (hc : c = 1 ∨ c = 2) (hn : xs.length = c * n) :
    Calls Try.prog 8 #[v, .int .i64 c] w fun e w' => ∃ v', e = .returned (.tuple #[v', .int .i64 0]) ∧ Poly.Rows .i16 w.heap.size w'.heap.size w' v' (M.chs n xs c) ∧ Below w.heap.size w w' := by
  have hx : M.fits16 xs := fit16.1 (by obtain ⟨_, _, _, _, hw, _⟩ := h; exact hw)
  rcases hc with rfl | rfl
  · obtain rfl : xs.length = n := by omega
    refine (Part_1 lo hi v xs w h hh hl).mono ?_
    rintro e w' ⟨rfl, hf, hb, hs, hbel⟩
    refine ⟨_, rfl, ⟨some ⟨w.heap.size, 0, none⟩, 1, by rw [M.chs_length], by rw [M.chs_length]; omega, .inr ⟨_, 0, rfl, Nat.le_refl _, by omega, fun i hi => ?_⟩⟩, hbel⟩
    rw [M.chs_length] at hi
    obtain rfl : i = 0 := by omega
    refine ⟨_, hb.cell rfl, ?_⟩
    rw [M.chs_get (by omega)]
    exact (reads_fill hf (M.chn_fits hx)).mono (by omega) (by omega)
  · refine (Part_2 lo hi n v xs w h hh hl hn).mono ?_
    rintro e w' ⟨rfl, hf, hf', hb, hs, hbel⟩
    rw [hn] at hf hf'
    rw [show (2 * n + 1) / 2 = n by omega] at hf
    rw [show 2 * n / 2 = n by omega] at hf'
    refine ⟨_, rfl, ⟨some ⟨w.heap.size, 0, none⟩, 2, by rw [M.chs_length], by rw [M.chs_length]; omega, .inr ⟨_, 0, rfl, Nat.le_refl _, by omega, fun i hi => ?_⟩⟩, hbel⟩
    rw [M.chs_length] at hi
    rcases (by omega : i = 0 ∨ i = 1) with rfl | rfl
    · refine ⟨_, hb.cell rfl, ?_⟩
      rw [M.chs_get (by omega)]
      exact (reads_fill hf (M.chn_fits hx)).mono (by omega) (by omega)
    · refine ⟨_, hb.cell rfl, ?_⟩
      rw [M.chs_get (by omega)]
      exact (reads_fill hf' (M.chn_fits hx)).mono (by omega) (by omega)

set_option maxRecDepth 100000 in
theorem Part_out (lo hi : Nat) (c : Int) (v : Value) (xs : List Int) (w : World) (h : Reads .i16 lo hi w v xs) (h1 : c ≠ 1) (h2 : c ≠ 2) :
    Calls Try.prog 8 #[v, .int .i64 c] w fun e w' => e = .returned (.tuple #[.slice none 0 0, .int .i64 1]) ∧ w' = w := by
  obtain ⟨a, cp, rfl⟩ := h.form
  have hcb := canBe_any c w
  rw [decide_eq_false (by omega)] at hcb
  generalize xs.length = n
  clear h
  go_enter Try.func8, Try.ntmps8
  go_wp2_with (go_at_call 23; refine hcb.mono ?_; clear hcb; rintro e w' ⟨rfl, hw⟩; rw [hw]; clear hw w')
  go_ret2
  exact ⟨rfl, rfl⟩

set_option maxRecDepth 100000 in
theorem Part_odd (lo hi : Nat) (v : Value) (xs : List Int) (w : World) (h : Reads .i16 lo hi w v xs) (h1 : xs.length % 2 = 1) :
    Calls Try.prog 8 #[v, .int .i64 2] w fun e w' => e = .returned (.tuple #[.slice none 0 0, .int .i64 1]) ∧ w' = w := by
  obtain ⟨a, cp, rfl⟩ := h.form
  have hcb := canBe_any 2 w
  rw [show decide ((1 : Int) ≤ 2 ∧ (2 : Int) ≤ 2) = true from rfl] at hcb
  generalize xs.length = n at *
  have m1 : (n : Int).tmod 2 = 1 := by rw [Int.tmod_eq_emod_of_nonneg (by omega)]; omega
  have m2 : (n : Int) % 2 = 1 := by omega
  clear h h1
  go_enter Try.func8, Try.ntmps8
  go_wp2_with (go_at_call 23; refine hcb.mono ?_; clear hcb; rintro e w' ⟨rfl, hw⟩; rw [hw]; clear hw w')
  go_ret2
  exact ⟨rfl, rfl⟩

theorem Weave_ok (lo hi c n : Nat) (v : Value) (l : List (List Int)) (w : World) (h : Poly.Rows .i16 lo hi w v l) (hh : hi ≤ w.heap.size) (hc : c = 1 ∨ c = 2) (hlc : l.length = c) (hn : ∀ k, k < c → (l.getD k []).length = n) (hf : ∀ k, M.fits16 (l.getD k [])) (hl : n ≤ 70368744177664) :
    Calls Try.prog 15 #[v] w fun e w' => ∃ v', e = .returned (.tuple #[v', .int .i64 0]) ∧ Reads .i16 w.heap.size w'.heap.size w' v' (M.wov c n l) ∧ Below w.heap.size w w' := by
  rcases hc with rfl | rfl
  · obtain ⟨xs, rfl⟩ : ∃ xs, l = [xs] := List.length_eq_one_iff.1 hlc
    refine (Weave_1 lo hi n v xs w h hh (hn 0 (by omega)) hl).mono ?_
    rintro e w' ⟨rfl, hw, hs, hbel⟩
    have hr := reads_fill (by rw [Nat.one_mul] at hw ⊢; exact hw) (M.wov_fits hf (c := 1) (n := n))
    rw [Nat.one_mul] at hr
    exact ⟨_, rfl, by unfold M.wov; rw [Nat.one_mul]; exact hr.mono (Nat.le_refl _) (by omega), hbel⟩
  · obtain ⟨xs, ys, rfl⟩ : ∃ xs ys, l = [xs, ys] := by
      match l, hlc with
      | [x, y], _ => exact ⟨x, y, rfl⟩
    refine (Weave_2 lo hi n v xs ys w h hh (hn 0 (by omega)) (hn 1 (by omega)) hl).mono ?_
    rintro e w' ⟨rfl, hw, hs, hbel⟩
    have hr := reads_fill hw (M.wov_fits hf (c := 2) (n := n))
    exact ⟨_, rfl, hr.mono (Nat.le_refl _) (by omega), hbel⟩

set_option maxRecDepth 100000 in
theorem Weave_out (lo hi : Nat) (v : Value) (l : List (List Int)) (w : World) (h : Poly.Rows .i16 lo hi w v l) (h1 : l.length ≠ 1) (h2 : l.length ≠ 2) :
    Calls Try.prog 15 #[v] w fun e w' => e = .returned (.tuple #[.slice none 0 0, .int .i64 1]) ∧ ∃ m, w' = w.drewN m := by
  obtain ⟨a, cp, rfl, _⟩ := h.form
  have hcb := fun wx => canBe_any l.length wx
  rw [decide_eq_false (by omega)] at hcb
  generalize l.length = n at *
  clear h
  go_enter Try.func15, Try.ntmps15
  go_wp2
  go_quiet (first | (go_at_call 23; exact Calls.quiet_of_same (hcb _)))
  go_wp2
  go_ret2
  exact ⟨rfl, _, rfl⟩

set_option maxRecDepth 100000 in
theorem Weave_odd (lo hi : Nat) (v : Value) (xs ys : List Int) (w : World) (h : Poly.Rows .i16 lo hi w v [xs, ys]) (hne : xs.length ≠ ys.length) :
    Calls Try.prog 15 #[v] w fun e w' => e = .returned (.tuple #[.slice none 0 0, .int .i64 1]) ∧ ∃ m, w' = w.drewN m := by
  obtain ⟨a, cp, rfl, _⟩ := h.form
  obtain ⟨b, off, rfl, k0, k1, hx⟩ := h.cell (by simp)
  obtain ⟨u, hu, hr⟩ := hx 0 (by simp)
  obtain ⟨u', hu', hr'⟩ := hx 1 (by simp)
  simp only [Nat.add_zero] at hu
  have hr : Reads .i16 lo hi w u xs := hr
  have hr' : Reads .i16 lo hi w u' ys := hr'
  obtain ⟨a', c', rfl⟩ := hr.form
  obtain ⟨a'', c'', rfl⟩ := hr'.form
  have hcb := fun wx => canBe_any 2 wx
  rw [show decide ((1 : Int) ≤ 2 ∧ (2 : Int) ≤ 2) = true from rfl] at hcb
  rw [show ([xs, ys] : List (List Int)).length = 2 from rfl]
  clear h hx hr hr'
  generalize xs.length = n at *
  generalize ys.length = m at *
  have hne' : ¬ (n : Int) = m := by omega
  clear hne
  go_enter Try.func15, Try.ntmps15
  go_wp2
  go_quiet (first | (go_at_call 23; exact Calls.quiet_of_same (hcb _)))
  go_wp2
  go_ret2
  exact ⟨rfl, _, rfl⟩

end Pcm
end Go.Proofs.Ytnnljamkomlglaa
