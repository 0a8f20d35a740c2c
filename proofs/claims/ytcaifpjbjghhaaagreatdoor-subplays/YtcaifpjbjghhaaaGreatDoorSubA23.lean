import Derived.RegionCalls
import Derived.Test.YtcaifpjbjghhaaaGreatDoorSubA19
/-
  Contracts: samples that are woven. Conditions: as told at each.
-/
namespace Go.Proofs.YtcaifpjbjghhaaaGreatDoor
set_option linter.unusedVariables false
open Go.RowKit
namespace Pcm
open Bank (Blk But)
open Poly

/-- what is woven is being filled -/
def Wov (c n k : Nat) (l : List (List Int)) (w0 w : World) : Prop := Fill .i16 182 w0.heap.size (c * n) k (fun i => (l.getD (i % c) []).getD (i / c) 0) w ∧ w.heap.size = w0.heap.size + 1 ∧ Below w0.heap.size w0 w
theorem Wov.start (c n m : Nat) (l : List (List Int)) (w0 : World) : Wov c n 0 l w0 ((w0.drewN m).alloc (.cells (zs16 (c * n)) 182)) := by
  have b := Blk.new (w0.drewN m) (zs16 (c * n)) 182
  exact ⟨Fill.start b, by simp, (below_drewN (Below.refl _ _) m).alloc (Nat.le_refl _) _⟩
end Pcm
end Go.Proofs.YtcaifpjbjghhaaaGreatDoor

/-
  Contracts: parted and woven samples as lists, and the errors. Conditions: as told at each.
-/
namespace Go.Proofs.YtcaifpjbjghhaaaGreatDoor
set_option linter.unusedVariables false
open Go.RowKit
namespace Pcm
open Bank (Blk But)
open Poly

theorem reads_fill {g L : Nat} {f : Nat → Int} {w : World} (h : Fill .i16 182 g L L f w) (hf : M.fits16 ((List.range L).map f)) : Reads .i16 g (g + 1) w (.slice (some ⟨g, 0, none⟩) L L) ((List.range L).map f) := by
  have := reads_blk h.whole (fit16.2 hf)
  simpa using this

theorem Part_ok (lo hi c n : Nat) (v : Value) (xs : List Int) (w : World) (h : Reads .i16 lo hi w v xs) (hh : hi ≤ w.heap.size) (hl : xs.length ≤ 65536) (hc : c = 1 ∨ c = 2) (hn : xs.length = c * n) :
    Calls Tryz.prog 85 #[v, .int .i64 c] w fun e w' => ∃ v', e = .returned (.tuple #[v', .int .i64 0]) ∧ Poly.Rows .i16 w.heap.size w'.heap.size w' v' (M.chs n xs c) ∧ Below w.heap.size w w' := by
  have hx : M.fits16 xs := fit16.1 (by obtain ⟨_, _, _, _, hw, _⟩ := h; exact hw)
  rcases hc with rfl | rfl
  · obtain rfl : xs.length = n := by omega
    refine (Part_1 lo hi v xs w h hh hl).mono ?_
    rintro e w' ⟨rfl, hf, hb, hs, hbel⟩
    refine ⟨_, rfl, ⟨some ⟨w.heap.size, 0, none⟩, 1, by rw [M.chs_length], by rw [M.chs_length]; omega, .inr ⟨_, 0, rfl, Nat.le_refl _, by omega, fun i hi => ?_⟩⟩, hbel⟩
    rw [M.chs_length] at hi
    obtain rfl : i = 0 := by omega
    refine ⟨_, hb.cell rfl, ?_⟩
    rw [M.chs_get (by omega)]
    exact (reads_fill hf (M.chn_fits hx)).mono (by omega) (by omega)
  · refine (Part_2 lo hi n v xs w h hh hl hn).mono ?_
    rintro e w' ⟨rfl, hf, hf', hb, hs, hbel⟩
    rw [hn] at hf hf'
    rw [show (2 * n + 1) / 2 = n by omega] at hf
    rw [show 2 * n / 2 = n by omega] at hf'
    refine ⟨_, rfl, ⟨some ⟨w.heap.size, 0, none⟩, 2, by rw [M.chs_length], by rw [M.chs_length]; omega, .inr ⟨_, 0, rfl, Nat.le_refl _, by omega, fun i hi => ?_⟩⟩, hbel⟩
    rw [M.chs_length] at hi
    rcases (by omega : i = 0 ∨ i = 1) with rfl | rfl
    · refine ⟨_, hb.cell rfl, ?_⟩
      rw [M.chs_get (by omega)]
      exact (reads_fill hf (M.chn_fits hx)).mono (by omega) (by omega)
    · refine ⟨_, hb.cell rfl, ?_⟩
      rw [M.chs_get (by omega)]
      exact (reads_fill hf' (M.chn_fits hx)).mono (by omega) (by omega)

end Pcm
end Go.Proofs.YtcaifpjbjghhaaaGreatDoor

