/-
  Formats in plain numbers: which there are, their samples, bits and bytes. No walk. Conditions: none.
-/
import Derived.Test.YthlpbekfjolenaaDoorLapdLens
namespace Go.Proofs.YthlpbekfjolenaaDoor
set_option linter.unusedVariables false
open Go.RowKit
namespace M

/-- a format's ten fields: codec, rate, channels, bands, blocks, method, joint, pool, length, bytes -/
structure Fmt where
  c : Int
  r : Int
  h : Int
  b : Int
  k : Int
  m : Int
  j : Int
  p : Int
  l : Int
  y : Int

/-- the bits of a frame of Sub -/
def bitS (f : Fmt) : Int := 32 + 4 * f.b * f.h + f.k * f.p + (if f.j = 1 then f.b else 0)

/-- what Sub asks, in the program's order -/
def cS (f : Fmt) : Nat → Prop
  | 0 => 0 ≤ f.r ∧ f.r ≤ 3
  | 1 => 1 ≤ f.h ∧ f.h ≤ 2
  | 2 => f.b = 4 ∨ f.b = 8
  | 3 => (4 ≤ f.k ∧ f.k ≤ 16) ∧ f.k % 4 = 0
  | 4 => 0 ≤ f.m ∧ f.m ≤ 1
  | 5 => f.j = 0 ∨ (f.j = 1 ∧ f.h = 2)
  | 6 => 2 ≤ f.p ∧ f.p ≤ 16 * f.b * f.h ∧ f.p ≤ 250
  | 7 => f.l = 0 ∧ f.y = 0
  | _ => (bitS f + 7) / 8 ≤ 512
/-- what Lap asks, in the program's order -/
def cL (f : Fmt) : Nat → Prop
  | 0 => 0 ≤ f.r ∧ f.r ≤ 3
  | 1 => 1 ≤ f.h ∧ f.h ≤ 2
  | 2 => f.l = 40 ∨ f.l = 60 ∨ f.l = 80 ∨ f.l = 120
  | 3 => 20 ≤ f.y ∧ f.y ≤ 120
  | 4 => f.c = 2 ∧ f.b = 0 ∧ f.k = 0 ∧ f.m = 0 ∧ f.j = 0 ∧ f.p = 0
  | _ => f.y * f.h ≤ 512

def okS (f : Fmt) : Prop := f.c = 1 ∧ (0 ≤ f.r ∧ f.r ≤ 3) ∧ (f.h = 1 ∨ f.h = 2) ∧ (f.b = 4 ∨ f.b = 8) ∧ (f.k = 4 ∨ f.k = 8 ∨ f.k = 12 ∨ f.k = 16) ∧ (f.m = 0 ∨ f.m = 1) ∧ (f.j = 0 ∨ (f.j = 1 ∧ f.h = 2)) ∧
  2 ≤ f.p ∧ f.p ≤ 16 * f.b * f.h ∧ f.p ≤ 250 ∧ f.l = 0 ∧ f.y = 0 ∧ bitS f ≤ 4096
def okL (f : Fmt) : Prop := f.c = 2 ∧ (0 ≤ f.r ∧ f.r ≤ 3) ∧ (f.h = 1 ∨ f.h = 2) ∧ (f.b = 0 ∧ f.k = 0 ∧ f.m = 0 ∧ f.j = 0 ∧ f.p = 0) ∧ (f.l = 40 ∨ f.l = 60 ∨ f.l = 80 ∨ f.l = 120) ∧ 20 ≤ f.y ∧ f.y ≤ 120
/-- is it a format? -/
def okF (f : Fmt) : Prop := okS f ∨ okL f

theorem cS_all (f : Fmt) (hc : f.c = 1) : (∀ i, i < 9 → cS f i) ↔ okS f := by
  constructor
  · intro h
    have h0 := h 0 (by omega)
    have h1 := h 1 (by omega)
    have h2 := h 2 (by omega)
    have h3 := h 3 (by omega)
    have h4 := h 4 (by omega)
    have h5 := h 5 (by omega)
    have h6 := h 6 (by omega)
    have h7 := h 7 (by omega)
    have h8 := h 8 (by omega)
    simp only [cS] at h0 h1 h2 h3 h4 h5 h6 h7 h8
    exact ⟨hc, h0, by omega, h2, by omega, by omega, h5, h6.1, h6.2.1, h6.2.2, h7.1, h7.2, by omega⟩
  · rintro ⟨_, h0, h1, h2, h3, h4, h5, h6, h6', h6'', h7, h7', h8⟩ i hi
    match i, hi with
    | 0, _ => exact h0
    | 1, _ => show 1 ≤ f.h ∧ f.h ≤ 2; omega
    | 2, _ => exact h2
    | 3, _ => show (4 ≤ f.k ∧ f.k ≤ 16) ∧ f.k % 4 = 0; omega
    | 4, _ => show 0 ≤ f.m ∧ f.m ≤ 1; omega
    | 5, _ => exact h5
    | 6, _ => exact ⟨h6, h6', h6''⟩
    | 7, _ => exact ⟨h7, h7'⟩
    | 8, _ => show (bitS f + 7) / 8 ≤ 512; omega
theorem cL_all (f : Fmt) (hc : f.c = 2) : (∀ i, i < 6 → cL f i) ↔ okL f := by
  constructor
  · intro h
    have h0 := h 0 (by omega)
    have h1 := h 1 (by omega)
    have h2 := h 2 (by omega)
    have h3 := h 3 (by omega)
    have h4 := h 4 (by omega)
    simp only [cL] at h0 h1 h2 h3 h4
    exact ⟨hc, h0, by omega, h4.2, h2, h3⟩
  · rintro ⟨_, h0, h1, h2, h3, h4⟩ i hi
    match i, hi with
    | 0, _ => exact h0
    | 1, _ => show 1 ≤ f.h ∧ f.h ≤ 2; omega
    | 2, _ => exact h3
    | 3, _ => exact h4
    | 4, _ => exact ⟨hc, h2⟩
    | 5, _ => show f.y * f.h ≤ 512; rcases h1 with h | h <;> rw [h] <;> omega

/-- samples of a channel -/
def sam (f : Fmt) : Int := if f.c = 1 then f.b * f.k else f.l
def bitF (f : Fmt) : Int := if f.c = 1 then bitS f else 8 * f.y
def pay (f : Fmt) : Int := if f.c = 1 then (bitS f + 7) / 8 else f.y * f.h

/-- what the fields' bounds give of the reckoned numbers -/
theorem kp_bd {f : Fmt} (hk : f.k = 4 ∨ f.k = 8 ∨ f.k = 12 ∨ f.k = 16) (hp : 0 ≤ f.p ∧ f.p ≤ 251) : 0 ≤ f.k * f.p ∧ f.k * f.p ≤ 4016 := by
  rcases hk with h | h | h | h <;> rw [h] <;> omega
theorem bitS_bd {f : Fmt} (hk : f.k = 4 ∨ f.k = 8 ∨ f.k = 12 ∨ f.k = 16) (hp : 0 ≤ f.p ∧ f.p ≤ 251) (hb : f.b = 4 ∨ f.b = 8) (hh : f.h = 1 ∨ f.h = 2) : 32 ≤ bitS f ∧ bitS f ≤ 4200 := by
  have := kp_bd hk hp
  unfold bitS
  rcases hb with h | h <;> rcases hh with h' | h' <;> rw [h, h'] <;> split <;> omega

theorem ends {f : Fmt} (h : okF f) : 16 ≤ sam f ∧ sam f ≤ 128 ∧ 7 ≤ pay f ∧ pay f ≤ 512 ∧ bitF f ≤ 8 * pay f := by
  rcases h with ⟨hc, h0, h1, h2, h3, h4, h5, h6, h6', h6'', h7, h7', h8⟩ | ⟨hc, h0, h1, h2, h3, h4⟩
  · unfold sam pay bitF
    rw [if_pos hc, if_pos hc, if_pos hc]
    have hl : 56 ≤ bitS f := by
      unfold bitS
      rcases h2 with h | h <;> rcases h1 with h' | h' <;> rcases h3 with h'' | h'' | h'' | h'' <;> rw [h, h', h''] <;> split <;> omega
    refine ⟨?_, ?_, by omega, by omega, by omega⟩ <;> rcases h2 with h | h <;> rcases h3 with h'' | h'' | h'' | h'' <;> rw [h, h''] <;> omega
  · unfold sam pay bitF
    rw [if_neg (by omega), if_neg (by omega), if_neg (by omega)]
    rcases h1 with h | h <;> rw [h] <;> omega

/-- with more pool, with more bytes -/
def more (f : Fmt) : Fmt := { f with p := if f.c = 1 then f.p + 1 else 0, y := if f.c = 1 then 0 else f.y + 1 }
theorem more_pay {f : Fmt} (h : okF f) (h' : okF (more f)) : pay f ≤ pay (more f) := by
  rcases h with ⟨hc, h0, h1, h2, h3, h4, h5, h6, h6', h6'', h7, h7', h8⟩ | ⟨hc, h0, h1, h2, h3, h4⟩
  · unfold pay
    rw [if_pos hc, if_pos (show (more f).c = 1 from hc)]
    have : bitS f ≤ bitS (more f) := by
      unfold bitS more
      simp only [hc, if_true]
      rcases h3 with h | h | h | h <;> rw [h] <;> omega
    omega
  · unfold pay
    rw [if_neg (by omega), if_neg (show ¬ (more f).c = 1 by show ¬ f.c = 1; omega)]
    unfold more
    simp only [hc]
    rcases h1 with h | h <;> rw [h] <;> simp <;> omega

end M
end Go.Proofs.YthlpbekfjolenaaDoor
