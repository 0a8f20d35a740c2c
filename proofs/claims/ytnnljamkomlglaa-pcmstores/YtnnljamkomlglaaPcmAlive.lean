/-
  The chapter's example: alive answers true. Conditions: none.
-/
import Derived.Test.YtnnljamkomlglaaPcmLists
import Derived.Test.YtnnljamkomlglaaPcmRef
namespace Go.Proofs.Ytnnljamkomlglaa
set_option linter.unusedVariables false
open Go.RowKit
namespace Pcm
open Bank (Blk But)
open Poly

theorem same16b (lo1 hi1 lo2 hi2 : Nat) (v1 v2 : Value) (xs : List Int) (w : World) (h1 : Reads .i16 lo1 hi1 w v1 xs) (h2 : Reads .i16 lo2 hi2 w v2 xs) (hl : xs.length ≤ 1000000) :
    Calls Try.prog 13 #[v1, v2] w fun e w' => e = .returned (.bool true) ∧ Below w.heap.size w w' ∧ w'.heap.size = w.heap.size := by
  refine (same16 lo1 hi1 lo2 hi2 v1 v2 xs w h1 h2 hl).mono ?_
  rintro e w' ⟨rfl, m, rfl⟩
  exact ⟨rfl, below_drewN (Below.refl _ _) m, rfl⟩

theorem lit_reads (w : World) (xs : List Int) (h : M.fits16 xs) : Reads .i16 w.heap.size (w.heap.size + 1) (w.alloc (.cells (enc .i16 xs).toArray 51)) (.slice (some ⟨w.heap.size, 0, none⟩) xs.length xs.length) xs :=
  reads_blk (Blk.new w _ _) (fit16.2 h)
theorem below_new (w : World) (o : Obj) : Below w.heap.size w (w.alloc o) := (Below.refl _ _).alloc (Nat.le_refl _) _

set_option maxRecDepth 100000 in
set_option maxHeartbeats 2000000 in
theorem alive_any (w : World) : Calls Try.prog 7 #[] w fun e w' => e = .returned (.bool true) ∧ Below w.heap.size w w' := by
  have f4 : M.fits16 [1, 2, 3, 4] := by intro z hz; simp at hz; omega
  have hL : ∀ xs, M.fits16 xs → ∀ wx : World, Reads .i16 wx.heap.size (wx.heap.size + 1) (wx.alloc (.cells (enc .i16 xs).toArray 51)) (.slice (some ⟨wx.heap.size, 0, none⟩) xs.length xs.length) xs := fun xs h wx => lit_reads wx xs h
  have L0 : Reads .i16 w.heap.size (w.heap.size + 1) (w.alloc (.cells #[.int .i16 1, .int .i16 2, .int .i16 3, .int .i16 4] 51)) (.slice (some ⟨w.heap.size, 0, none⟩) 4 4) [1, 2, 3, 4] := hL [1, 2, 3, 4] f4 w
  have L1 : ∀ wx : World, Reads .i16 wx.heap.size (wx.heap.size + 1) (wx.alloc (.cells #[.int .i16 1, .int .i16 3] 51)) (.slice (some ⟨wx.heap.size, 0, none⟩) 2 2) [1, 3] := hL [1, 3] (by intro z hz; simp at hz; omega)
  have L2 : ∀ wx : World, Reads .i16 wx.heap.size (wx.heap.size + 1) (wx.alloc (.cells #[.int .i16 2, .int .i16 4] 51)) (.slice (some ⟨wx.heap.size, 0, none⟩) 2 2) [2, 4] := hL [2, 4] (by intro z hz; simp at hz; omega)
  have L3 : ∀ wx : World, Reads .i16 wx.heap.size (wx.heap.size + 1) (wx.alloc (.cells #[.int .i16 5] 51)) (.slice (some ⟨wx.heap.size, 0, none⟩) 1 1) [5] := hL [5] (by intro z hz; simp at hz; omega)
  have L4 : ∀ wx : World, Reads .i16 wx.heap.size (wx.heap.size + 1) (wx.alloc (.cells #[.int .i16 5, .int .i16 0] 51)) (.slice (some ⟨wx.heap.size, 0, none⟩) 2 2) [5, 0] := hL [5, 0] (by intro z hz; simp at hz; omega)
  have hPart := Part_ok w.heap.size (w.heap.size + 1) 2 2 _ [1, 2, 3, 4] _ L0 (by simp) (by simp) (.inr rfl) rfl
  rw [show M.chs 2 [1, 2, 3, 4] 2 = [[1, 3], [2, 4]] from rfl, show ((2 : Nat) : Int) = 2 from rfl, alloc_size] at hPart
  have hPart' : Calls Try.prog 8 #[.slice (some ⟨w.heap.size, 0, none⟩) 4 4, .int .i64 2] (w.alloc (.cells #[.int .i16 1, .int .i16 2, .int .i16 3, .int .i16 4] 51)) fun e w1 => ∃ b off c a0 c0 a1 c1, e = .returned (.tuple #[.slice (some ⟨b, off, none⟩) 2 c, .int .i64 0]) ∧ b < w1.heap.size ∧ w1.cell? ⟨b, off, none⟩ = some (.slice a0 2 c0) ∧ w1.cell? ⟨b, off + 1, none⟩ = some (.slice a1 2 c1) ∧
      Reads .i16 0 w1.heap.size w1 (.slice a0 2 c0) [1, 3] ∧ Reads .i16 0 w1.heap.size w1 (.slice a1 2 c1) [2, 4] ∧ Below w.heap.size w w1 := by
    refine hPart.mono ?_
    rintro e w1 ⟨v, rfl, hr, hbel⟩
    obtain ⟨a, c, rfl, _⟩ := hr.form
    obtain ⟨b, off, rfl, k0, k1, hx⟩ := hr.cell (by simp)
    obtain ⟨u0, hu0, r0⟩ := hx 0 (by simp)
    obtain ⟨u1, hu1, r1⟩ := hx 1 (by simp)
    have r0 : Reads .i16 _ _ w1 u0 [1, 3] := r0
    have r1 : Reads .i16 _ _ w1 u1 [2, 4] := r1
    obtain ⟨a0, c0, rfl⟩ := r0.form
    obtain ⟨a1, c1, rfl⟩ := r1.form
    exact ⟨b, off, c, a0, c0, a1, c1, rfl, k1, hu0, hu1, r0.mono (Nat.zero_le _) (Nat.le_refl _), r1.mono (Nat.zero_le _) (Nat.le_refl _), (below_new w _).trans (Bits.Below.less hbel (by omega))⟩
  have HL1 : Hid _ := L1
  have HL2 : Hid _ := L2
  have HL3 : Hid _ := L3
  have HL4 : Hid _ := L4
  clear f4 hL L0 L1 L2 L3 L4 hPart
  go_enter Try.func7, Try.ntmps7
  go_wp2_with (first
    | (go_at_call 8; refine hPart'.mono ?_; clear hPart'; rintro e w1 ⟨b, off, c, a0, c0, a1, c1, rfl, hb, z0, z1, r0, r1, bel1⟩; have HB1 : Hid (Below _ _ _) := bel1; clear bel1)
    | (go_at_call 16; refine (NewStore_ok 2 w1 (by decide) (by decide)).mono ?_; rintro e w2 ⟨rfl, S2, bel2, sz2⟩
       have y0 : w2.cell? ⟨b, off, none⟩ = some (.slice a0 2 c0) := (bel2.cell hb).trans z0
       have y1 : w2.cell? ⟨b, off + 1, none⟩ = some (.slice a1 2 c1) := (bel2.cell hb).trans z1
       have r02 := (r0.below bel2 (Nat.le_refl _)).mono (Nat.le_refl _) bel2.size
       have r12 := (r1.below bel2 (Nat.le_refl _)).mono (Nat.le_refl _) bel2.size
       have hb2 : b < w2.heap.size := Nat.lt_of_lt_of_le hb bel2.size
       have HS2 : Hid (Sto _ _ _ _ _) := S2
       have HB2 : Hid (Below _ _ _) := bel2
       have HR0 : Hid (Reads _ _ _ _ _ _) := r02
       have HR1 : Hid (Reads _ _ _ _ _ _) := r12
       have y0A : (w2.alloc (.cells #[.int .i16 1, .int .i16 3] 51)).cell? ⟨b, off, none⟩ = some (.slice a0 2 c0) := ((below_new w2 _).cell hb2).trans y0
       have HY1 : Hid (w2.cell? ⟨b, off + 1, none⟩ = some (.slice a1 2 c1)) := y1
       clear z0 z1 r0 r1 r02 r12 S2 bel2 sz2 y1 hb)
    | (go_at_call 13; refine (same16b _ _ _ _ _ _ [1, 3] _ (HR0.out.below (below_new w2 _) (Nat.le_refl _)) (HL1.out w2) (by decide)).mono ?_; clear HL1; rintro e w3 ⟨rfl, bel3, sz3⟩
       rw [alloc_size] at bel3 sz3
       have b3 : Below w2.heap.size w2 w3 := (below_new w2 _).trans (Bits.Below.less bel3 (by omega))
       have HS3 : Hid (Sto w3 _ _ _ _) := HS2.out.below b3 (Nat.le_refl _)
       have HR3 : Hid (Reads _ _ _ w3 _ _) := (HR1.out.below b3 (Nat.le_refl _)).mono (Nat.le_refl _) b3.size
       have y1 : w3.cell? ⟨b, off + 1, none⟩ = some (.slice a1 2 c1) := (b3.cell hb2).trans HY1.out
       have hb3 : b < w3.heap.size := Nat.lt_of_lt_of_le hb2 b3.size
       have y1A : (w3.alloc (.cells #[.int .i16 2, .int .i16 4] 51)).cell? ⟨b, off + 1, none⟩ = some (.slice a1 2 c1) := ((below_new w3 _).cell hb3).trans y1
       have HB3 : Hid (Below _ _ _) := b3
       clear bel3 sz3 b3 y0 y0A)
    | (go_at_call 13; refine (same16b _ _ _ _ _ _ [2, 4] _ (HR3.out.below (below_new w3 _) (Nat.le_refl _)) (HL2.out w3) (by decide)).mono ?_; clear HL2; rintro e w4 ⟨rfl, bel4, sz4⟩
       rw [alloc_size] at bel4 sz4
       have b4 : Below w3.heap.size w3 w4 := (below_new w3 _).trans (Bits.Below.less bel4 (by omega))
       have HS4 : Hid (Sto (w4.alloc (.cells #[.int .i16 5] 51)) _ _ _ _) := (HS3.out.below b4 (Nat.le_refl _)).below (below_new w4 _) (Nat.le_refl _)
       have HB4 : Hid (Below _ _ _) := b4
       clear bel4 sz4 b4 y1 y1A HS3 HS2)
    | (go_at_call 17; refine (Put_ok _ _ _ _ _ _ _ [5] _ HS4.out (HL3.out w4) (by decide)).mono ?_; clear HL3; rintro e w5 ⟨rfl, r5, S5, B5, hr5⟩; have HS5 : Hid (Sto _ _ _ _ _) := S5; have HB5 : Hid (Bits.But _ _ _ _) := B5; clear S5 B5 hr5)
    | (go_at_call 19; refine (Take_all _ _ _ 2 2 _ _ HS5.out (by decide)).mono ?_; rintro e w6 ⟨v6, rfl, R6, S6, B6⟩; have HR6 : Hid (Reads _ _ _ _ _ _) := R6; have HB6 : Hid (But _ _ _) := B6; clear R6 S6 B6)
    | (go_at_call 13; refine (same16b _ _ _ _ _ _ [5, 0] _ (HR6.out.below (below_new w6 _) (Nat.le_refl _)) (HL4.out w6) (by decide)).mono ?_; rintro e w7 ⟨rfl, bel7, sz7⟩; rw [alloc_size] at bel7 sz7; have HB7 : Hid (Below w6.heap.size w6 w7) := (below_new w6 _).trans (Bits.Below.less bel7 (by omega)); clear bel7 sz7))
  go_ret
  have s1 := HB1.out.size
  have s2 := HB2.out.size
  have s3 := HB3.out.size
  have s4 := HB4.out.size
  have s5 := HB5.out.size
  have s6 := HB6.out.size
  rw [alloc_size] at s5
  have u1 := HB1.out
  have u2 := u1.trans (Bits.Below.less HB2.out s1)
  have u3 := u2.trans (Bits.Below.less HB3.out (by omega))
  have u4 := u3.trans (Bits.Below.less HB4.out (by omega))
  have u5 := u4.trans (Bits.Below.less (below_new w4 (.cells #[.int .i16 5] 51)) (by omega))
  have u6 := u5.trans (HB5.out.below (B := w.heap.size) s1 s1 (by rw [alloc_size]; omega))
  have u7 := u6.trans (HB6.out.below (B := w.heap.size) s1 (by omega))
  exact ⟨rfl, u7.trans (Bits.Below.less HB7.out (by omega))⟩

end Pcm
end Go.Proofs.Ytnnljamkomlglaa
