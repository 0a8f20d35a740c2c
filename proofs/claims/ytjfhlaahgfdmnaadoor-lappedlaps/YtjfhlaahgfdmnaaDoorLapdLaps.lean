/-
  The walk of LappedLaps. Conditions: as the law has them; the polynomial stands.
-/
import Derived.Test.YtjfhlaahgfdmnaaDoorLapdAlive
import Derived.Test.YtjfhlaahgfdmnaaDoorLapdRefL
namespace Go.Proofs.YtjfhlaahgfdmnaaDoor
set_option linter.unusedVariables false
open Go.RowKit
namespace Lapd
open Bank (Blk But)
open Poly (Reads enc enc_get enc_length enc_rep enc_one fit16 fit32 wf64 wf32 Gat reads_blk reads_own cell_keep below_but below_drewN below_drew alloc_size make16 make32 zeros16 zeros32 same16 same32 reads_new16 reads_new32)

/-- between the rounds of LappedLaps -/
def InvL (n lo gl : Nat) (vo : Value) (o : List Int) (w wr : World) : Prop :=
  Lap lo gl n o wr ∧ (∃ r0 r1, Reads .i16 r0 r1 wr vo o ∧ gl + 2 ≤ r0 ∧ r1 ≤ wr.heap.size) ∧ w.heap.size ≤ lo ∧ Below w.heap.size w wr

theorem stepL {n lo gl p : Nat} {o l : List Int} {vo vl : Value} {w wr : World} (hn : M.len9 n) (hI : InvL n lo gl vo o w wr) (hl : Reads .i16 0 w.heap.size w vl l) (hp : p < l.length) (hl3 : l.length ≤ 300) :
    Calls Tryd.prog 16 #[vl, .int .i64 p, .int .i64 n] wr fun e w1 => ∃ g, e = .returned (.slice (some ⟨g, 0, none⟩) n n) ∧
      Calls Tryd.prog 17 #[.pointer (some ⟨gl + 1, 0, none⟩), .slice (some ⟨g, 0, none⟩) n n] w1 fun e w2 => ∃ g2, e = .returned (.tuple #[.slice (some ⟨g2, 0, none⟩) n n, .int .i64 0]) ∧
        Calls Tryd.prog 19 #[vo, .slice (some ⟨g, 0, none⟩) n n, .int .i64 n] w2 fun e w3 => ∃ a c, e = .returned (.slice a n c) ∧
          Calls Tryd.prog 18 #[.slice (some ⟨g2, 0, none⟩) n n, .slice a n c] w3 fun e w4 => e = .returned (.bool true) ∧ InvL n lo gl (.slice (some ⟨g, 0, none⟩) n n) (M.pd n l p) w w4 := by
  obtain ⟨hL, ⟨r0, r1, hr, hr0, hr1⟩, hlo, hB⟩ := hI
  have hb := len_bd hn
  have sB := hB.size
  have l1 := hL.2.1
  have l0 := hL.1
  refine (padded_any n p 0 w.heap.size l vl wr (hl.below hB (Nat.le_refl _)) sB hp hl3 (by omega) (by omega)).mono ?_
  rintro e w1 ⟨g, rfl, hg, hs1, hx, bel1⟩
  have s1 := bel1.size
  refine ⟨g, rfl, (feedL hn (hL.below bel1 l1) hx (M.pd_length n l p) (by omega) (.inl (by omega))).mono ?_⟩
  rintro e w2 ⟨g2, rfl, hL2, bt2, hg2, hs2, hr2⟩
  have hro := (hr.below bel1 hr1).but bt2 (by omega) (.inl (by omega))
  have hx2 := hx.but bt2 (by omega) (.inl (by omega))
  refine ⟨g2, rfl, (rLap n (2 * n) (n / 2) (n / 4) (8 * n) r0 r1 g (g + 1) o (M.pd n l p) vo _ w2 (lens_of hn) hro hx2 hL.2.2.2.1 (M.pd_length n l p) (by omega) (by omega)).mono ?_⟩
  rintro e w3 ⟨a, c, rfl, hr3, bel3⟩
  have s3 := bel3.size
  refine ⟨a, c, rfl, (same32 _ _ _ _ _ _ _ _ (Poly.Reads.below hr2 bel3 (by omega)) hr3 (by rw [M.lp_length]; omega)).mono ?_⟩
  rintro e w4 ⟨rfl, m, rfl⟩
  have b1 : Below w.heap.size w w1 := hB.trans (bel1.mono sB)
  have b2 : Below w.heap.size w w2 := below_but b1 bt2 (Nat.le_refl _) (by omega)
  have b3 : Below w.heap.size w w3 := b2.trans (bel3.mono b2.size)
  exact ⟨rfl, (hL2.below bel3 hL2.2.1).drewN m, ⟨g, g + 1, (Poly.Reads.below hx2 bel3 (by omega)).drewN m, by omega, by show g + 1 ≤ w3.heap.size; omega⟩, hlo, below_drewN b3 m⟩

set_option maxRecDepth 100000 in
set_option maxHeartbeats 1000000 in
theorem LappedLaps_walk (u : Int) (u0 : (Lit.int .u8 u).wf = true) (l : List Int) (vl : Value) (w : World) (hT : Wave.Tab w) (hl : Reads .i16 0 w.heap.size w vl l) :
    Calls Tryd.prog 4 #[.int .u8 u, vl] w fun e w' => e = .returned (.bool true) ∧ Below w.heap.size w w' := by
  have hu : 0 ≤ u ∧ u ≤ 255 := by simpa [Lit.wf, IntKind.min, IntKind.max, IntKind.signed, IntKind.bits] using u0
  have hnot : ∀ (x : Bool) (w : World), (Op.unary .not (.bool x)).run Tryd.prog w = .ok (.bool (!x)) w := fun _ _ => rfl
  have HA := alive_any w hT
  have hset : ∀ wa, Below w.heap.size w wa → Calls Tryd.prog 15 #[.int .u8 u] wa fun e w1 => ∃ n : Nat, e = .returned (.int .i64 n) ∧ M.len9 n ∧ Calls Tryd.prog 9 #[] w1 fun e w2 => ∃ bp, e = .returned (.pointer bp) ∧ Calls Tryd.prog 10 #[.pointer bp, .int .i64 n] w2 fun e w3 => ∃ gl, e = .returned (.tuple #[.pointer (some ⟨gl + 1, 0, none⟩), .int .i64 0]) ∧ Below w.heap.size w w3 ∧
      ∃ lo, InvL n lo gl (.slice (some ⟨w3.heap.size, 0, none⟩) n n) (List.replicate n 0) w (w3.alloc (.cells (enc .i16 (List.replicate n 0)).toArray 56)) := by
    intro wa bela
    have sa := bela.size
    refine (length_any u wa hu.1 hu.2).mono ?_
    rintro e w1 ⟨n, rfl, hn, bel1⟩
    have b1 : Below w.heap.size w w1 := bela.trans (bel1.mono sa)
    refine ⟨n, rfl, hn, (madeL hn (tab_b b1 (Nat.le_refl _) hT)).mono ?_⟩
    rintro e w2 ⟨bp, rfl, h⟩
    refine ⟨bp, rfl, h.mono ?_⟩
    rintro e w3 ⟨gl, rfl, hL, s3, bel3⟩
    have b3 : Below w.heap.size w w3 := b1.trans (bel3.mono b1.size)
    have bA : Below w3.heap.size w3 (w3.alloc (.cells (enc .i16 (List.replicate n 0)).toArray 56)) := (Below.refl _ _).alloc (Nat.le_refl _) _
    refine ⟨gl, rfl, b3, w1.heap.size, hL.below bA hL.2.1, ⟨w3.heap.size, w3.heap.size + 1, reads_new16 w3 n, by omega, by rw [alloc_size]; exact Nat.le_refl _⟩, b1.size, b3.alloc b3.size _⟩
  have HSet : Hid _ := hset
  have hmk : ∀ (n : Nat) (wx : World), M.len9 n → (Instr.makeSlice 23 (.int .i64 n) (.int .i64 n)).run Tryd.prog wx = .ok (.slice (some ⟨wx.heap.size, 0, none⟩) n n) (wx.alloc (.cells (enc .i16 (List.replicate n 0)).toArray 56)) := fun n wx hn => make16 wx n (by have := len_bd hn; omega)
  have HMk : Hid _ := hmk
  have HLr : Hid (Reads _ _ _ _ _ _) := hl
  obtain ⟨a, c, rfl⟩ := hl.form
  obtain ⟨L, hL⟩ : ∃ L, l.length = L := ⟨_, rfl⟩
  rw [hL] at HLr ⊢
  have HLe : Hid (l.length = L) := hL
  clear hset hmk hl hL hT hu u0
  by_cases h3 : 300 < L
  · have h3' : (300 : Int) < L := by omega
    go_enter Tryd.func4, Tryd.ntmps4
    go_wp2_with (first
      | (go_at_call 7; refine HA.mono ?_; clear HA; rintro e wa ⟨rfl, bela⟩; have h1 := HSet.out wa bela; clear HSet bela)
      | (go_at_call 15; refine h1.mono ?_; clear h1; rintro e w1 ⟨n, rfl, hn, h2⟩)
      | (go_at_call 9; refine h2.mono ?_; clear h2; rintro e w2 ⟨bp, rfl, h3⟩)
      | (go_at_call 10; refine h3.mono ?_; clear h3; rintro e w3 ⟨gl, rfl, b3, -⟩))
    go_ret
    exact ⟨rfl, b3⟩
  · have h3' : ¬ (300 : Int) < L := by omega
    have hLs : (L : Int) ≤ 300 := by omega
    go_enter Tryd.func4, Tryd.ntmps4
    go_wp2_with (first
      | (go_at_call 7; refine HA.mono ?_; clear HA; rintro e wa ⟨rfl, bela⟩; have h1 := HSet.out wa bela; clear HSet bela)
      | (go_at_call 15; refine h1.mono ?_; clear h1; rintro e w1 ⟨n, rfl, hn, h2⟩; obtain ⟨n0, n1⟩ := len_bd hn; have n0' : (40 : Int) ≤ n := (by omega); have n1' : (n : Int) ≤ 120 := (by omega); have HN : Hid (M.len9 n) := hn; clear hn n0 n1)
      | (go_at_call 9; refine h2.mono ?_; clear h2; rintro e w2 ⟨bp, rfl, h3⟩)
      | (go_at_call 10; refine h3.mono ?_; clear h3; rintro e w3 ⟨gl, rfl, b3, lo, hI⟩; have hmk := HMk.out n w3 HN.out; have HI : Hid _ := hI; generalize (enc .i16 (List.replicate n 0)).toArray = cs at hmk HI; clear hI HMk b3))
    go_loopw [8, 9] (fun v i wr => ∃ (p : Nat) (o : List Int), i = .int .i64 p ∧ p ≤ 420 ∧ InvL n lo gl v o w wr) (fun _ i _ => 1000 - (intOf i).toNat)
    case atStart => exact ⟨0, _, rfl, by omega, HI.out⟩
    case round =>
      clear HI hmk
      obtain ⟨p, o, rfl, hp, hI⟩ := hrel
      by_cases hlt : p < L
      · have hlt' : (p : Int) < L := by omega
        have hst := stepL HN.out hI HLr.out (by rw [HLe.out]; exact hlt) (by rw [HLe.out]; omega)
        clear hI
        go_wp2_with (first
          | (go_at_call 16; refine hst.mono ?_; clear hst; rintro e w4 ⟨g, rfl, h4⟩)
          | (go_at_call 17; refine h4.mono ?_; clear h4; rintro e w5 ⟨g2, rfl, h5⟩)
          | (go_at_call 19; refine h5.mono ?_; clear h5; rintro e w6 ⟨a6, c6, rfl, h6⟩)
          | (go_at_call 18; refine h6.mono ?_; clear h6; rintro e w7 ⟨rfl, hI⟩; have HI : Hid _ := hI; clear hI))
        go_roundw
        case rel => exact ⟨p + n, _, by go_num, by omega, HI.out⟩
        case measure => simp [intOf]; omega
      · have hlt' : ¬ (p : Int) < L := by omega
        have HB : Hid (Below _ _ _) := hI.2.2.2
        clear hI
        go_wp2
        go_ret
        exact ⟨rfl, HB.out⟩

end Lapd
end Go.Proofs.YtjfhlaahgfdmnaaDoor
