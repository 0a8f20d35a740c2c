/-
  The walk of the law of what is found in any bytes, by any tables. Conditions: the bytes and the symbols stand in memory.
-/
import Derived.Test.YtknolfpjhfpfaaaArithNil
import Derived.Test.YtknolfpjhfpfaaaArithAny
import Derived.Test.YtknolfpjhfpfaaaBitsOf
namespace Go.Proofs.Ytknolfpjhfpfaaa
set_option linter.unusedVariables false
open Go.RowKit
namespace Ari
open Bits (Blk But add_at wrap_id bytesL bitsL)
open Num (Ints)

theorem given_bits {w : World} {v : Value} {xs : List Nat} (h : Byt.Given w v xs) : Bits.Given w v xs := by
  obtain ⟨a, c, rfl, hl, hv, hnil, h⟩ := h
  exact ⟨a, c, rfl, hv, fun e => ⟨List.eq_nil_of_length_eq_zero (by have := hnil e; omega), hnil e⟩, h⟩
theorem ints_blk {w w' : World} {a : Option Addr} {n c : Nat} {xs : List Int} (h : Ints w (.slice a n c) xs) (hk : ∀ ad, a = some ad → w'.heap[ad.block]? = w.heap[ad.block]?) (hs : w.heap.size ≤ w'.heap.size) : Ints w' (.slice a n c) xs := by
  obtain ⟨a', c', he, hl, hv, hnil, h | ⟨b, off, ha, hb, hx⟩⟩ := h
  · exact ⟨a', c', he, hl, hv, hnil, .inl h⟩
  · cases he
    refine ⟨a, c, rfl, hl, hv, hnil, .inr ⟨b, off, ha, by omega, fun i x hi => ?_⟩⟩
    have e : w'.heap[b]? = w.heap[b]? := hk ⟨b, off, none⟩ ha
    exact (World.cell?_of_block (w := w) (a := ⟨b, off + i, none⟩) e).trans (hx i x hi)
/-- bits in memory as they stay while blocks f and g turn -/
def RKept (w : World) (s : Value) (B : Nat → Bool) (f g : Nat) : Prop := ∀ w', But f g w w' → RBits w' s B
/-- the document's bits of bytes, only read from now on -/
theorem bits_of {w w' : World} {xs : List Nat} (h : Bits.Part w (bitsL xs) (8 * xs.length) w') (hl : xs.length ≤ 512) :
    ∃ sa sc, w'.cell? ⟨w.heap.size, 0, none⟩ = some (.slice sa (8 * xs.length) sc) ∧ RBits w' (.slice sa (8 * xs.length) sc) (bitsL xs) ∧ Below w.heap.size w w' ∧ ∀ ad, sa = some ad → w.heap.size < ad.block ∧ ad.block < w'.heap.size := by
  obtain ⟨s, hblk, hown, bel, hsz⟩ := h
  obtain ⟨sa, sc, rfl⟩ := Bits.own_form hown
  refine ⟨sa, sc, hblk.cell rfl, ⟨(List.range (8 * xs.length)).map (bitsL xs), ?_, by simp; omega, fun i => ?_⟩, bel, fun ad had => ?_⟩
  · refine Num.ints_own (base := w.heap.size + 1) ?_ (fun x hx => ?_)
    · have e : ((List.range (8 * xs.length)).map (bitsL xs)).map (fun b => ((b.toNat : Nat) : Int)) = (List.range (8 * xs.length)).map (fun i => (((bitsL xs i).toNat : Nat) : Int)) := by rw [List.map_map]; rfl
      rw [e, List.map_map, List.length_map, List.length_range]
      exact hown
    · obtain ⟨b, _, rfl⟩ := List.mem_map.1 hx
      have := Bool.toNat_le b
      omega
  · by_cases hi : i < 8 * xs.length
    · simp [List.getD, hi]
    · rw [bitsL_out xs i (by omega)]
      simp [List.getD, List.getElem?_eq_none (show ((List.range (8 * xs.length)).map (bitsL xs)).length ≤ i by simp; omega)]
  · obtain ⟨_, ⟨he, _⟩ | ⟨g, cap, cur, he, hg, hh, _⟩⟩ := hown
    · rw [had] at he; simp at he
    · rw [had] at he
      simp at he
      obtain ⟨rfl, _⟩ := he
      have : g < w'.heap.size := (Array.getElem?_eq_some_iff.1 hh).1
      show w.heap.size < g ∧ g < w'.heap.size
      omega
/-- behind the last bit all places are alike -/
theorem from_same (xs : List Nat) (n : Int) (hl : xs.length ≤ 512) : from_ (bitsL xs) (rfrOf n) = from_ (bitsL xs) (frOf n) := by
  unfold from_ rfrOf frOf
  funext i
  by_cases h0 : n < 0
  · rw [if_pos h0, if_pos h0]
  · rw [if_neg h0, if_neg h0]
    by_cases h1 : 4096 < n
    · rw [if_pos h1, bitsL_out xs (4096 + i) (by omega), bitsL_out xs _ (by split <;> omega)]
    · rw [if_neg h1, if_neg (by omega)]

set_option maxRecDepth 100000 in
set_option maxHeartbeats 4000000 in
theorem finds_main (v u : Value) (xs : List Nat) (n : Int) (zs : List One) (w : World) (hb : Byt.Given w v xs) (hz : Ones w u zs) (hn : Near zs) (h1 : xs.length ≤ 512) :
    Calls Try.prog 4 #[v, .int .i64 n, u] w fun e w' => e = .returned (.bool true) ∧ Below w.heap.size w w' := by
  have hFar := fun w h => far_any u zs w h
  rw [show (!nearB zs) = false by rw [nearB_pos hn]; rfl] at hFar
  have hO := fun w h => open_eye v xs w h h1
  have hOf := fun w h => Bits.Of_any v xs w h h1
  have hN1 := fun e w he => NewFinder_any e n w.heap.size (bitsL xs) w he (Nat.le_refl _)
  have hN2 := fun s w hs => rNewFinder_any s n (bitsL xs) w hs
  rw [from_same xs n h1] at hN2
  have hg0 := M.Fnd.Good.new (from_ (bitsL xs) (frOf n))
  have hr0 : (M.Fnd.new (from_ (bitsL xs) (frOf n))).r = 16 := rfl
  have hfl : frOf n ≤ 4096 := by unfold frOf; split; omega; split <;> omega
  have hrl := rfr_le n
  have hsame := from_same xs n h1
  obtain ⟨x0, hx0⟩ : ∃ x0, x0 = M.Fnd.new (from_ (bitsL xs) (frOf n)) := ⟨_, rfl⟩
  rw [← hx0] at hN1 hN2 hg0 hr0
  clear hx0
  obtain ⟨fr, hfr⟩ : ∃ fr, fr = frOf n := ⟨_, rfl⟩
  obtain ⟨rf, hrf⟩ : ∃ rf, rf = rfrOf n := ⟨_, rfl⟩
  rw [← hfr] at hN1 hfl hsame
  rw [← hrf] at hN2 hrl hsame
  clear hfr hrf
  obtain ⟨a, c, rfl, hc⟩ := hb.form
  obtain ⟨a2, c2, rfl⟩ := hz.form
  have i1 : ¬ (512 : Int) < xs.length := by omega
  have hlen := hn.1
  have hnear := hn.2
  go_enter Try.func4, Try.ntmps4
  go_wp2_with (first
    | (go_at_call 8; refine (alive_any _).mono ?_; rintro e wa ⟨rfl, bela⟩; have hbA := hb.below bela (Nat.le_refl _); have hzA := hz.below bela (Nat.le_refl _); have sA := bela.size)
    | (go_at_call 9; refine (hFar _ hzA).mono ?_; clear hFar; rintro e w' ⟨rfl, hw⟩; rw [hw]; clear hw w')
    | (go_at_call 21; refine (hO _ hbA).mono ?_; clear hO; rintro e w1 ⟨p, rfl, bel1, hE1⟩; have s1 := bel1.size)
    | (go_at_call 22; refine (hN1 _ w1 hE1).mono ?_; clear hN1; rintro e w2 ⟨f, rfl, lf, bel2, F2⟩; have s2 := bel2.size; have uf : f < w2.heap.size := (Blk.lt F2); have bel02 : Below w.heap.size w w2 := bela.trans ((Bits.Below.less bel1 sA).trans (Bits.Below.less bel2 (by omega))); have hb2 := hb.below bel02 (Nat.le_refl _))
    | (go_at_call 24; refine (hOf _ (given_bits hb2)).mono ?_; clear hOf; rintro e w3 ⟨rfl, hP⟩; obtain ⟨sa, sc, k3, hR3, bel3, hsb⟩ := bits_of hP h1; clear hP; have s3 := bel3.size)
    | (go_at_call 23; refine (hN2 _ w3 hR3).mono ?_; clear hN2; rintro e w4 ⟨g, rfl, lg, bel4, G4⟩))
  have s4 := bel4.size
  have ug : g < w4.heap.size := Blk.lt G4
  have F4 := (F2.below bel3 uf).below bel4 (by omega)
  have hE4 := ((hE1.below bel2 (Nat.le_refl _)).below bel3 (by omega)).below bel4 (by omega)
  have hfg : f ≠ g := by omega
  have bel03 : Below w.heap.size w w3 := bel02.trans (Bits.Below.less bel3 (by omega))
  have bel04 : Below w.heap.size w w4 := bel03.trans (Bits.Below.less bel4 (by omega))
  have hR4 : ∀ w', But f g w4 w' → RBits w' (.slice sa (8 * xs.length) sc) (bitsL xs) := fun w' bt => by
    obtain ⟨l, hI, hl, hB⟩ := hR3
    refine ⟨l, ints_blk hI (fun ad had => ?_) (by have := bt.size; omega), hl, hB⟩
    obtain ⟨q1, q2⟩ := hsb ad had
    exact (bt.block ad.block (by omega) (by omega) (by omega)).trans (bel4.block ad.block q2)
  clear F2 k3
  go_loopw [11] (fun i wr => ∃ (j : Nat) (x : M.Fnd), j ≤ zs.length ∧ i = .int .i64 j ∧ x.Good ∧ x.r ≤ 16 + 14 * j ∧ But f g w4 wr ∧ FndAt wr f (.pointer (some ⟨p, 0, none⟩)) fr x ∧ RFndAt wr g (.slice sa (8 * xs.length) sc) rf x) (fun i _ => zs.length - (intOf i).toNat)
  case atStart => exact ⟨0, _, by omega, rfl, hg0, by omega, But.refl _ _ _, F4, G4⟩
  case round =>
    clear F4 G4 hg0 hr0
    obtain ⟨j, x, hj, rfl, hx, hr, btr, hF, hG⟩ := hrel
    have bel4r : Below w.heap.size w4 wr := btr.below (by omega) (by omega) (by omega)
    have belr : Below w.heap.size w wr := bel04.trans bel4r
    by_cases hlt : j < zs.length
    · obtain ⟨⟨t, s⟩, hzj⟩ : ∃ z, zs[j]? = some z := ⟨_, List.getElem?_eq_getElem hlt⟩
      have htl : t.length ≤ 100 := hnear (t, s) (List.mem_of_getElem? hzj)
      obtain ⟨b0, off, rfl, hb0, a', c', k0, k1, hT⟩ := hz.cell hzj
      have r0 : wr.cell? ⟨b0, off + j * 2, none⟩ = some (.slice a' t.length c') := (belr.cell hb0).trans k0
      have hTr := hT.below belr (Nat.le_refl _)
      have hEr := hE4.below (btr.below (B := w1.heap.size) lf (by omega) (by omega)) (Nat.le_refl _)
      have hA := Get_any f w1.heap.size fr (.pointer (some ⟨p, 0, none⟩)) (.slice a' t.length c') x t (bitsL xs) wr hF hEr lf hx hfl (by omega) hTr (by omega)
      have hB := fun w' (h : RFndAt w' g (.slice sa (8 * xs.length) sc) rf x) (b : Below w.heap.size w w') (hk : But f g w4 w') => rGet_any g rf (.slice sa (8 * xs.length) sc) (.slice a' t.length c') x t (bitsL xs) w' h (fun w'' b'' => hR4 w'' (hk.trans (b''.mono (.inr rfl) (.inr rfl)))) hx hrl (by omega) (hT.below b (Nat.le_refl _)) (by omega)
      rw [hsame] at hB
      obtain ⟨hx2, _, hr2⟩ := getX_good hx t (from_ (bitsL xs) fr)
      have fst : ∀ w5, But f f wr w5 → RFndAt w5 g (.slice sa (8 * xs.length) sc) rf x ∧ Below w.heap.size w w5 ∧ But f g w4 w5 ∧ w5.cell? ⟨b0, off + j * 2, none⟩ = some (.slice a' t.length c') := fun w5 b5 => by
        have bl : Below w.heap.size wr w5 := b5.below (by omega) (by omega) belr.size
        exact ⟨hG.but b5 (Ne.symm hfg), belr.trans bl, btr.trans (b5.mono (.inl rfl) (.inl rfl)), (bl.cell hb0).trans r0⟩
      have hRd := fun w' h => Read_any f fr (.pointer (some ⟨p, 0, none⟩)) (getX (from_ (bitsL xs) fr) x t) w' h
      have hR5 : ∀ w', RFndAt w' g (.slice sa (8 * xs.length) sc) rf (getX (from_ (bitsL xs) fr) x t) → w'.cell? ⟨g, 5, none⟩ = some (.int .i64 (getX (from_ (bitsL xs) fr) x t).r) := fun w' h => (RF.cells h).2.2.2.2.2.1
      obtain ⟨S, hS⟩ : ∃ S, S = getS x t := ⟨_, rfl⟩
      obtain ⟨E, hE⟩ : ∃ E, E = getE t := ⟨_, rfl⟩
      obtain ⟨y, hy⟩ : ∃ y, y = getX (from_ (bitsL xs) fr) x t := ⟨_, rfl⟩
      rw [← hS, ← hE, ← hy] at hA hB
      rw [← hy] at hx2 hr2 hRd hR5
      obtain ⟨q, hq⟩ : ∃ q, q = y.r := ⟨_, rfl⟩
      rw [← hq] at hRd hR5 hr2
      have hq' : Hid (q = y.r) := hq
      clear hS hE hy hq k0 k1
      have i2 : (0 : Int) ≤ j := by omega
      have i3 : (j : Int) < zs.length := by omega
      go_wp2_with (first
        | (go_at_call 25; refine hA.mono ?_; clear hA; rintro e w5 ⟨rfl, b5, F5⟩; obtain ⟨G5, bel5, bt5, z5⟩ := fst w5 b5)
        | (go_at_call 26; refine (hB w5 G5 bel5 bt5).mono ?_; clear hB; rintro e w6 ⟨rfl, b6, G6⟩; have F6 := F5.but b6 hfg; have z6 := hR5 w6 G6))
      go_quiet (first | (go_at_call 27; exact Calls.quiet_of_same (hRd _ (by exact F6))))
      go_wp2
      go_roundw
      case rel => exact ⟨j + 1, y, by omega, by go_num, hx2, by have : q = y.r := hq'; omega, (bt5.trans (b6.mono (.inr rfl) (.inr rfl))).drewN _, F6, G6⟩
      case measure => simp [intOf]; omega
    · obtain rfl : j = zs.length := by omega
      go_wp2
      go_ret
      exact ⟨rfl, belr⟩

theorem ArithFinds_walk (v u : Value) (xs : List Nat) (n : Int) (zs : List One) (w : World) (hb : Byt.Given w v xs) (hz : Ones w u zs) :
    Calls Try.prog 4 #[v, .int .i64 n, u] w fun e w' => e = .returned (.bool true) ∧ Below w.heap.size w w' := by
  by_cases hn : Near zs
  · by_cases h1 : xs.length ≤ 512
    · exact finds_main v u xs n zs w hb hz hn h1
    · have hFar := fun w h => far_any u zs w h
      rw [show (!nearB zs) = false by rw [nearB_pos hn]; rfl] at hFar
      obtain ⟨a, c, rfl, hc⟩ := hb.form
      obtain ⟨a2, c2, rfl⟩ := hz.form
      have i1 : (512 : Int) < xs.length := by omega
      go_enter Try.func4, Try.ntmps4
      go_wp2_with (first
        | (go_at_call 8; refine (alive_any _).mono ?_; rintro e wa ⟨rfl, bela⟩; have hzA := hz.below bela (Nat.le_refl _))
        | (go_at_call 9; refine (hFar _ hzA).mono ?_; clear hFar; rintro e w' ⟨rfl, hw⟩; rw [hw]; clear hw w'))
      go_ret
      exact ⟨rfl, bela⟩
  · have hFar := fun w h => far_any u zs w h
    rw [show (!nearB zs) = true by rw [nearB_neg hn]; rfl] at hFar
    obtain ⟨a, c, rfl, hc⟩ := hb.form
    obtain ⟨a2, c2, rfl⟩ := hz.form
    go_enter Try.func4, Try.ntmps4
    go_wp2_with (first
      | (go_at_call 8; refine (alive_any _).mono ?_; rintro e wa ⟨rfl, bela⟩; have hzA := hz.below bela (Nat.le_refl _))
      | (go_at_call 9; refine (hFar _ hzA).mono ?_; clear hFar; rintro e w' ⟨rfl, hw⟩; rw [hw]; clear hw w'))
    go_ret
    exact ⟨rfl, bela⟩

end Ari
end Go.Proofs.Ytknolfpjhfpfaaa
