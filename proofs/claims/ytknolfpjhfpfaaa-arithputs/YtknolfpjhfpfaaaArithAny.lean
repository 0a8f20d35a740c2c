/-
  The walk of the law that a finder finds one of a table's symbols in any bits. Conditions: the bytes and the table stand in memory.
-/
import Derived.Test.YtknolfpjhfpfaaaArithLaws
namespace Go.Proofs.Ytknolfpjhfpfaaa
set_option linter.unusedVariables false
open Go.RowKit
namespace Ari
open Bits (Blk But add_at wrap_id bytesL bitsL)
open Num (Ints)

theorem src_of_given {w : World} {v : Value} {xs : List Nat} (h : Byt.Given w v xs) : Bits.Src w v xs := by
  obtain ⟨a, c, rfl, hl, hv, hnil, h | ⟨b, off, ha, hb, hx⟩⟩ := h
  · cases a with
    | none => rw [hnil rfl]; subst h; exact .inl ⟨rfl, rfl⟩
    | some a => subst h; exact .inr ⟨a, c, rfl, fun i x hi => by simp at hi⟩
  · subst ha
    refine .inr ⟨_, c, rfl, fun i x hi => ?_⟩
    rw [Go.WideShapes.add_plain]
    exact hx i x hi
theorem bitsL_out (xs : List Nat) (i : Nat) (h : 8 * xs.length ≤ i) : bitsL xs i = false := by
  unfold bitsL M.bitsOf
  have : xs.getD (i / 8) 0 = 0 := by unfold List.getD; rw [List.getElem?_eq_none (by omega)]; rfl
  simp only [this, Nat.zero_testBit]
theorem getD_lt {xs : List Nat} (h : ∀ x ∈ xs, x < 256) (i : Nat) : xs.getD i 0 < 256 := by
  unfold List.getD
  cases e : xs[i]? with
  | none => simp
  | some x => simpa using h x (List.mem_of_getElem? e)

theorem open_eye (v : Value) (xs : List Nat) (w : World) (h : Byt.Given w v xs) (hl : xs.length ≤ 512) :
    Calls Try.prog 21 #[v] w fun e w' => ∃ p, e = .returned (.tuple #[.pointer (some ⟨p, 0, none⟩), .int .i64 0]) ∧ Below w.heap.size w w' ∧ EyeAt w' (.pointer (some ⟨p, 0, none⟩)) w'.heap.size (bitsL xs) := by
  refine (Bits.Open_ok v xs (bitsL xs) w (src_of_given h) hl fun i hi => (M.byteOf_bitsOf (fun i => xs.getD i 0) i (getD_lt h.lt i)).symm).mono fun e w' ⟨p, b, c, d, he, l1, l2, l3, l4, u1, u2, u3, u4, bel, ho⟩ => ⟨p, he, bel, .inr ⟨p, b, c, d, xs.length, bitsL xs, 0, 0, rfl, ho, hl, ⟨u1, u2, u3, u4⟩, fun i => ?_⟩⟩
  split
  · rfl
  · next h => exact bitsL_out xs i (by omega)

set_option maxRecDepth 100000 in
set_option maxHeartbeats 2000000 in
theorem any_main (v u : Value) (xs : List Nat) (t : List Int) (n : Nat) (w : World) (hb : Byt.Given w v xs) (hv : Ints w u t) (hn : n ≤ 255) (h1 : xs.length ≤ 512) (h2 : t.length ≤ 100) (ht : M.Tab t) :
    Calls Try.prog 6 #[v, u, .int .u8 n] w fun e w' => e = .returned (.bool true) ∧ Below w.heap.size w w' := by
  have hC := fun w hv => Check_any u t w hv (by omega)
  rw [show errT t = 0 from if_pos ht] at hC
  have hO := fun w h => open_eye v xs w h h1
  obtain ⟨a, c, rfl, hc⟩ := hb.form
  obtain ⟨a2, c2, rfl, hc2⟩ := hv.form
  have i1 : ¬ (512 : Int) < xs.length := by omega
  have i2 : ¬ (100 : Int) < t.length := by omega
  go_enter Try.func6, Try.ntmps6
  go_wp2_with (first
    | (go_at_call 8; refine (alive_any _).mono ?_; rintro e wa ⟨rfl, bela⟩; have hbA := hb.below bela (Nat.le_refl _); have hvA := hv.below bela (Nat.le_refl _))
    | (go_at_call 12; refine (hC _ hvA).mono ?_; clear hC; rintro e w' ⟨rfl, hw⟩; rw [hw]; clear hw w')
    | (go_at_call 21; refine (hO _ hbA).mono ?_; clear hO; rintro e w1 ⟨p, rfl, bel1, hE1⟩)
    | (go_at_call 22; refine (NewFinder_any _ 0 w1.heap.size (bitsL xs) w1 hE1 (Nat.le_refl _)).mono ?_; rintro e w2 ⟨f, rfl, lf, bel2, hF2⟩))
  have sA := bela.size
  have s1 := bel1.size
  have s2 := bel2.size
  have bel02 : Below w.heap.size w w2 := bela.trans ((Bits.Below.less bel1 sA).trans (Bits.Below.less bel2 (by omega)))
  have hE2 := hE1.below bel2 (Nat.le_refl _)
  have hv2 := hv.below bel02 (Nat.le_refl _)
  have hg0 := M.Fnd.Good.new (from_ (bitsL xs) (frOf 0))
  have hr0 : (M.Fnd.new (from_ (bitsL xs) (frOf 0))).r = 16 := rfl
  go_loopw [10] (fun i wr => ∃ (j : Nat) (x : M.Fnd), j ≤ n ∧ i = .int .i64 j ∧ x.Good ∧ 16 ≤ x.r ∧ x.r ≤ 16 + 14 * j ∧ But f f w2 wr ∧ FndAt wr f (.pointer (some ⟨p, 0, none⟩)) (frOf 0) x) (fun i _ => n - (intOf i).toNat)
  case atStart => exact ⟨0, _, by omega, rfl, hg0, by omega, by omega, But.refl _ _ _, hF2⟩
  case round =>
    obtain ⟨j, x, hj, rfl, hx, hr1, hr2, btr, hF⟩ := hrel
    have belr := btr.below (B := w1.heap.size) lf lf s2
    have hEr := hE2.below belr (Nat.le_refl _)
    have belw := bel02.trans (Bits.Below.less belr (by omega))
    have hvr := hv.below belw (Nat.le_refl _)
    clear hF2 hg0
    by_cases hlt : j < n
    · have hG := Get_ok f w1.heap.size (frOf 0) _ _ x t (bitsL xs) wr hF hEr lf hx (by decide) (by omega) hvr ht
      obtain ⟨s1', _, _⟩ := hx.sym ht
      obtain ⟨g1, g2, g3⟩ := hx.get ht (from_ (bitsL xs) (frOf 0))
      obtain ⟨S, hS⟩ : ∃ S, S = x.sym t := ⟨_, rfl⟩
      rw [← hS] at hG s1'
      obtain ⟨y, hy⟩ : ∃ y, y = x.get (from_ (bitsL xs) (frOf 0)) t := ⟨_, rfl⟩
      rw [← hy] at hG g1 g2 g3
      clear hS hy
      have i3 : (j : Int) < n := by omega
      have i4 : ¬ (t.length : Int) ≤ S := by omega
      go_wp2_with (go_at_call 25; refine hG.mono ?_; clear hG; rintro e w3 ⟨rfl, bt3, hF3⟩)
      go_roundw
      case rel => exact ⟨j + 1, y, by omega, by go_num, g1, by omega, by omega, btr.trans bt3, hF3⟩
      case measure => simp [intOf]; omega
    · obtain rfl : j = n := by omega
      have hR := Read_any f (frOf 0) _ x wr hF
      obtain ⟨r, hr⟩ : ∃ r, r = x.r := ⟨_, rfl⟩
      rw [← hr] at hR hr1 hr2
      have i5 : (16 : Int) ≤ r := by omega
      have i6 : (r : Int) ≤ 16 + 14 * (j : Int) := by omega
      clear hr
      go_wp2_with (go_at_call 27; refine hR.mono ?_; rintro e w' ⟨rfl, hw⟩; rw [hw]; clear hw w')
      go_ret
      exact ⟨rfl, belw⟩

theorem ArithAny_walk (v u : Value) (xs : List Nat) (t : List Int) (n : Int) (w : World) (hb : Byt.Given w v xs) (hv : Ints w u t) (hn : (Lit.int .u8 n).wf = true) :
    Calls Try.prog 6 #[v, u, .int .u8 n] w fun e w' => e = .returned (.bool true) ∧ Below w.heap.size w w' := by
  have hn' : 0 ≤ n ∧ n ≤ 255 := by simpa [Lit.wf, IntKind.min, IntKind.max, IntKind.bits, IntKind.signed] using hn
  obtain ⟨m, rfl⟩ := Int.eq_ofNat_of_zero_le hn'.1
  by_cases h1 : xs.length ≤ 512
  · by_cases h2 : t.length ≤ 100
    · by_cases ht : M.Tab t
      · exact any_main v u xs t m w hb hv (by omega) h1 h2 ht
      · have hC := fun w hv => Check_any u t w hv (by omega)
        rw [show errT t = 1 from if_neg ht] at hC
        obtain ⟨a, c, rfl, hc⟩ := hb.form
        obtain ⟨a2, c2, rfl, hc2⟩ := hv.form
        have i1 : ¬ (512 : Int) < xs.length := by omega
        have i2 : ¬ (100 : Int) < t.length := by omega
        go_enter Try.func6, Try.ntmps6
        go_wp2_with (first
          | (go_at_call 8; refine (alive_any _).mono ?_; rintro e wa ⟨rfl, bela⟩; have hvA := hv.below bela (Nat.le_refl _))
          | (go_at_call 12; refine (hC _ hvA).mono ?_; clear hC; rintro e w' ⟨rfl, hw⟩; rw [hw]; clear hw w'))
        go_ret
        exact ⟨rfl, bela⟩
    · obtain ⟨a, c, rfl, hc⟩ := hb.form
      obtain ⟨a2, c2, rfl, hc2⟩ := hv.form
      have i1 : ¬ (512 : Int) < xs.length := by omega
      have i2 : (100 : Int) < t.length := by omega
      go_enter Try.func6, Try.ntmps6
      go_wp2_with (go_at_call 8; refine (alive_any _).mono ?_; rintro e wa ⟨rfl, bela⟩)
      go_ret
      exact ⟨rfl, bela⟩
  · obtain ⟨a, c, rfl, hc⟩ := hb.form
    obtain ⟨a2, c2, rfl, hc2⟩ := hv.form
    have i1 : (512 : Int) < xs.length := by omega
    go_enter Try.func6, Try.ntmps6
    go_wp2_with (go_at_call 8; refine (alive_any _).mono ?_; rintro e wa ⟨rfl, bela⟩)
    go_ret
    exact ⟨rfl, bela⟩

end Ari
end Go.Proofs.Ytknolfpjhfpfaaa
