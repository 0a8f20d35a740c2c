/-
  The document's answer: two planes that tell the same; two planes that fit. Conditions: as told at each.
-/
import Derived.Test.YtbfanglillndnaaQuantPair
namespace Go.Proofs.Ytbfanglillndnaa
set_option linter.unusedVariables false
open Go.RowKit
namespace Qnt
open Poly (cell_keep)

theorem below_dr {B : Nat} {w w' : World} (h : Below B w w') (m : Nat) : Below B w (w'.drewN m) := ⟨h.os, h.tape, h.output, h.size, h.block⟩

set_option maxHeartbeats 4000000 in
set_option maxRecDepth 100000 in
theorem Same_any (hi : Nat) (va vb : Value) (n C : Nat) (F : Nat → Nat → Int) (w : World) (ha : Vw hi va n C F w) (hb : Vw hi vb n C F w) (n40 : n ≤ 40) (c8 : C ≤ 8) (hh : hi ≤ w.heap.size) :
    Calls Try.prog 26 #[va, vb] w fun e w' => e = .returned (.bool true) ∧ Below w.heap.size w w' := by
  obtain ⟨ba0, oa0, ca, rfl⟩ := ha.form
  obtain ⟨bb0, ob0, cb, rfl⟩ := hb.form
  have HA : Hid _ := ha.all hh
  have HB : Hid _ := hb.all hh
  have n40' : (n : Int) ≤ 40 := by omega
  have c8' : (C : Int) ≤ 8 := by omega
  clear ha hb
  go_enter Try.func26, Try.ntmps26
  go_wp2
  go_loopw [5] (fun i wr => ∃ q : Nat, q ≤ n ∧ i = .int .i64 q ∧ Below w.heap.size w wr) (fun i _ => n - (intOf i).toNat)
  case atStart => exact ⟨0, by omega, rfl, Below.refl _ _⟩
  case round =>
    obtain ⟨i, hi', rfl, hbw⟩ := hrel
    by_cases hlt : i < n
    · have hlt' : (i : Int) < n := by omega
      obtain ⟨ba1, oa1, ca1, _, hra⟩ := HA.out i hlt
      obtain ⟨bb1, ob1, cb1, _, hrb⟩ := HB.out i hlt
      have x1 := (hra wr hbw).1
      have y1 := (hrb wr hbw).1
      have HRa : Hid (∀ wx, Below w.heap.size w wx → wx.cell? ⟨ba0, oa0 + i, none⟩ = some (.slice (some ⟨ba1, oa1, none⟩) C ca1) ∧ ∀ k, k < C → wx.cell? ⟨ba1, oa1 + k, none⟩ = some (.int .i32 (F i k))) := hra
      have HRb : Hid (∀ wx, Below w.heap.size w wx → wx.cell? ⟨bb0, ob0 + i, none⟩ = some (.slice (some ⟨bb1, ob1, none⟩) C cb1) ∧ ∀ k, k < C → wx.cell? ⟨bb1, ob1 + k, none⟩ = some (.int .i32 (F i k))) := hrb
      have HBw : Hid (Below w.heap.size w wr) := hbw
      clear hra hrb hbw
      go_wp2
      go_quiet (fail)
      go_wp2
      go_loopw [6] (fun j wx => ∃ k : Nat, k ≤ C ∧ j = .int .i64 k ∧ Below w.heap.size w wx) (fun j _ => C - (intOf j).toNat)
      case atStart => exact ⟨0, by omega, rfl, below_dr HBw.out _⟩
      case round =>
        clear HBw x1 y1
        obtain ⟨k, hk, rfl, hbw⟩ := hrel
        obtain ⟨x1, x2⟩ := HRa.out wr hbw
        obtain ⟨y1, y2⟩ := HRb.out wr hbw
        have HBw : Hid (Below w.heap.size w wr) := hbw
        clear hbw
        by_cases hkl : k < C
        · have hkl' : (k : Int) < C := by omega
          replace x2 := x2 k hkl
          replace y2 := y2 k hkl
          generalize F i k = z at *
          go_wp2
          go_quiet (fail)
          go_wp2
          go_roundw
          case rel => exact ⟨k + 1, by omega, by go_num, below_dr HBw.out _⟩
          case measure => simp [intOf]; omega
        · obtain rfl : k = C := by omega
          clear x2 y2
          go_wp2
          go_roundw
          case rel => exact ⟨i + 1, by omega, by go_num, HBw.out⟩
          case measure => simp [intOf]; omega
    · obtain rfl : i = n := by omega
      have HBw : Hid (Below w.heap.size w wr) := hbw
      clear hbw
      go_wp2
      go_ret
      exact ⟨rfl, HBw.out⟩

set_option maxHeartbeats 4000000 in
theorem rFit_any (hi : Nat) (va vb : Value) (na nb : Nat) (la lb : Nat → Nat) (w : World)
    (ha : Hd hi va na la w) (hb : Hd hi vb nb lb w) (fa : ¬ FarL na la) (fb : ¬ FarL nb lb) :
    Calls Try.prog 22 #[va, vb] w fun e w' => Yes (Fit na nb la lb) w e w' := by
  have ga := rBands_any hi va na la w ha fa
  have gb := rBands_any hi vb nb lb w hb fb
  have na40 : na ≤ 40 := by
    rcases Nat.lt_or_ge 40 na with h | h
    · exact absurd (.inl h) fa
    · exact h
  have nb40 : nb ≤ 40 := by
    rcases Nat.lt_or_ge 40 nb with h | h
    · exact absurd (.inl h) fb
    · exact h
  obtain ⟨ax, ca, rfl⟩ := ha.form
  obtain ⟨bx, cb, rfl⟩ := hb.form
  have na40' : (na : Int) ≤ 40 := by omega
  have nb40' : (nb : Int) ≤ 40 := by omega
  clear ha hb fa fb
  by_cases pa : PlL na la
  · have ya : Calls Try.prog 17 #[.slice ax na ca] w fun e w' => e = .returned (.int .i64 (la 0 : Nat)) ∧ w' = w := ga.mono fun e w' ⟨k, he, hk, hw⟩ => by
      rcases hk with ⟨_, rfl⟩ | ⟨hn, _⟩
      · exact ⟨he, hw⟩
      · exact absurd pa hn
    obtain ⟨a1, a2, a3, a4⟩ := id pa
    obtain ⟨kb, hkb⟩ : ∃ kb : Int, (PlL nb lb ∧ kb = lb 0) ∨ (¬ PlL nb lb ∧ kb = 0) := by
      by_cases pb : PlL nb lb
      · exact ⟨lb 0, .inl ⟨pb, rfl⟩⟩
      · exact ⟨0, .inr ⟨pb, rfl⟩⟩
    have yb : Calls Try.prog 17 #[.slice bx nb cb] w fun e w' => e = .returned (.int .i64 kb) ∧ w' = w := gb.mono fun e w' ⟨k, he, hk, hw⟩ => by
      rcases hk with ⟨h1, rfl⟩ | ⟨h1, rfl⟩
      · rcases hkb with ⟨_, rfl⟩ | ⟨h2, _⟩
        · exact ⟨he, hw⟩
        · exact absurd h1 h2
      · rcases hkb with ⟨h2, _⟩ | ⟨_, rfl⟩
        · exact absurd h2 h1
        · exact ⟨he, hw⟩
    obtain ⟨C, hC⟩ : ∃ C, la 0 = C := ⟨_, rfl⟩
    have c1 : (0 : Int) < C := by omega
    by_cases hk : (C : Int) = kb
    · by_cases hn : na = nb
      · subst hn
        have hfit : Fit na na la lb := by
          rcases hkb with ⟨h1, h2⟩ | ⟨_, h2⟩
          · exact ⟨pa, h1, rfl, by omega⟩
          · omega
        have HFt : Hid (Fit na na la lb) := hfit
        subst hk
        clear ga gb pa a1 a2 a3 a4 hfit hkb
        rw [hC] at ya
        go_enter Try.func22, Try.ntmps22
        go_wp2_with (first
          | (go_at_call_of 17 ca; refine ya.mono ?_; rintro e w' ⟨rfl, rfl⟩)
          | (go_at_call_of 17 cb; refine yb.mono ?_; rintro e w' ⟨rfl, rfl⟩))
        go_ret
        exact ⟨rfl, .inl ⟨rfl, HFt.out⟩⟩
      · have hno : ¬ Fit na nb la lb := fun h => hn h.2.2.1
        have HFt : Hid (¬ Fit na nb la lb) := hno
        have hne : ((na : Int) == (nb : Int)) = false := by simp; omega
        subst hk
        clear ga gb pa a1 a2 a3 a4 hno hkb
        rw [hC] at ya
        go_enter Try.func22, Try.ntmps22
        go_wp2_with (first
          | (go_at_call_of 17 ca; refine ya.mono ?_; rintro e w' ⟨rfl, rfl⟩)
          | (go_at_call_of 17 cb; refine yb.mono ?_; rintro e w' ⟨rfl, rfl⟩))
        go_ret
        exact ⟨rfl, .inr ⟨rfl, HFt.out⟩⟩
    · have hno : ¬ Fit na nb la lb := fun h => by
        rcases hkb with ⟨h1, h2⟩ | ⟨h1, h2⟩
        · have := h.2.2.2; omega
        · exact h1 h.2.1
      have HFt : Hid (¬ Fit na nb la lb) := hno
      have hne : ((C : Int) == kb) = false := by simp; omega
      clear ga gb pa a1 a2 a3 a4 hno hkb
      rw [hC] at ya
      go_enter Try.func22, Try.ntmps22
      go_wp2_with (first
        | (go_at_call_of 17 ca; refine ya.mono ?_; rintro e w' ⟨rfl, rfl⟩)
        | (go_at_call_of 17 cb; refine yb.mono ?_; rintro e w' ⟨rfl, rfl⟩))
      go_ret
      exact ⟨rfl, .inr ⟨rfl, HFt.out⟩⟩
  · have ya : Calls Try.prog 17 #[.slice ax na ca] w fun e w' => e = .returned (.int .i64 0) ∧ w' = w := ga.mono fun e w' ⟨k, he, hk, hw⟩ => by
      rcases hk with ⟨hy, _⟩ | ⟨_, rfl⟩
      · exact absurd hy pa
      · exact ⟨he, hw⟩
    have hno : ¬ Fit na nb la lb := fun h => pa h.1
    have HFt : Hid (¬ Fit na nb la lb) := hno
    clear ga gb pa hno
    go_enter Try.func22, Try.ntmps22
    go_wp2_with (first
      | (go_at_call_of 17 ca; refine ya.mono ?_; rintro e w' ⟨rfl, rfl⟩))
    go_ret
    exact ⟨rfl, .inr ⟨rfl, HFt.out⟩⟩

end Qnt
end Go.Proofs.Ytbfanglillndnaa
