/-
  The chapter's examples, and the walk of CheckSums: the sums of bytes and bits are the document's. Conditions: the bytes stand in memory.
-/
import Derived.Test.YtifafoecejnhkaaCheckTail
import Derived.Lib.SlBytesConst
namespace Go.Proofs.Ytifafoecejnhkaa
set_option linter.unusedVariables false
open Go.RowKit
namespace Chk
open Bits (Blk But add_at wrap_id)
open Byt (Given)

theorem run_digits : M.run 16 4129 (M.bitL [49, 50, 51, 52, 53, 54, 55, 56, 57]) 65535 (8 * 9) = 10673 := by decide +kernel
theorem given_digits (w : World) (fr : Nat × Nat) : Given (w.alloc (.cells #[.int .u8 49, .int .u8 50, .int .u8 51, .int .u8 52, .int .u8 53, .int .u8 54, .int .u8 55, .int .u8 56, .int .u8 57] 5 fr)) (.slice (some ⟨w.heap.size, 0, none⟩) 9 9) [49, 50, 51, 52, 53, 54, 55, 56, 57] := by
  have hb := heap_alloc_new w (.cells #[.int .u8 49, .int .u8 50, .int .u8 51, .int .u8 52, .int .u8 53, .int .u8 54, .int .u8 55, .int .u8 56, .int .u8 57] 5 fr)
  refine ⟨_, 9, rfl, Nat.le_refl _, by decide, (fun h => by cases h), .inr ⟨w.heap.size, 0, rfl, (Array.getElem?_eq_some_iff.1 hb).1, fun i x hi => ?_⟩⟩
  have hlt : i < 9 := (List.getElem?_eq_some_iff.1 hi).1
  unfold World.cell?
  rw [hb]
  show (#[_, _, _, _, _, _, _, _, _] : Array Value)[0 + i]? = _
  rw [Nat.zero_add]
  rcases (by omega : i = 0 ∨ i = 1 ∨ i = 2 ∨ i = 3 ∨ i = 4 ∨ i = 5 ∨ i = 6 ∨ i = 7 ∨ i = 8) with h | h | h | h | h | h | h | h | h <;> subst h <;> (simp at hi; subst hi; rfl)

set_option maxRecDepth 100000 in
theorem alive_any (w : World) :
    Calls Try.prog 7 #[] w fun e w' => e = .returned (.bool true) ∧ Below w.heap.size w w' := by
  have kc := fun (w : World) (C : Array Value) (n c : Nat) => Lib.run_convert_bytes_const (P := Try.prog) w 22 5 C n c Try.underlying22 Try.underlying5
  have h1 := fun w => Of_ok 8 15 29 _ [] w (.inl ⟨rfl, rfl, rfl⟩) (Given.nil w) (by decide)
  go_enter Try.func7, Try.ntmps7
  have h2 := fun w => Of_ok 16 65535 4129 _ _ _ (.inr (.inl ⟨rfl, rfl, rfl⟩)) (given_digits w (9, 10)) (by decide)
  have h3 := fun w => Of_no 9 none 0 0 w (by decide) (by decide) (by decide) (by decide)
  go_wp2_with (first
    | (go_at_call 9; refine (h1 _).mono ?_; clear h1; rintro e w1 ⟨rfl, bel1⟩)
    | (go_at_call 9; refine (h2 _).mono ?_; clear h2; rw [show [49, 50, 51, 52, 53, 54, 55, 56, 57].length = 9 from rfl, run_digits]; rintro e w2 ⟨rfl, bel2⟩)
    | (go_at_call 9; refine (h3 _).mono ?_; clear h3; rintro e w3 ⟨rfl, bel3⟩))
  go_ret
  have b2 := bel1.alloc bel1.size (.cells #[.int .u8 49, .int .u8 50, .int .u8 51, .int .u8 52, .int .u8 53, .int .u8 54, .int .u8 55, .int .u8 56, .int .u8 57] 5 (9, 10))
  have b3 := b2.trans (Bits.Below.less bel2 b2.size)
  exact ⟨rfl, b3.trans (Bits.Below.less bel3 b3.size)⟩

/-- a kind, or none -/
theorem knd_or (n : Int) : (∃ k s p : Nat, n = k ∧ Knd k s p) ∨ (n ≠ 8 ∧ n ≠ 16 ∧ n ≠ 24) := by
  by_cases h1 : n = 8
  · exact .inl ⟨8, 15, 29, h1, .inl ⟨rfl, rfl, rfl⟩⟩
  · by_cases h2 : n = 16
    · exact .inl ⟨16, 65535, 4129, h2, .inr (.inl ⟨rfl, rfl, rfl⟩)⟩
    · by_cases h3 : n = 24
      · exact .inl ⟨24, 5592405, 1627, h3, .inr (.inr ⟨rfl, rfl, rfl⟩)⟩
      · exact .inr ⟨h1, h2, h3⟩

set_option maxRecDepth 100000 in
set_option maxHeartbeats 2000000 in
theorem CheckSums_walk (n : Int) (v : Value) (xs : List Nat) (N : Int) (w : World) (hv : Given w v xs) :
    Calls Try.prog 3 #[.int .i64 n, v, .int .i64 N] w fun e w' => e = .returned (.bool true) ∧ Below w.heap.size w w' := by
  obtain ⟨a, c, rfl, hc⟩ := hv.form
  by_cases hl : xs.length ≤ 2000
  · have g2 : ¬ (2000 : Int) < xs.length := by omega
    rcases knd_or n with ⟨k, s, p, rfl, hk⟩ | ⟨h1, h2, h3⟩
    · have hkd := fun w => RKind_ok k s p w hk
      have hof := fun w hv => Of_ok k s p (.slice a xs.length c) xs w hk hv (by omega)
      have hrs := fun w hv => RSum_any k s p (.slice a xs.length c) xs (8 * xs.length) w hk hv (by omega) (Nat.le_refl _)
      have e8 : Hid ((8 : Int) * (xs.length : Int) = ((8 * xs.length : Nat) : Int)) := show (8 : Int) * (xs.length : Int) = ((8 * xs.length : Nat) : Int) by omega
      obtain ⟨R, hR⟩ : ∃ R, R = M.run k p (M.bitL xs) s (8 * xs.length) := ⟨_, rfl⟩
      rw [← hR] at hof hrs
      clear hR
      by_cases hN : 0 ≤ N ∧ N ≤ 8 * xs.length
      · obtain ⟨N', rfl⟩ := Int.eq_ofNat_of_zero_le hN.1
        have hbi := fun w hv => Bits_ok k s p (.slice a xs.length c) xs N' w hk hv (by omega) (by omega)
        have hrn := fun w hv => RSum_any k s p (.slice a xs.length c) xs N' w hk hv (by omega) (by omega)
        have t1 : decide ((N' : Int) < 0) = false := decide_eq_false (by omega)
        have t2 : ¬ (8 : Int) * (xs.length : Int) < N' := by omega
        obtain ⟨Q, hQ⟩ : ∃ Q, Q = M.run k p (M.bitL xs) s N' := ⟨_, rfl⟩
        rw [← hQ] at hbi hrn
        clear hQ
        go_enter Try.func3, Try.ntmps3
        go_wp2_with (first
          | (go_at_call 7; refine (alive_any _).mono ?_; rintro e w1 ⟨rfl, bel1⟩; have v1 := hv.below bel1 (Nat.le_refl _))
          | (go_at_call 8; refine (hkd _).mono ?_; clear hkd; rintro e w2 ⟨rfl, hw2⟩; rw [hw2]; clear hw2 w2)
          | (go_at_call 9; refine (hof _ v1).mono ?_; clear hof; rintro e w3 ⟨rfl, bel3⟩; have v3 := v1.below bel3 (Nat.le_refl _))
          | (go_at_call 10; refine (hbi _ v3).mono ?_; clear hbi; rintro e w4 ⟨rfl, bel4⟩; have v4 := v3.below bel4 (Nat.le_refl _))
          | (go_at_call 11; rw [show (8 : Int) * (xs.length : Int) = ((8 * xs.length : Nat) : Int) from e8]; refine (hrs _ v4).mono ?_; clear hrs; rintro e w5 ⟨rfl, hw5⟩; rw [hw5]; clear hw5 w5)
          | (go_at_call 11; refine (hrn _ v4).mono ?_; clear hrn; rintro e w6 ⟨rfl, hw6⟩; rw [hw6]; clear hw6 w6))
        go_ret
        exact ⟨rfl, bel1.trans ((Bits.Below.less bel3 bel1.size).trans (Bits.Below.less bel4 (Nat.le_trans bel1.size bel3.size)))⟩
      · have hbi := fun w => Bits_out k s p a xs.length c N w hk (by omega) (by omega)
        rcases (by omega : N < 0 ∨ (¬ N < 0 ∧ (8 : Int) * (xs.length : Int) < N)) with t1 | ⟨t1, t2⟩
        all_goals (
          go_enter Try.func3, Try.ntmps3
          go_wp2_with (first
            | (go_at_call 7; refine (alive_any _).mono ?_; rintro e w1 ⟨rfl, bel1⟩; have v1 := hv.below bel1 (Nat.le_refl _))
            | (go_at_call 8; refine (hkd _).mono ?_; clear hkd; rintro e w2 ⟨rfl, hw2⟩; rw [hw2]; clear hw2 w2)
            | (go_at_call 9; refine (hof _ v1).mono ?_; clear hof; rintro e w3 ⟨rfl, bel3⟩; have v3 := v1.below bel3 (Nat.le_refl _))
            | (go_at_call 10; refine (hbi _).mono ?_; clear hbi; rintro e w4 ⟨rfl, bel4⟩; have v4 := v3.below bel4 (Nat.le_refl _))
            | (go_at_call 11; rw [show (8 : Int) * (xs.length : Int) = ((8 * xs.length : Nat) : Int) from e8]; refine (hrs _ v4).mono ?_; clear hrs; rintro e w5 ⟨rfl, hw5⟩; rw [hw5]; clear hw5 w5))
          go_ret
          exact ⟨rfl, bel1.trans ((Bits.Below.less bel3 bel1.size).trans (Bits.Below.less bel4 (Nat.le_trans bel1.size bel3.size)))⟩)
    · have hkd := fun w => RKind_no n w h1 h2 h3
      have hof := fun w => Of_no n a xs.length c w h1 h2 h3 (by omega)
      have hbi := fun w => Bits_no n a xs.length c N w h1 h2 h3
      go_enter Try.func3, Try.ntmps3
      go_wp2_with (first
        | (go_at_call 7; refine (alive_any _).mono ?_; rintro e w1 ⟨rfl, bel1⟩)
        | (go_at_call 8; refine (hkd _).mono ?_; clear hkd; rintro e w2 ⟨rfl, hw2⟩; rw [hw2]; clear hw2 w2)
        | (go_at_call 9; refine (hof _).mono ?_; clear hof; rintro e w3 ⟨rfl, bel3⟩)
        | (go_at_call 10; refine (hbi _).mono ?_; clear hbi; rintro e w4 ⟨rfl, bel4⟩))
      go_ret
      exact ⟨rfl, bel1.trans ((Bits.Below.less bel3 bel1.size).trans (Bits.Below.less bel4 (Nat.le_trans bel1.size bel3.size)))⟩
  · have g2 : (2000 : Int) < xs.length := by omega
    go_enter Try.func3, Try.ntmps3
    go_wp2_with (go_at_call 7; refine (alive_any _).mono ?_; rintro e w1 ⟨rfl, bel1⟩)
    go_ret
    exact ⟨rfl, bel1⟩

end Chk
end Go.Proofs.Ytifafoecejnhkaa
