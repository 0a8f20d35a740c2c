/-
  Contracts of layer 2 (logs): logarithms, and the document's answer for them. Conditions: each number fits its kind.
-/
import Derived.Test.YthfligbkgoonoaaDoorLogsRoot
namespace Go.Proofs.YthfligbkgoonoaaDoor
open Go.RowKit
namespace Logs

theorem ret2_ints {k l : IntKind} {a b c d : Int} (h : a = b) (g : c = d) : Ending.returned (.tuple #[.int k a, .int l c]) = .returned (.tuple #[.int k b, .int l d]) := by rw [h, g]

/-- n shifted so that it has 31 bits -/
theorem shifted_any (n : Nat) (w : World) (h0 : n ≠ 0) (h1 : n < 18446744073709551616) :
    Calls Tryd.prog 16 #[.int .u64 n, .int .i64 (31 - (M.blen n : Int))] w fun e w' => e = .returned (.int .u64 (M.lx n)) ∧ w' = w := by
  have hb : M.blen n ≤ 64 := (M.blen_le n 64).2 h1
  have hl := M.lx_bd h0
  unfold M.lx at hl ⊢
  by_cases hc : M.blen n ≤ 31
  · rw [if_pos hc] at hl ⊢
    have E : Hid (((n * 2 ^ (31 - M.blen n) : Nat) : Int) = (n : Int) * 2 ^ (31 - M.blen n)) := hid (by simp)
    have Et : Hid ((31 - (M.blen n : Int)).toNat = 31 - M.blen n) := hid (by omega)
    have l1 : 0 ≤ (n : Int) * 2 ^ (31 - (M.blen n : Int)).toNat := by rw [Et.out, ← E.out]; exact Int.natCast_nonneg _
    have l2 : (n : Int) * 2 ^ (31 - (M.blen n : Int)).toNat ≤ 18446744073709551615 := by
      rw [Et.out, ← E.out]
      have := hl.2
      generalize n * 2 ^ (31 - M.blen n) = q at this
      omega
    clear hl
    go_enter Tryd.func16, Tryd.ntmps16
    go_wp2
    go_ret
    refine ⟨ret_int ?_, rfl⟩
    have k1 := l1
    have k2 := l2
    rw [Et.out] at k1 k2
    rw [E.out, IntKind.wrap_u64]
    generalize (n : Int) * 2 ^ (31 - M.blen n) = q at k1 k2
    omega
  · rw [if_neg hc] at hl ⊢
    have E : Hid (((n / 2 ^ (M.blen n - 31) : Nat) : Int) = (n : Int) / 2 ^ (M.blen n - 31)) := hid (by simp)
    go_enter Tryd.func16, Tryd.ntmps16
    go_wp2
    go_ret
    refine ⟨ret_int ?_, rfl⟩
    rw [E.out, show (-(31 - (M.blen n : Int))).toNat = M.blen n - 31 from by omega]

theorem log0 (w : World) : Calls Tryd.prog 8 #[.int .u64 0] w fun e w' => e = .returned (.tuple #[.int .i32 0, .int .i64 1]) ∧ w' = w := by
  go_enter Tryd.func8, Tryd.ntmps8
  go_wp2
  go_ret2
  exact ⟨rfl, rfl⟩

set_option maxRecDepth 100000 in
theorem Log_any (n : Nat) (w : World) (h0 : n ≠ 0) (h1 : n < 18446744073709551616) :
    Calls Tryd.prog 8 #[.int .u64 n] w fun e w' => e = .returned (.tuple #[.int .i32 (M.log n), .int .i64 0]) ∧ w' = w := by
  have hb : M.blen n ≤ 64 := (M.blen_le n 64).2 h1
  have hb1 := (M.blen_lo h0).1
  obtain ⟨x1, x2⟩ := M.lx_bd h0
  have hz : ((n : Int) == 0) = false := by simpa using h0
  unfold M.log
  go_enter Tryd.func8, Tryd.ntmps8
  go_wp2_with (first
    | (go_at_call 12; refine (Bits_any _ _ h1).mono ?_; rintro e w' ⟨rfl, rfl⟩)
    | (go_at_call 16; rw [show (30 : Int) - ((M.blen n : Int) - 1) = 31 - (M.blen n : Int) from by omega]; refine (shifted_any _ _ h0 h1).mono ?_; rintro e w' ⟨rfl, rfl⟩))
  go_loop [5, 6, 19] (fun x l i => ∃ k : Nat, k ≤ 8 ∧ i = .int .i64 k ∧ x = .int .u64 (M.lxs (M.lx n) k) ∧ l = .int .i32 (((M.blen n - 1) * 2 ^ k + M.lps (M.lx n) k : Nat))) (fun _ _ i => 8 - (intOf i).toNat)
  case atStart => exact ⟨0, by omega, rfl, rfl, by show Value.int _ _ = Value.int _ _; congr 1; simp [M.lps]; omega⟩
  case round =>
    obtain ⟨k, hk, rfl, rfl, rfl⟩ := hrel
    obtain ⟨y1, y2⟩ := M.lxs_bd x1 x2 k
    have hp := M.lps_bd x1 x2 k
    have hL : (M.blen n - 1) * 2 ^ k ≤ 63 * 2 ^ k := Nat.mul_le_mul_right _ (by omega)
    have h8 : 2 ^ k ≤ 2 ^ 8 := Nat.pow_le_pow_right (by omega) hk
    by_cases hlt : k < 8
    · have h7 : 2 ^ k ≤ 2 ^ 7 := Nat.pow_le_pow_right (by omega) (by omega)
      have s := M.lsq_bd y1 y2
      have h01 := M.lbit_01 y1 y2
      have EX : Hid (M.lxs (M.lx n) (k + 1) = M.lnext (M.lxs (M.lx n) k)) := hid rfl
      have EP : Hid (M.lps (M.lx n) (k + 1) = 2 * M.lps (M.lx n) k + M.lbit (M.lxs (M.lx n) k)) := hid rfl
      have EL : Hid ((M.blen n - 1) * 2 ^ (k + 1) = 2 * ((M.blen n - 1) * 2 ^ k)) := hid (by rw [Nat.pow_succ]; grind)
      generalize hX : M.lxs (M.lx n) k = X at *
      have HX : Hid (M.lxs (M.lx n) k = X) := hX
      generalize hLL : (M.blen n - 1) * 2 ^ k + M.lps (M.lx n) k = L at *
      have HL : Hid ((M.blen n - 1) * 2 ^ k + M.lps (M.lx n) k = L) := hLL
      have l1 : L ≤ 8192 := by omega
      have XX := Nat.mul_le_mul (show X ≤ 2147483647 by omega) (show X ≤ 2147483647 by omega)
      have EXX : ((X * X : Nat) : Int) = (X : Int) * X := by simp
      have q1 : 0 ≤ (X : Int) * X := by rw [← EXX]; exact Int.natCast_nonneg _
      have q2 : (X : Int) * X ≤ 18446744073709551615 := by omega
      have sq : (X : Int) * X / 1073741824 = (M.lsq X : Int) := by unfold M.lsq; omega
      have HN : Hid (M.lnext X = if M.lbit X = 0 then M.lsq X else M.lsq X / 2) := hid rfl
      have HB : Hid (M.lbit X = M.lsq X / 2147483648) := hid rfl
      clear hX hLL hL h8 h7 hp EXX XX
      by_cases hb0 : M.lbit X = 0
      · have b0 : (M.lsq X : Int) / 2147483648 = 0 := by have := HB.out; omega
        have o0 : bits .or .i32 ((L : Int) * 2) 0 = (L : Int) * 2 := by have := i32_or_bit (L * 2) 0 (by omega) (by omega) (by omega); simpa using this
        clear h01
        go_wp2
        go_round
        case rel => exact ⟨k + 1, by omega, by go_num, by rw [EX.out, HN.out, if_pos hb0], by congr 1; rw [EL.out, EP.out, hb0]; have := HL.out; omega⟩
        case measure => simp [intOf]; omega
      · have b0 : (M.lsq X : Int) / 2147483648 = 1 := by have := HB.out; omega
        have o0 : bits .or .i32 ((L : Int) * 2) 1 = (L : Int) * 2 + 1 := by have := i32_or_bit (L * 2) 1 (by omega) (by omega) (by omega); simpa using this
        have hb1 : M.lbit X = 1 := by omega
        clear h01
        go_wp2
        go_round
        case rel => exact ⟨k + 1, by omega, by go_num, by rw [EX.out, HN.out, if_neg hb0]; go_num, by congr 1; rw [EL.out, EP.out, hb1]; have := HL.out; omega⟩
        case measure => simp [intOf]; omega
    · obtain rfl : k = 8 := by omega
      go_wp2
      go_ret2
      exact ⟨ret2_ints (by omega) rfl, rfl⟩

theorem lx_of_mul {n j : Nat} (h1 : 1073741824 ≤ n * 2 ^ j) (h2 : n * 2 ^ j < 2147483648) : M.lx n = n * 2 ^ j := by
  have hn : n ≠ 0 := by rintro rfl; simp at h1
  have hj : j ≤ 30 := by
    rcases Nat.lt_or_ge j 31 with h | h
    · omega
    · have g1 : 2 ^ 31 ≤ 2 ^ j := Nat.pow_le_pow_right (by omega) h
      have g2 := Nat.mul_le_mul (show 1 ≤ n by omega) g1
      omega
  have e : M.blen n = 30 - j + 1 := by
    apply M.blen_spec
    · have e1 : 2 ^ (30 - j) * 2 ^ j = 2 ^ 30 := by rw [← Nat.pow_add]; congr 1; omega
      exact Nat.le_of_mul_le_mul_right (by rw [e1]; exact h1) (Nat.two_pow_pos j)
    · have e1 : 2 ^ (30 - j + 1) * 2 ^ j = 2 ^ 31 := by rw [← Nat.pow_add]; congr 1; omega
      exact Nat.lt_of_mul_lt_mul_right (a := 2 ^ j) (by rw [e1]; exact h2)
  unfold M.lx
  rw [if_pos (by omega), e]
  congr 2; omega
theorem lx_of_div {n i : Nat} (h1 : 1073741824 ≤ n / 2 ^ i) (h2 : n / 2 ^ i < 2147483648) : M.lx n = n / 2 ^ i := by
  have hp := Nat.two_pow_pos i
  have e : M.blen n = 30 + i + 1 := by
    apply M.blen_spec
    · rw [Nat.pow_add]; exact (Nat.le_div_iff_mul_le hp).1 h1
    · rw [show 30 + i + 1 = 31 + i from by omega, Nat.pow_add]; exact (Nat.div_lt_iff_lt_mul hp).1 h2
  unfold M.lx
  rw [e]
  rcases i with _ | i
  · simp
  · rw [if_neg (by omega), show 30 + (i + 1) + 1 - 31 = i + 1 from by omega]
def D1 (n x : Nat) : Prop := ∃ j, x = n * 2 ^ j ∧ (j = 0 ∨ x < 2147483648)
def D2 (n x : Nat) : Prop := x = M.lx n ∨ ∃ i, x = n / 2 ^ i ∧ 2147483648 ≤ x
theorem D1_step {n x : Nat} (h : D1 n x) (hx : x < 1073741824) : D1 n (x * 2) := by
  obtain ⟨j, rfl, _⟩ := h
  exact ⟨j + 1, by rw [Nat.pow_succ]; grind, Or.inr (by omega)⟩
theorem D1_end {n x : Nat} (h : D1 n x) (hx : 1073741824 ≤ x) : D2 n x := by
  obtain ⟨j, rfl, hj⟩ := h
  rcases Nat.lt_or_ge (n * 2 ^ j) 2147483648 with h' | h'
  · exact Or.inl (lx_of_mul hx h').symm
  · rcases hj with rfl | hj
    · exact Or.inr ⟨0, by simp, h'⟩
    · omega
theorem D2_step {n x : Nat} (h0 : n ≠ 0) (h : D2 n x) (hx : 2147483648 ≤ x) : D2 n (x / 2) := by
  rcases h with h | ⟨i, e, _⟩
  · have := M.lx_bd h0; omega
  · have e2 : x / 2 = n / 2 ^ (i + 1) := by rw [e, Nat.pow_succ, Nat.div_div_eq_div_mul]
    rcases Nat.lt_or_ge (x / 2) 2147483648 with h' | h'
    · left; rw [e2] at h' ⊢; exact (lx_of_div (by rw [← e2]; omega) h').symm
    · exact Or.inr ⟨i + 1, e2, h'⟩
theorem D2_end {n x : Nat} (h : D2 n x) (hx : x < 2147483648) : x = M.lx n := by
  rcases h with h | ⟨i, e, _⟩
  · exact h
  · omega

theorem refLog0 (w : World) : Calls Tryd.prog 9 #[.int .u64 0] w fun e w' => e = .returned (.tuple #[.int .i32 0, .int .i64 1]) ∧ w' = w := by
  go_enter Tryd.func9, Tryd.ntmps9
  go_wp2
  go_ret2
  exact ⟨rfl, rfl⟩

set_option maxRecDepth 100000 in
theorem refLog_any (n : Nat) (w : World) (h0 : n ≠ 0) (h1 : n < 18446744073709551616) :
    Calls Tryd.prog 9 #[.int .u64 n] w fun e w' => e = .returned (.tuple #[.int .i32 (M.log n), .int .i64 0]) ∧ w' = w := by
  have hb : M.blen n ≤ 64 := (M.blen_le n 64).2 h1
  have hb1 := (M.blen_lo h0).1
  have Hx : Hid (1073741824 ≤ M.lx n ∧ M.lx n < 2147483648) := M.lx_bd h0
  have hz : ((n : Int) == 0) = false := by simpa using h0
  unfold M.log
  go_enter Tryd.func9, Tryd.ntmps9
  go_wp2_with (go_at_call 13; refine (refBits_any _ _ h1).mono ?_; rintro e w' ⟨rfl, rfl⟩)
  go_loop [5] (fun t => ∃ x : Nat, 1 ≤ x ∧ (x : Int) ≤ 18446744073709551615 ∧ t = .int .u64 x ∧ D1 n x) (fun t => 1073741824 - (intOf t).toNat)
  case atStart => exact ⟨n, by omega, by omega, rfl, 0, by simp, Or.inl rfl⟩
  case round =>
    obtain ⟨x, hx1, hx2, rfl, hD⟩ := hrel
    have HD : Hid (D1 n x) := hD
    clear hD
    by_cases hlt : (x : Int) < 1073741824
    · go_wp2
      go_round
      case rel => exact ⟨x * 2, by omega, by omega, by go_num, D1_step HD.out (by omega)⟩
      case measure => simp [intOf]; omega
    · go_wp2
      go_loop [5] (fun t => ∃ x : Nat, (x : Int) ≤ 18446744073709551615 ∧ t = .int .u64 x ∧ D2 n x) (fun t => (intOf t).toNat)
      case atStart => exact ⟨x, hx2, rfl, D1_end HD.out (by omega)⟩
      case round =>
        clear HD hx1 hx2 hlt
        obtain ⟨x, hx2, rfl, hD⟩ := hrel
        have HD : Hid (D2 n x) := hD
        clear hD
        by_cases hlt : 2147483648 ≤ (x : Int)
        · go_wp2
          go_round
          case rel => exact ⟨x / 2, by omega, by go_num, D2_step h0 HD.out (by omega)⟩
          case measure => simp [intOf]; omega
        · have hX := D2_end HD.out (by omega)
          subst hX
          clear HD
          go_wp2
          clear hlt hx2
          go_loop [5, 6, 7] (fun x l i => ∃ k : Nat, k ≤ 8 ∧ i = .int .i64 k ∧ x = .int .u64 (M.lxs (M.lx n) k) ∧ l = .int .i64 (M.lps (M.lx n) k)) (fun _ _ i => 8 - (intOf i).toNat)
          case atStart => exact ⟨0, by omega, rfl, rfl, rfl⟩
          case round =>
            obtain ⟨k, hk, rfl, rfl, rfl⟩ := hrel
            obtain ⟨y1, y2⟩ := M.lxs_bd Hx.out.1 Hx.out.2 k
            have hp := M.lps_bd Hx.out.1 Hx.out.2 k
            have h8 : 2 ^ k ≤ 2 ^ 8 := Nat.pow_le_pow_right (by omega) hk
            by_cases hlt : k < 8
            · have s := M.lsq_bd y1 y2
              have EX : Hid (M.lxs (M.lx n) (k + 1) = M.lnext (M.lxs (M.lx n) k)) := hid rfl
              have EP : Hid (M.lps (M.lx n) (k + 1) = 2 * M.lps (M.lx n) k + M.lbit (M.lxs (M.lx n) k)) := hid rfl
              generalize hX : M.lxs (M.lx n) k = X at *
              generalize hLL : M.lps (M.lx n) k = L at *
              have l1 : L ≤ 256 := by omega
              have XX := Nat.mul_le_mul (show X ≤ 2147483647 by omega) (show X ≤ 2147483647 by omega)
              have EXX : ((X * X : Nat) : Int) = (X : Int) * X := by simp
              have q1 : 0 ≤ (X : Int) * X := by rw [← EXX]; exact Int.natCast_nonneg _
              have q2 : (X : Int) * X ≤ 18446744073709551615 := by omega
              have sq : (X : Int) * X / 1073741824 = (M.lsq X : Int) := by unfold M.lsq; omega
              have HN : Hid (M.lnext X = if M.lbit X = 0 then M.lsq X else M.lsq X / 2) := hid rfl
              have HB : Hid (M.lbit X = M.lsq X / 2147483648) := hid rfl
              have i1 : (1073741824 : Int) ≤ X := by omega
              have i2 : (X : Int) ≤ 2147483647 := by omega
              have i3 : (1073741824 : Int) ≤ M.lsq X := by omega
              have i4 : (M.lsq X : Int) ≤ 4294967295 := by omega
              clear hX hLL h8 hp EXX XX s y1 y2
              generalize M.lsq X = Sq at *
              by_cases hb0 : 2147483648 ≤ (Sq : Int)
              · have hl : M.lbit X = 1 := by have := HB.out; omega
                have HL : Hid (M.lbit X = 1) := hl
                clear hl
                go_wp2
                go_round
                case rel => exact ⟨k + 1, by omega, by go_num, by rw [EX.out, HN.out, if_neg (by have := HL.out; omega)]; go_num, by congr 1; rw [EP.out, HL.out]; omega⟩
                case measure => simp [intOf]; omega
              · have hl : M.lbit X = 0 := by have := HB.out; omega
                have HL : Hid (M.lbit X = 0) := hl
                clear hl
                go_wp2
                go_round
                case rel => exact ⟨k + 1, by omega, by go_num, by rw [EX.out, HN.out, if_pos HL.out]; first | rfl | rw [sq], by congr 1; rw [EP.out, HL.out]; omega⟩
                case measure => simp [intOf]; omega
            · obtain rfl : k = 8 := by omega
              go_wp2
              go_ret2
              exact ⟨ret2_ints (by omega) rfl, rfl⟩

end Logs
end Go.Proofs.YthfligbkgoonoaaDoor
