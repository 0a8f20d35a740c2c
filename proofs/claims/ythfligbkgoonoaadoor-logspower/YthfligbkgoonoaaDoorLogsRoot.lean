/-
  Contracts of layer 2 (logs): bits and roots, and the document's answers for them. Conditions: each number fits its kind.
-/
import Derived.Test.YthfligbkgoonoaaDoorFixWalks
import Derived.Test.YthfligbkgoonoaaDoorLogsMath
import Derived.Laws.BitsAllLaws
import Derived.Laws.DeepBits32
namespace Go.Proofs.YthfligbkgoonoaaDoor
open Go.RowKit
namespace Logs

theorem hid {p : Prop} (h : p) : Hid p := h

theorem len_close (k : Int) (a b : Nat) (h0 : 0 ≤ k) (h1 : k ≤ 56) (ha : a ≤ 8) (hb : (b : Int) = k + a) : wrap64 (k + wrap64 (a : Int)) = (b : Int) := by
  unfold wrap64; omega
theorem sh56 (x : Int) (h : 72057594037927936 ≤ x) : M.blen x.toNat = 56 + M.blen (x / 4294967296 / 65536 / 256).toNat := by
  rw [M.blen_shift x.toNat 56 (by omega)]; congr 2; omega
theorem sh48 (x : Int) (h : 281474976710656 ≤ x) : M.blen x.toNat = 48 + M.blen (x / 4294967296 / 65536).toNat := by
  rw [M.blen_shift x.toNat 48 (by omega)]; congr 2; omega
theorem sh40 (x : Int) (h : 1099511627776 ≤ x) : M.blen x.toNat = 40 + M.blen (x / 4294967296 / 256).toNat := by
  rw [M.blen_shift x.toNat 40 (by omega)]; congr 2; omega
theorem sh32 (x : Int) (h : 4294967296 ≤ x) : M.blen x.toNat = 32 + M.blen (x / 4294967296).toNat := by
  rw [M.blen_shift x.toNat 32 (by omega)]; congr 2; omega

set_option maxRecDepth 100000 in
theorem Len64_any (x : Int) (w : World) (h0 : 0 ≤ x) (h1 : x < 18446744073709551616) :
    Calls Tryd.prog 17 #[.int .u64 x] w fun e w' => e = .returned (.int .i64 (M.blen x.toNat)) ∧ w' = w := by
  go_enter Tryd.func17, Tryd.ntmps17
  go_wp2
  · go_ret
    refine ⟨ret_int ?_, rfl⟩
    rw [len8tab_get, blen_eq]
    exact len_close 56 _ _ (by omega) (by omega) (M.blen8 _ (by omega)) (by rw [sh56 x (by omega)]; rfl)
  · go_ret
    refine ⟨ret_int ?_, rfl⟩
    rw [len8tab_get, blen_eq]
    exact len_close 48 _ _ (by omega) (by omega) (M.blen8 _ (by omega)) (by rw [sh48 x (by omega)]; rfl)
  · go_ret
    refine ⟨ret_int ?_, rfl⟩
    rw [len8tab_get, blen_eq]
    exact len_close 40 _ _ (by omega) (by omega) (M.blen8 _ (by omega)) (by rw [sh40 x (by omega)]; rfl)
  · go_ret
    refine ⟨ret_int ?_, rfl⟩
    rw [len8tab_get, blen_eq]
    exact len_close 32 _ _ (by omega) (by omega) (M.blen8 _ (by omega)) (by rw [sh32 x (by omega)]; rfl)
  · go_ret
    refine ⟨ret_int ?_, rfl⟩
    rw [len8tab_get, blen_eq]
    exact len_close 24 _ _ (by omega) (by omega) (M.blen8 _ (by omega)) (by rw [sh24 x (by omega)]; rfl)
  · go_ret
    refine ⟨ret_int ?_, rfl⟩
    rw [len8tab_get, blen_eq]
    exact len_close 16 _ _ (by omega) (by omega) (M.blen8 _ (by omega)) (by rw [sh16 x (by omega)]; rfl)
  · go_ret
    refine ⟨ret_int ?_, rfl⟩
    rw [len8tab_get, blen_eq]
    exact len_close 8 _ _ (by omega) (by omega) (M.blen8 _ (by omega)) (by rw [sh8 x (by omega)]; rfl)
  · go_ret
    refine ⟨ret_int ?_, rfl⟩
    rw [len8tab_get, blen_eq]
    exact len_close0 _ _ (M.blen8 _ (by omega)) rfl

theorem Bits_any (n : Nat) (w : World) (h1 : n < 18446744073709551616) :
    Calls Tryd.prog 12 #[.int .u64 n] w fun e w' => e = .returned (.int .i64 (M.blen n)) ∧ w' = w := by
  go_enter Tryd.func12, Tryd.ntmps12
  go_wp2_with (go_at_call 17; refine (Len64_any _ _ (by omega) (by omega)).mono ?_; rintro e w' ⟨rfl, rfl⟩)
  go_ret
  exact ⟨rfl, rfl⟩

theorem refBits_any (n : Nat) (w : World) (h1 : n < 18446744073709551616) :
    Calls Tryd.prog 13 #[.int .u64 n] w fun e w' => e = .returned (.int .i64 (M.blen n)) ∧ w' = w := by
  have hb : M.blen n ≤ 64 := (M.blen_le n 64).2 h1
  go_enter Tryd.func13, Tryd.ntmps13
  go_wp2
  go_loop [0, 3] (fun x t => ∃ m k : Nat, m < 18446744073709551616 ∧ x = .int .u64 m ∧ t = .int .i64 k ∧ k + M.blen m = M.blen n) (fun x _ => (intOf x).toNat)
  case atStart => exact ⟨n, 0, h1, rfl, rfl, by omega⟩
  case round =>
    obtain ⟨m, k, hm, rfl, rfl, hk⟩ := hrel
    by_cases h0 : 0 < m
    · have hs : M.blen m = 1 + M.blen (m / 2) := by
        rcases Nat.lt_or_ge m 2 with h | h
        · obtain rfl : m = 1 := by omega
          rfl
        · exact M.blen_shift m 1 (by omega)
      go_wp2
      go_round
      case rel => exact ⟨m / 2, k + 1, by omega, by go_num, by go_num, by omega⟩
      case measure => simp [intOf]; omega
    · obtain rfl : m = 0 := by omega
      have hz : M.blen 0 = 0 := rfl
      go_wp2
      go_ret
      exact ⟨ret_int (by omega), rfl⟩

/-- between the rounds of the search by bits: a root so far, and the next bit -/
def Inv (n R B : Nat) : Prop := ∃ j c : Nat, B = 2 ^ j / 2 ∧ R = c * 2 ^ j ∧ R * R ≤ n ∧ n < (R + 2 ^ j) * (R + 2 ^ j) ∧ R + 2 ^ j ≤ 4294967296
theorem inv_start (n : Nat) (h1 : n < 18446744073709551616) : Inv n 0 (2 ^ ((M.blen n + 1) / 2) / 2) := by
  have hb : M.blen n ≤ 64 := (M.blen_le n 64).2 h1
  have hn := M.blen_hi n
  have h2 : 2 ^ M.blen n ≤ 2 ^ ((M.blen n + 1) / 2 + (M.blen n + 1) / 2) := Nat.pow_le_pow_right (by omega) (by omega)
  have h3 : 2 ^ ((M.blen n + 1) / 2) ≤ 2 ^ 32 := Nat.pow_le_pow_right (by omega) (by omega)
  refine ⟨(M.blen n + 1) / 2, 0, rfl, by omega, by omega, ?_, by omega⟩
  rw [Nat.zero_add, ← Nat.pow_add]; omega
theorem inv_end {n R : Nat} (h : Inv n R 0) : M.root n = R ∧ R < 4294967296 := by
  obtain ⟨j, c, hB, hR, h1, h2, h3⟩ := h
  have hj : j = 0 := by
    rcases j with _ | j
    · rfl
    · rw [Nat.pow_succ, Nat.mul_div_cancel _ (by omega)] at hB
      have := Nat.two_pow_pos j; omega
  subst hj
  exact ⟨M.root_of h1 (by simpa using h2), by omega⟩
theorem inv_step {n R B : Nat} (h : Inv n R B) (h0 : 0 < B) :
    R ||| B = R + B ∧ R + B < 4294967296 ∧ ((R + B) * (R + B) ≤ n → Inv n (R + B) (B / 2)) ∧ (n < (R + B) * (R + B) → Inv n R (B / 2)) := by
  obtain ⟨j, c, hB, hR, h1, h2, h3⟩ := h
  rcases j with _ | j
  · simp at hB; omega
  · have hp := Nat.two_pow_pos j
    rw [Nat.pow_succ] at hB hR h2 h3
    rw [Nat.mul_div_cancel _ (by omega)] at hB
    subst hB
    have hR' : R = (2 * c) * 2 ^ j := by rw [hR]; grind
    have e2 : R + 2 ^ j + 2 ^ j = R + 2 ^ j * 2 := by omega
    refine ⟨?_, by omega, fun h => ⟨j, 2 * c + 1, rfl, ?_, h, ?_, by omega⟩, fun h => ⟨j, 2 * c, rfl, hR', h1, h, by omega⟩⟩
    · have := Nat.two_pow_add_eq_or_of_lt (i := j + 1) (show 2 ^ j < 2 ^ (j + 1) by rw [Nat.pow_succ]; omega) c
      rw [Nat.pow_succ, Nat.mul_comm, ← hR] at this
      exact this.symm
    · rw [Nat.add_mul, ← hR', Nat.one_mul]
    · rw [e2]; exact h2

set_option maxRecDepth 100000 in
theorem Root_any (n : Nat) (w : World) (h1 : n < 18446744073709551616) :
    Calls Tryd.prog 10 #[.int .u64 n] w fun e w' => e = .returned (.int .u32 (M.root n)) ∧ w' = w := by
  have hb : M.blen n ≤ 64 := (M.blen_le n 64).2 h1
  have hs := inv_start n h1
  have h3 : 2 ^ ((M.blen n + 1) / 2) ≤ 2 ^ 32 := Nat.pow_le_pow_right (by omega) (by omega)
  have e3 : ((2 ^ ((M.blen n + 1) / 2) : Nat) : Int) = (2 : Int) ^ ((M.blen n + 1) / 2) := by simp
  have p1 : (0 : Int) ≤ 2 ^ ((M.blen n + 1) / 2) := Int.le_of_lt (M.pow_pos _)
  have p2 : (2 : Int) ^ ((M.blen n + 1) / 2) ≤ 4294967296 := by omega
  have HS : Hid (Inv n 0 (2 ^ ((M.blen n + 1) / 2) / 2)) := hs
  have E3 : Hid (((2 ^ ((M.blen n + 1) / 2) : Nat) : Int) = (2 : Int) ^ ((M.blen n + 1) / 2)) := e3
  clear hs h3 e3
  go_enter Tryd.func10, Tryd.ntmps10
  go_wp2_with (go_at_call 12; refine (Bits_any _ _ h1).mono ?_; rintro e w' ⟨rfl, rfl⟩)
  go_loop [3, 4] (fun r b => ∃ R B : Nat, r = .int .u64 R ∧ b = .int .u64 B ∧ Inv n R B) (fun _ b => (intOf b).toNat)
  case atStart => 
    refine ⟨0, _, rfl, ?_, HS.out⟩
    have := E3.out
    congr 1
  case round =>
    obtain ⟨R, B, rfl, rfl, hI⟩ := hrel
    clear HS E3 p1 p2
    by_cases h0 : 0 < B
    · obtain ⟨ho, hl, hy, hn⟩ := inv_step hI h0
      have HY : Hid ((R + B) * (R + B) ≤ n → Inv n (R + B) (B / 2)) := hy
      have HN : Hid (n < (R + B) * (R + B) → Inv n R (B / 2)) := hn
      have HQ : Hid ((((R + B) * (R + B) : Nat) : Int) = ((R : Int) + B) * (R + B)) := hid (by simp)
      clear hy hn hI
      have hor : bits .or .u64 (R : Int) (B : Int) = (R : Int) + B := by rw [u64_or_nat R B (by omega) (by omega), ho]; simp
      have hq : ((R : Int) + B) * (R + B) ≤ 18446744073709551615 := by
        have := Nat.mul_le_mul (show R + B ≤ 4294967295 by omega) (show R + B ≤ 4294967295 by omega)
        have e : (((R + B) * (R + B) : Nat) : Int) = ((R : Int) + B) * (R + B) := by simp
        omega
      have hq0 : 0 ≤ ((R : Int) + B) * (R + B) := by
        have e : (((R + B) * (R + B) : Nat) : Int) = ((R : Int) + B) * (R + B) := by simp
        omega
      clear ho
      go_wp2
      · rename_i hle
        go_round
        case rel => exact ⟨R + B, B / 2, by go_num, by go_num, HY.out (by have := HQ.out; omega)⟩
        case measure => simp [intOf]; omega
      · rename_i hgt
        go_round
        case rel => exact ⟨R, B / 2, rfl, by go_num, HN.out (by have := HQ.out; omega)⟩
        case measure => simp [intOf]; omega
    · obtain rfl : B = 0 := by omega
      have := inv_end hI
      go_wp2
      go_ret
      exact ⟨ret_int (by omega), rfl⟩

set_option maxRecDepth 100000 in
theorem refRoot_any (n : Nat) (w : World) (h1 : n < 18446744073709551616) :
    Calls Tryd.prog 11 #[.int .u64 n] w fun e w' => e = .returned (.int .u32 (M.root n)) ∧ w' = w := by
  go_enter Tryd.func11, Tryd.ntmps11
  go_wp2
  go_loop [3, 4] (fun a b => ∃ l h : Nat, a = .int .u64 l ∧ b = .int .u64 h ∧ l < h ∧ h ≤ 4294967296 ∧ l * l ≤ n ∧ n < h * h) (fun a b => (intOf b - intOf a).toNat)
  case atStart => exact ⟨0, 4294967296, rfl, rfl, by omega, by omega, by omega, by omega⟩
  case round =>
    obtain ⟨l, h, rfl, rfl, hlh, hh, hl2, hh2⟩ := hrel
    by_cases h0 : 1 < h - l
    · have E : Hid ((((l + h) / 2 : Nat) : Int) = ((l : Int) + h) / 2) := hid (by omega)
      have D : Hid (((n / ((l + h) / 2) : Nat) : Int) = (n : Int) / (((l : Int) + h) / 2)) := hid (by rw [← E.out]; simp)
      have d0 : 0 ≤ (n : Int) / (((l : Int) + h) / 2) := by rw [← D.out]; exact Int.natCast_nonneg _
      have d1 : (n : Int) / (((l : Int) + h) / 2) ≤ 18446744073709551615 := by
        have g := Nat.div_le_self n ((l + h) / 2)
        rw [← D.out]
        generalize n / ((l + h) / 2) = q at g
        omega
      have K : Hid ((l + h) / 2 ≤ n / ((l + h) / 2) ↔ (l + h) / 2 * ((l + h) / 2) ≤ n) := hid (Nat.le_div_iff_mul_le (by omega))
      go_wp2
      · rename_i hm
        go_round
        case rel => exact ⟨(l + h) / 2, h, by go_num, rfl, by omega, hh, K.out.1 (by have := D.out; have := E.out; omega), hh2⟩
        case measure => simp [intOf]; omega
      · rename_i hm
        go_round
        case rel => exact ⟨l, (l + h) / 2, rfl, by go_num, by omega, by omega, hl2, by have := D.out; have := E.out; have := K.out; omega⟩
        case measure => simp [intOf]; omega
    · obtain rfl : h = l + 1 := by omega
      have := M.root_of hl2 hh2
      go_wp2
      go_ret
      exact ⟨ret_int (by omega), rfl⟩

end Logs
end Go.Proofs.YthfligbkgoonoaaDoor
