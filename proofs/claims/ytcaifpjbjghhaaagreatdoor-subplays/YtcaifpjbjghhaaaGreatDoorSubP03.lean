import Derived.Test.YtcaifpjbjghhaaaGreatDoorChecked
import Derived.WalkKit
import Derived.Deep.QuietTactic
import Derived.BigQuiet
import Derived.Test.YtcaifpjbjghhaaaGreatDoorSubP00
/-
  Contracts of layer 1 (fix): what each function of the package answers, for every argument of its kind. Conditions: each number fits its kind.
-/
namespace Go.Proofs.YtcaifpjbjghhaaaGreatDoor
open Go.RowKit

theorem ret_int {k : IntKind} {a b : Int} (h : a = b) : Ending.returned (.int k a) = .returned (.int k b) := by rw [h]

theorem within64 (n lo hi : Int) (w : World) :
    Calls Tryz.prog 166 #[.int .i64 n, .int .i64 lo, .int .i64 hi] w fun e w' => e = .returned (.int .i64 (M.clip n lo hi)) ∧ w' = w := by
  go_enter Tryz.func166, Tryz.ntmps166
  go_wp2
  all_goals (go_ret; exact ⟨ret_int (by unfold M.clip; (repeat' split) <;> omega), rfl⟩)

theorem within32 (n lo hi : Int) (w : World) (h0 : -2147483648 ≤ lo) (h1 : lo ≤ 2147483647) (h2 : -2147483648 ≤ hi) (h3 : hi ≤ 2147483647) (_hn : -9223372036854775808 ≤ n) (_hm : n ≤ 9223372036854775807) :
    Calls Tryz.prog 242 #[.int .i64 n, .int .i32 lo, .int .i32 hi] w fun e w' => e = .returned (.int .i32 (M.clip n lo hi)) ∧ w' = w := by
  go_enter Tryz.func242, Tryz.ntmps242
  go_wp2
  all_goals (go_ret; exact ⟨ret_int (by unfold M.clip; (repeat' split) <;> omega), rfl⟩)

theorem within16 (n lo hi : Int) (w : World) (h0 : -32768 ≤ lo) (h1 : lo ≤ 32767) (h2 : -32768 ≤ hi) (h3 : hi ≤ 32767) (_hn : -9223372036854775808 ≤ n) (_hm : n ≤ 9223372036854775807) :
    Calls Tryz.prog 253 #[.int .i64 n, .int .i16 lo, .int .i16 hi] w fun e w' => e = .returned (.int .i16 (M.clip n lo hi)) ∧ w' = w := by
  go_enter Tryz.func253, Tryz.ntmps253
  go_wp2
  all_goals (go_ret; exact ⟨ret_int (by unfold M.clip; (repeat' split) <;> omega), rfl⟩)

theorem Clip_any (n lo hi : Int) (w : World) :
    Calls Tryz.prog 112 #[.int .i64 n, .int .i64 lo, .int .i64 hi] w fun e w' => e = .returned (.int .i64 (M.clip n lo hi)) ∧ w' = w := by
  go_enter Tryz.func112, Tryz.ntmps112
  go_wp2_with (go_at_call 166; refine (within64 _ _ _ _).mono ?_; rintro e w' ⟨rfl, rfl⟩)
  go_ret
  exact ⟨rfl, rfl⟩

theorem Sat32_any (n : Int) (w : World) (hn : -9223372036854775808 ≤ n) (hm : n ≤ 9223372036854775807) :
    Calls Tryz.prog 208 #[.int .i64 n] w fun e w' => e = .returned (.int .i32 (M.sat32 n)) ∧ w' = w := by
  go_enter Tryz.func208, Tryz.ntmps208
  go_wp2_with (go_at_call 242; refine (within32 _ _ _ _ (by decide) (by decide) (by decide) (by decide) hn hm).mono ?_; rintro e w' ⟨rfl, rfl⟩)
  go_ret
  exact ⟨rfl, rfl⟩

theorem Sat16_any (n : Int) (w : World) (hn : -9223372036854775808 ≤ n) (hm : n ≤ 9223372036854775807) :
    Calls Tryz.prog 223 #[.int .i64 n] w fun e w' => e = .returned (.int .i16 (M.sat16 n)) ∧ w' = w := by
  go_enter Tryz.func223, Tryz.ntmps223
  go_wp2_with (go_at_call 253; refine (within16 _ _ _ _ (by decide) (by decide) (by decide) (by decide) hn hm).mono ?_; rintro e w' ⟨rfl, rfl⟩)
  go_ret
  exact ⟨rfl, rfl⟩

theorem i64_and1 (n : Int) : bits .and .i64 n 1 = n % 2 := by
  have h1 : (BitVec.ofInt 64 1).toNat = 2 ^ 1 - 1 := by decide
  have key : (BitVec.ofInt 64 n &&& BitVec.ofInt 64 1).toNat = (n % ((2 ^ 64 : Nat) : Int)).toNat % 2 ^ 1 := by
    rw [BitVec.toNat_and, BitVec.toNat_ofInt, h1, Nat.and_two_pow_sub_one_eq_mod]
  show IntKind.i64.wrap ((BitVec.ofInt 64 n &&& BitVec.ofInt 64 1).toNat : Nat) = n % 2
  rw [key, IntKind.wrap_i64]
  omega

theorem wrap64_id (n : Int) (h1 : -9223372036854775808 ≤ n) (h2 : n ≤ 9223372036854775807) : wrap64 n = n := by
  unfold wrap64; omega

theorem Round_any (n s : Int) (w : World) (hn : -9223372036854775808 ≤ n) (hm : n ≤ 9223372036854775807) :
    Calls Tryz.prog 220 #[.int .i64 n, .int .i64 s] w fun e w' => e = .returned (.int .i64 (M.rnd n s)) ∧ ∃ m, w' = w.drewN m := by
  have hb1 : 0 ≤ M.clip s 0 62 := M.le_clip (by decide)
  have hb2 : M.clip s 0 62 ≤ 62 := M.clip_le (by decide)
  have hbd := M.rnd_bd n s hn hm
  have hz : M.clip s 0 62 = 0 → M.rnd n s = n := fun h => by unfold M.rnd; rw [if_pos h]
  have hr : 1 ≤ M.clip s 0 62 → n / 2 ^ (M.clip s 0 62).toNat + n / 2 ^ (M.clip s 0 62 - 1).toNat % 2 = M.rnd n s := fun h => by
    rw [M.rnd_code n (M.clip s 0 62) h hb2]
    unfold M.rnd
    rw [M.clip_id hb1 hb2]
  have Hz : Hid (M.clip s 0 62 = 0 → M.rnd n s = n) := hz
  have Hr : Hid (1 ≤ M.clip s 0 62 → n / 2 ^ (M.clip s 0 62).toNat + n / 2 ^ (M.clip s 0 62 - 1).toNat % 2 = M.rnd n s) := hr
  clear hz hr
  go_enter Tryz.func220, Tryz.ntmps220
  go_wp2_with (go_at_call 166; refine (within64 _ _ _ _).mono ?_; rintro e w' ⟨rfl, rfl⟩)
  · rename_i h
    go_ret
    exact ⟨ret_int (Hz.out (by simpa using h)).symm, 0, rfl⟩
  · rename_i w' h K hK
    have h1 : 1 ≤ M.clip s 0 62 := by have := beq_eq_false_iff_ne.1 h; omega
    go_quiet (fail)
    go_wp2
    go_ret
    refine ⟨ret_int ?_, nq, rfl⟩
    rw [i64_and1, show (M.clip s 0 62).toNat - 1 = (M.clip s 0 62 - 1).toNat from by omega, Hr.out h1]
    exact wrap64_id _ hbd.1 hbd.2

theorem Add_any (a b : Int) (w : World) (ha : -2147483648 ≤ a ∧ a ≤ 2147483647) (hb : -2147483648 ≤ b ∧ b ≤ 2147483647) :
    Calls Tryz.prog 168 #[.int .i32 a, .int .i32 b] w fun e w' => e = .returned (.int .i32 (M.sat32 (a + b))) ∧ w' = w := by
  obtain ⟨ha1, ha2⟩ := ha
  obtain ⟨hb1, hb2⟩ := hb
  go_enter Tryz.func168, Tryz.ntmps168
  go_wp2_with (go_at_call 208; refine (Sat32_any _ _ (by omega) (by omega)).mono ?_; rintro e w' ⟨rfl, rfl⟩)
  go_ret
  exact ⟨rfl, rfl⟩

theorem Sub_any (a b : Int) (w : World) (ha : -2147483648 ≤ a ∧ a ≤ 2147483647) (hb : -2147483648 ≤ b ∧ b ≤ 2147483647) :
    Calls Tryz.prog 169 #[.int .i32 a, .int .i32 b] w fun e w' => e = .returned (.int .i32 (M.sat32 (a - b))) ∧ w' = w := by
  obtain ⟨ha1, ha2⟩ := ha
  obtain ⟨hb1, hb2⟩ := hb
  go_enter Tryz.func169, Tryz.ntmps169
  go_wp2_with (go_at_call 208; refine (Sat32_any _ _ (by omega) (by omega)).mono ?_; rintro e w' ⟨rfl, rfl⟩)
  go_ret
  exact ⟨rfl, rfl⟩

end Go.Proofs.YtcaifpjbjghhaaaGreatDoor

/-
  Contracts of the document's answers for layer 1 (package psalteryref01). Conditions: each number fits its kind; products fit 64 bits.
-/
namespace Go.Proofs.YtcaifpjbjghhaaaGreatDoor
open Go.RowKit
namespace Ref

theorem tdiv_floor (n d : Int) (hd : 0 < d) (h : n.tmod d < 0) : n.tdiv d - 1 = n / d := by
  have e1 := Int.tmod_eq_emod (a := n) (b := d)
  have h1 := Int.emod_nonneg n (by omega : d ≠ 0)
  rw [Int.tdiv_eq_ediv]
  split
  · rename_i c; rw [if_pos c] at e1; omega
  · rw [Int.sign_eq_one_of_pos hd]; omega

theorem tdiv_plain (n d : Int) (hd : 0 < d) (h : 0 ≤ n.tmod d) : n.tdiv d = n / d := by
  have e1 := Int.tmod_eq_emod (a := n) (b := d)
  have h2 := Int.emod_lt_of_pos n hd
  rw [Int.tdiv_eq_ediv]
  split
  · omega
  · rename_i c; rw [if_neg c] at e1; omega

theorem ediv_bd (n d : Int) (hn : -9223372036854775808 ≤ n) (hm : n ≤ 9223372036854775807) (hd : 1 ≤ d) : -9223372036854775808 ≤ n / d ∧ n / d ≤ 9223372036854775807 := by
  constructor
  · rw [Int.le_ediv_iff_mul_le (by omega)]
    have : 9223372036854775808 * 1 ≤ 9223372036854775808 * d := Int.mul_le_mul_of_nonneg_left hd (by omega)
    omega
  · apply Int.ediv_le_of_le_mul (by omega)
    have : 9223372036854775807 * 1 ≤ 9223372036854775807 * d := Int.mul_le_mul_of_nonneg_left hd (by omega)
    omega

theorem down_any (n d : Int) (w : World) (hn : -9223372036854775808 ≤ n) (hm : n ≤ 9223372036854775807) (hd : 1 ≤ d) (hd2 : d ≤ 9223372036854775807) :
    Calls Tryz.prog 197 #[.int .i64 n, .int .i64 d] w fun e w' => e = .returned (.int .i64 (n / d)) ∧ w' = w := by
  have hb := ediv_bd n d hn hm hd
  go_enter Tryz.func197, Tryz.ntmps197
  go_wp2
  · rename_i h
    go_ret
    exact ⟨ret_int (by rw [tdiv_floor n d (by omega) h]; exact wrap64_id _ hb.1 hb.2), rfl⟩
  · rename_i h
    go_ret
    exact ⟨ret_int (tdiv_plain n d (by omega) h), rfl⟩

theorem Sat_any (n : Int) (w : World) (hn : -9223372036854775808 ≤ n) (hm : n ≤ 9223372036854775807) :
    Calls Tryz.prog 127 #[.int .i64 n, .int .i64 32] w fun e w' => e = .returned (.int .i64 (M.sat32 n)) ∧ w' = w := by
  go_enter Tryz.func127, Tryz.ntmps127
  go_wp2
  all_goals (go_ret; exact ⟨ret_int (by unfold M.sat32 M.clip; (repeat' split) <;> omega), rfl⟩)

theorem pow_le61 (k : Nat) (h : k ≤ 61) : (2 : Int) ^ k ≤ 2305843009213693952 := by
  have h1 : 2 ^ k ≤ 2 ^ 61 := Nat.pow_le_pow_right (by omega) h
  have e : ((2 ^ k : Nat) : Int) = (2 : Int) ^ k := by simp
  omega

theorem div_bd (n : Int) (k : Nat) (h1 : -9223372036854775808 ≤ n) (h2 : n ≤ 9223372036854775806) : -9223372036854775808 ≤ n / 2 ^ k ∧ n / 2 ^ k ≤ 9223372036854775806 := by
  have hp := M.pow_pos k
  have h := ediv_bd n (2 ^ k) h1 (by omega) hp
  refine ⟨h.1, ?_⟩
  apply Int.ediv_le_of_le_mul hp
  have : 9223372036854775806 * 1 ≤ 9223372036854775806 * (2 : Int) ^ k := Int.mul_le_mul_of_nonneg_left hp (by omega)
  omega

theorem rnd_in (n s : Int) (h1 : 1 ≤ s) (h2 : s ≤ 62) : M.rnd n s = (n / 2 ^ (s.toNat - 1) + 1) / 2 := by
  unfold M.rnd
  rw [M.clip_id (by omega) h2, if_neg (by omega), show (s - 1).toNat = s.toNat - 1 from by omega]

theorem Round_any (n s : Int) (w : World) (hn : -9223372036854775808 ≤ n) (hm : n ≤ 9223372036854775806) :
    Calls Tryz.prog 154 #[.int .i64 n, .int .i64 s] w fun e w' => e = .returned (.int .i64 (M.rnd n s)) ∧ w' = w := by
  rcases Int.lt_or_le s 0 with h | h
  · have e : M.rnd n s = n := by unfold M.rnd; rw [if_pos (by unfold M.clip; rw [if_pos h])]
    go_enter Tryz.func154, Tryz.ntmps154
    go_wp2
    go_ret
    exact ⟨ret_int e.symm, rfl⟩
  rcases Int.lt_or_le s 1 with h | h
  · obtain rfl : s = 0 := by omega
    have e : M.rnd n 0 = n := by unfold M.rnd; rw [if_pos (by decide)]
    go_enter Tryz.func154, Tryz.ntmps154
    go_wp2
    go_ret
    exact ⟨ret_int e.symm, rfl⟩
  rcases Int.lt_or_le 62 s with g | g
  · have e : M.rnd n s = (n / 2305843009213693952 + 1) / 2 := by
      unfold M.rnd; rw [show M.clip s 0 62 = 62 from by unfold M.clip; rw [if_neg (by omega), if_pos g]]; rfl
    go_enter Tryz.func154, Tryz.ntmps154
    go_wp2_with (go_at_call 197; refine (down_any _ _ _ (by omega) (by omega) (by omega) (by omega)).mono ?_; rintro e w' ⟨rfl, rfl⟩)
    go_ret
    exact ⟨ret_int e.symm, rfl⟩
  · have e := rnd_in n s h g
    have hb := div_bd n (s.toNat - 1) hn hm
    have p1 := M.pow_pos (s.toNat - 1)
    have p2 := pow_le61 (s.toNat - 1) (by omega)
    have E : Hid (M.rnd n s = (n / 2 ^ (s.toNat - 1) + 1) / 2) := e
    clear e
    go_enter Tryz.func154, Tryz.ntmps154
    go_wp2_with (go_at_call 197; refine (down_any _ _ _ (by omega) (by omega) (by omega) (by omega)).mono ?_; rintro e w' ⟨rfl, rfl⟩)
    go_ret
    exact ⟨ret_int E.out.symm, rfl⟩

end Ref
end Go.Proofs.YtcaifpjbjghhaaaGreatDoor

/-
  Contracts of package quant and of the document's answer: reach, levels, which scale and bits may be, powers of two and divisions. Conditions: as told at each.
-/
namespace Go.Proofs.YtcaifpjbjghhaaaGreatDoor
set_option linter.unusedVariables false
open Go.RowKit
namespace Qnt

theorem reachBits_any (s : Nat) (w : World) (h : s ≤ 15) : Calls Tryz.prog 115 #[.int .i64 (s : Int)] w fun e w' => e = .returned (.int .i64 ((s : Int) + 1)) ∧ w' = w := by
  have h' : (s : Int) ≤ 15 := by omega
  go_enter Tryz.func115, Tryz.ntmps115
  go_wp2
  go_ret
  exact ⟨rfl, rfl⟩

theorem reach_any (s : Nat) (w : World) (h : s ≤ 15) : Calls Tryz.prog 113 #[.int .i64 (s : Int)] w fun e w' => e = .returned (.int .i64 (M.rch s)) ∧ w' = w := by
  have h' : (s : Int) ≤ 15 := by omega
  have hb := M.rch_bd h
  have H : Hid (M.rch s = 2 ^ (s + 1)) := rfl
  go_enter Tryz.func113, Tryz.ntmps113
  go_wp2_with (go_at_call 115; refine (reachBits_any s _ h).mono ?_; rintro e w' ⟨rfl, rfl⟩)
  go_ret
  refine ⟨ret_int ?_, rfl⟩
  rw [← H.out]
  exact wrap64_id _ (by omega) (by omega)

theorem levels_any (b : Nat) (w : World) (h : b ≤ 16) : Calls Tryz.prog 114 #[.int .i64 (b : Int)] w fun e w' => e = .returned (.int .i64 (M.lvl b)) ∧ w' = w := by
  have h' : (b : Int) ≤ 16 := by omega
  have H : Hid (M.lvl b = 2 ^ b - 1) := rfl
  have hp : (2 : Int) ^ b ≤ 65536 := by
    have h1 : 2 ^ b ≤ 2 ^ 16 := Nat.pow_le_pow_right (by omega) h
    have e : ((2 ^ b : Nat) : Int) = (2 : Int) ^ b := by simp
    omega
  have hp0 := M.pow_pos b
  go_enter Tryz.func114, Tryz.ntmps114
  go_wp2
  go_ret
  refine ⟨ret_int ?_, rfl⟩
  rw [H.out]

theorem canBe_ok (s b : Int) (w : World) (h : M.mayQ s b) : Calls Tryz.prog 111 #[.int .i64 s, .int .i64 b] w fun e w' => e = .returned (.bool true) ∧ w' = w := by
  obtain ⟨h0, h1, h2⟩ := h
  rcases h2 with rfl | ⟨h2, h3⟩
  · go_enter Tryz.func111, Tryz.ntmps111
    go_wp2
    go_ret
    exact ⟨rfl, rfl⟩
  · go_enter Tryz.func111, Tryz.ntmps111
    go_wp2
    go_ret
    exact ⟨rfl, rfl⟩

theorem canBe_no (s b : Int) (w : World) (h : ¬ M.mayQ s b) : Calls Tryz.prog 111 #[.int .i64 s, .int .i64 b] w fun e w' => e = .returned (.bool false) ∧ w' = w := by
  have H : Hid (¬ M.mayQ s b) := h
  clear h
  go_enter Tryz.func111, Tryz.ntmps111
  go_wp2
  all_goals (
    go_ret
    first
      | exact ⟨rfl, rfl⟩
      | (refine ⟨?_, rfl⟩
         have := H.out
         unfold M.mayQ at this
         simp_all <;> omega))

theorem down_any (n d : Int) (w : World) (hn : -9223372036854775808 ≤ n) (hm : n ≤ 9223372036854775807) (hd : 1 ≤ d) (hd2 : d ≤ 9223372036854775807) :
    Calls Tryz.prog 121 #[.int .i64 n, .int .i64 d] w fun e w' => e = .returned (.int .i64 (n / d)) ∧ w' = w := by
  have hb := Ref.ediv_bd n d hn hm hd
  have e0 : n.tdiv d * d = n - n.tmod d := by have := Int.mul_tdiv_add_tmod n d; rw [Int.mul_comm] at this; omega
  have r1 := Int.tmod_lt_of_pos n (by omega : 0 < d)
  have r0 : ∀ m : Int, 0 ≤ m → 0 ≤ m.tmod d ∧ m.tmod d ≤ m := fun m h => by
    rw [Int.tmod_eq_emod_of_nonneg h]
    have h1 := Int.emod_nonneg m (by omega : d ≠ 0)
    have h2 := Int.mul_ediv_add_emod m d
    have h3 : 0 ≤ d * (m / d) := Int.mul_nonneg (by omega) (Int.ediv_nonneg h (by omega))
    omega
  have r2 : n < 0 → n ≤ n.tmod d ∧ n.tmod d ≤ 0 := fun h => by
    have := r0 (-n) (by omega)
    rw [Int.neg_tmod] at this
    omega
  have r3 := r0 n
  have K1 : Hid (n.tmod d < 0 → n.tdiv d - 1 = n / d) := fun h => Ref.tdiv_floor n d (by omega) h
  have K2 : Hid (0 ≤ n.tmod d → n.tdiv d = n / d) := fun h => Ref.tdiv_plain n d (by omega) h
  have e1 : -9223372036854775808 ≤ n.tdiv d * d ∧ n.tdiv d * d ≤ 9223372036854775807 := by omega
  obtain ⟨e11, e12⟩ := e1
  go_enter Tryz.func121, Tryz.ntmps121
  go_wp2
  · rename_i h
    go_ret
    refine ⟨ret_int ?_, rfl⟩
    rw [K1.out (by omega)]
    exact wrap64_id _ hb.1 hb.2
  · rename_i h
    go_ret
    exact ⟨ret_int (K2.out (by omega)), rfl⟩

end Qnt
end Go.Proofs.YtcaifpjbjghhaaaGreatDoor

/-
  Contracts of package quant and of the document's answer: the scale of a number, a number in a few bits, and back. Conditions: as told at each.
-/
namespace Go.Proofs.YtcaifpjbjghhaaaGreatDoor
set_option linter.unusedVariables false
open Go.RowKit
namespace Qnt

theorem Scale_any (x : Int) (w : World) : Calls Tryz.prog 159 #[.int .i64 x] w fun e w' => e = .returned (.int .i64 (M.sc x)) ∧ w' = w := by
  have H0 : Hid (M.sc x = M.scf x 0 15) := rfl
  go_enter Tryz.func159, Tryz.ntmps159
  go_wp2
  go_loop [4] (fun i => ∃ k : Nat, k ≤ 15 ∧ i = .int .i64 k ∧ M.sc x = M.scf x k (15 - k)) (fun i => 15 - (intOf i).toNat)
  case atStart => exact ⟨0, by omega, rfl, rfl⟩
  case round =>
    clear H0
    obtain ⟨k, hk, rfl, hs⟩ := hrel
    by_cases hlt : k < 15
    · have hlt' : (k : Int) < 15 := by omega
      have hr := fun w => reach_any k w hk
      have e : 15 - k = (15 - (k + 1)) + 1 := by omega
      rw [e] at hs
      have HS : Hid (M.sc x = M.scf x k (15 - (k + 1) + 1)) := hs
      clear hs e
      have HP : Hid (x < M.rch k → M.scf x k (15 - (k + 1) + 1) = k) := fun h => M.scf_at h
      have HQ : Hid (¬ x < M.rch k → M.scf x k (15 - (k + 1) + 1) = M.scf x (k + 1) (15 - (k + 1))) := fun h => M.scf_past h
      generalize M.rch k = R at *
      go_wp2_with (go_at_call 113; refine (hr _).mono ?_; rintro e w' ⟨rfl, rfl⟩)
      · rename_i h
        go_ret
        exact ⟨ret_int (by rw [HS.out, HP.out h]), rfl⟩
      · rename_i h
        go_round
        case rel => exact ⟨k + 1, by omega, by go_num, by rw [HS.out, HQ.out (by omega)]⟩
        case measure => simp [intOf]; omega
    · obtain rfl : k = 15 := by omega
      have HS : Hid (M.sc x = 15) := hs
      clear hs
      go_wp2
      go_ret
      exact ⟨ret_int (by rw [HS.out]; rfl), rfl⟩

def qt (x : Int) (s b : Nat) : Int := if b = 0 then 0 else M.qz x (M.rch s) (M.lvl b)
def okL (q : Int) (b : Nat) : Prop := 0 ≤ q ∧ ((b = 0 ∧ q = 0) ∨ (b ≠ 0 ∧ q < M.lvl b))

theorem Quant_zero (x s : Int) (w : World) (h : M.mayQ s 0) : Calls Tryz.prog 51 #[.int .i32 x, .int .i64 s, .int .i64 0] w fun e w' => e = .returned (.tuple #[.int .i64 0, .int .i64 0]) ∧ w' = w := by
  have hc := fun w => canBe_ok s 0 w h
  go_enter Tryz.func51, Tryz.ntmps51
  go_wp2_with (go_at_call 111; refine (hc _).mono ?_; rintro e w' ⟨rfl, rfl⟩)
  go_ret2
  exact ⟨rfl, rfl⟩

theorem Quant_no (x s b : Int) (w : World) (h : ¬ M.mayQ s b) : Calls Tryz.prog 51 #[.int .i32 x, .int .i64 s, .int .i64 b] w fun e w' => e = .returned (.tuple #[.int .i64 0, .int .i64 1]) ∧ w' = w := by
  have hc := fun w => canBe_no s b w h
  go_enter Tryz.func51, Tryz.ntmps51
  go_wp2_with (go_at_call 111; refine (hc _).mono ?_; rintro e w' ⟨rfl, rfl⟩)
  go_ret2
  exact ⟨rfl, rfl⟩

theorem Quant_some (x : Int) (s b : Nat) (w : World) (hx : -2147483648 ≤ x ∧ x ≤ 2147483647) (hs : s ≤ 15) (hb2 : 2 ≤ b) (hb16 : b ≤ 16) : Calls Tryz.prog 51 #[.int .i32 x, .int .i64 (s : Int), .int .i64 (b : Int)] w fun e w' => e = .returned (.tuple #[.int .i64 (M.qz x (M.rch s) (M.lvl b)), .int .i64 0]) ∧ ∃ m, w' = w.drewN m := by
  have hc := fun w => canBe_ok s b w ⟨by omega, by omega, by omega⟩
  have hb' : ((b : Int) == 0) = false := by simp; omega
  have hr := fun w => reach_any s w hs
  have hl := fun w => levels_any b w hb16
  have hk := fun w => reachBits_any s w hs
  obtain ⟨R1, R2⟩ := M.rch_bd hs
  obtain ⟨L1, L2, _⟩ := M.lvl_bd hb2 hb16
  have HR : Hid (M.rch s = 2 ^ (s + 1)) := rfl
  have c1 : 1 - M.rch s ≤ M.clip x (1 - M.rch s) (M.rch s - 1) := M.le_clip (by omega)
  have c2 : M.clip x (1 - M.rch s) (M.rch s - 1) ≤ M.rch s - 1 := M.clip_le (by omega)
  obtain ⟨p1, p2⟩ := M.prod_bd (by omega) R2 (by omega) L2 c1 c2
  obtain ⟨d1, d2, _⟩ := M.qpart_bd (by omega) (by omega) c1 c2 (L := M.lvl b)
  have HZ : Hid (M.qz x (M.rch s) (M.lvl b) = (M.clip x (1 - M.rch s) (M.rch s - 1) * M.lvl b / M.rch s + M.lvl b) / 2) := rfl
  have hcl := fun w => Clip_any x (1 - M.rch s) (M.rch s - 1) w
  generalize M.qz x (M.rch s) (M.lvl b) = z at *
  generalize M.clip x (1 - M.rch s) (M.rch s - 1) = c at *
  generalize M.rch s = R at *
  generalize M.lvl b = L at *
  have s15 : (s : Int) ≤ 15 := by omega
  rw [HR.out] at d1 d2 HZ
  go_enter Tryz.func51, Tryz.ntmps51
  go_wp2_with (first
    | (go_at_call 111; refine (hc _).mono ?_; rintro e w' ⟨rfl, rfl⟩)
    | (go_at_call 113; refine (hr _).mono ?_; rintro e w' ⟨rfl, rfl⟩)
    | (go_at_call 112; refine (hcl _).mono ?_; rintro e w' ⟨rfl, rfl⟩))
  go_quiet (first
    | (go_at_call 114; exact Calls.quiet_of_same (hl _))
    | (go_at_call 115; exact Calls.quiet_of_same (hk _)))
  go_wp2
  go_ret2
  refine ⟨?_, nq, rfl⟩
  rw [HZ.out]; rfl

end Qnt
end Go.Proofs.YtcaifpjbjghhaaaGreatDoor

/-
  Contracts of package quant and of the document's answer: the number of a few bits. Conditions: as told at each.
-/
namespace Go.Proofs.YtcaifpjbjghhaaaGreatDoor
set_option linter.unusedVariables false
open Go.RowKit
namespace Qnt

def noL (q s b : Int) : Prop := ¬ M.mayQ s b ∨ q < 0 ∨ (b = 0 ∧ 1 ≤ q) ∨ (2 ≤ b ∧ 2 ^ b.toNat - 1 ≤ q)

theorem Level_zero (s : Int) (w : World) (h : M.mayQ s 0) : Calls Tryz.prog 119 #[.int .i64 0, .int .i64 s, .int .i64 0] w fun e w' => e = .returned (.tuple #[.int .i32 0, .int .i64 0]) ∧ w' = w := by
  have hc := fun w => canBe_ok s 0 w h
  have hl := fun w => levels_any 0 w (by omega)
  go_enter Tryz.func119, Tryz.ntmps119
  go_wp2_with (first
    | (go_at_call 111; refine (hc _).mono ?_; rintro e w' ⟨rfl, rfl⟩)
    | (go_at_call 114; refine (hl _).mono ?_; rintro e w' ⟨rfl, rfl⟩; rw [show M.lvl 0 = 0 from rfl]))
  go_ret2
  exact ⟨rfl, rfl⟩

theorem Level_no (q s b : Int) (w : World) (h : noL q s b) : Calls Tryz.prog 119 #[.int .i64 q, .int .i64 s, .int .i64 b] w fun e w' => e = .returned (.tuple #[.int .i32 0, .int .i64 1]) ∧ w' = w := by
  by_cases hm : M.mayQ s b
  · have hc := fun w => canBe_ok s b w hm
    obtain ⟨h0, h1, h2⟩ := hm
    by_cases hq : q < 0
    · clear h
      go_enter Tryz.func119, Tryz.ntmps119
      go_wp2_with (go_at_call 111; refine (hc _).mono ?_; rintro e w' ⟨rfl, rfl⟩)
      go_ret2
      exact ⟨rfl, rfl⟩
    · rcases h with h | h | ⟨rfl, h⟩ | ⟨h3, h⟩
      · exact absurd ⟨h0, h1, h2⟩ h
      · omega
      · have hl := fun w => levels_any 0 w (by omega)
        go_enter Tryz.func119, Tryz.ntmps119
        go_wp2_with (first
          | (go_at_call 111; refine (hc _).mono ?_; rintro e w' ⟨rfl, rfl⟩)
          | (go_at_call 114; refine (hl _).mono ?_; rintro e w' ⟨rfl, rfl⟩; rw [show M.lvl 0 = 0 from rfl]))
        go_ret2
        exact ⟨rfl, rfl⟩
      · obtain ⟨n, rfl⟩ : ∃ n : Nat, b = n := ⟨b.toNat, by omega⟩
        have hl := fun w => levels_any n w (by omega)
        have hb := M.lvl_bd (b := n) (by omega) (by omega)
        have h' : M.lvl n ≤ q := h
        obtain ⟨hb1, hb2, _⟩ := hb
        clear h
        generalize M.lvl n = L at *
        go_enter Tryz.func119, Tryz.ntmps119
        go_wp2_with (first
          | (go_at_call 111; refine (hc _).mono ?_; rintro e w' ⟨rfl, rfl⟩)
          | (go_at_call 114; refine (hl _).mono ?_; rintro e w' ⟨rfl, rfl⟩))
        go_ret2
        exact ⟨rfl, rfl⟩
  · have hc := fun w => canBe_no s b w hm
    clear h
    go_enter Tryz.func119, Tryz.ntmps119
    go_wp2_with (go_at_call 111; refine (hc _).mono ?_; rintro e w' ⟨rfl, rfl⟩)
    go_ret2
    exact ⟨rfl, rfl⟩

set_option maxHeartbeats 4000000 in
theorem Level_some (q : Int) (s b : Nat) (w : World) (hs : s ≤ 15) (hb2 : 2 ≤ b) (hb16 : b ≤ 16) (q0 : 0 ≤ q) (q1 : q < M.lvl b) : Calls Tryz.prog 119 #[.int .i64 q, .int .i64 (s : Int), .int .i64 (b : Int)] w fun e w' => e = .returned (.tuple #[.int .i32 (M.lz q (M.rch s) (M.lvl b)), .int .i64 0]) ∧ ∃ m, w' = w.drewN m := by
  have hc := fun w => canBe_ok s b w ⟨by omega, by omega, by omega⟩
  have hb' : ((b : Int) == 0) = false := by simp; omega
  have hr := fun w => reach_any s w hs
  have hl := fun w => levels_any b w hb16
  have hk := fun w => reachBits_any s w hs
  obtain ⟨R1, R2⟩ := M.rch_bd hs
  obtain ⟨L1, L2, _⟩ := M.lvl_bd hb2 hb16
  have hp : 0 ≤ (2 * q + 1) * 2 ^ (s + 1) ∧ (2 * q + 1) * 2 ^ (s + 1) ≤ 8589934592 := M.lzp_bd (q := q) (R := M.rch s) (by omega) R2 q0 (by omega)
  obtain ⟨p1, p2⟩ := hp
  obtain ⟨z1, z2⟩ := M.lz_bd (by omega) R2 (by omega) q0 q1
  have HZ : Hid (M.lz q (M.rch s) (M.lvl b) = (2 * q + 1) * 2 ^ (s + 1) / M.lvl b - M.rch s) := rfl
  have d1 : -65536 ≤ (2 * q + 1) * 2 ^ (s + 1) / M.lvl b - M.rch s := by rw [← HZ.out]; omega
  have d2 : (2 * q + 1) * 2 ^ (s + 1) / M.lvl b - M.rch s ≤ 131072 := by rw [← HZ.out]; omega
  generalize M.lz q (M.rch s) (M.lvl b) = z at *
  generalize M.rch s = R at *
  generalize M.lvl b = L at *
  have s15 : (s : Int) ≤ 15 := by omega
  go_enter Tryz.func119, Tryz.ntmps119
  go_wp2_with (first
    | (go_at_call 111; refine (hc _).mono ?_; rintro e w' ⟨rfl, rfl⟩)
    | (go_at_call 114; refine (hl _).mono ?_; rintro e w' ⟨rfl, rfl⟩))
  go_quiet (first
    | (go_at_call 114; exact Calls.quiet_of_same (hl _))
    | (go_at_call 113; exact Calls.quiet_of_same (hr _))
    | (go_at_call 115; exact Calls.quiet_of_same (hk _)))
  go_wp2
  go_ret2
  exact ⟨by rw [HZ.out]; rfl, nq, rfl⟩

end Qnt
end Go.Proofs.YtcaifpjbjghhaaaGreatDoor

/-
  Contracts of package quant and of the document's answer, for any scale and any bits; the chapter's examples; the law of levels. Conditions: as told at each.
-/
namespace Go.Proofs.YtcaifpjbjghhaaaGreatDoor
set_option linter.unusedVariables false
open Go.RowKit
namespace Qnt

def qa (x s b : Int) : Int × Int := if 0 ≤ s ∧ s ≤ 15 ∧ (b = 0 ∨ (2 ≤ b ∧ b ≤ 16)) then (if b = 0 then (0, 0) else (M.qz x (M.rch s.toNat) (M.lvl b.toNat), 0)) else (0, 1)
def la (q s b : Int) : Int × Int :=
  if 0 ≤ s ∧ s ≤ 15 ∧ (b = 0 ∨ (2 ≤ b ∧ b ≤ 16)) then
    (if b = 0 then (if q = 0 then (0, 0) else (0, 1)) else if 0 ≤ q ∧ q < M.lvl b.toNat then (M.lz q (M.rch s.toNat) (M.lvl b.toNat), 0) else (0, 1))
  else (0, 1)
theorem qa_no {x s b : Int} (h : ¬ M.mayQ s b) : qa x s b = (0, 1) := if_neg h
theorem qa_zero {x s : Int} (h : M.mayQ s 0) : qa x s 0 = (0, 0) := by
  unfold qa
  rw [if_pos (show 0 ≤ s ∧ s ≤ 15 ∧ ((0 : Int) = 0 ∨ (2 : Int) ≤ 0 ∧ (0 : Int) ≤ 16) from h), if_pos rfl]
theorem qa_some {x : Int} {s b : Nat} (hs : s ≤ 15) (hb2 : 2 ≤ b) (hb16 : b ≤ 16) : qa x s b = (M.qz x (M.rch s) (M.lvl b), 0) := by
  unfold qa; rw [if_pos (by omega), if_neg (by omega)]; simp
theorem la_no {q s b : Int} (h : noL q s b) : la q s b = (0, 1) := by
  unfold la
  split
  · rename_i h'
    rcases h with h | h | ⟨rfl, h⟩ | ⟨h2, h⟩
    · exact absurd h' h
    · split
      · rw [if_neg (by omega)]
      · rw [if_neg (by omega)]
    · rw [if_pos rfl, if_neg (by omega)]
    · have h3 : M.lvl b.toNat ≤ q := h
      rw [if_neg (by omega), if_neg (by omega)]
  · rfl
theorem la_zero {s : Int} (h : M.mayQ s 0) : la 0 s 0 = (0, 0) := by
  unfold la
  rw [if_pos (show 0 ≤ s ∧ s ≤ 15 ∧ ((0 : Int) = 0 ∨ (2 : Int) ≤ 0 ∧ (0 : Int) ≤ 16) from h), if_pos rfl, if_pos rfl]
theorem la_some {q : Int} {s b : Nat} (hs : s ≤ 15) (hb2 : 2 ≤ b) (hb16 : b ≤ 16) (q0 : 0 ≤ q) (q1 : q < M.lvl b) : la q s b = (M.lz q (M.rch s) (M.lvl b), 0) := by
  unfold la; rw [if_pos (by omega), if_neg (by omega), if_pos (by simpa using ⟨q0, q1⟩)]; simp

theorem Quant_any (x s b : Int) (w : World) (hx : -2147483648 ≤ x ∧ x ≤ 2147483647) : Calls Tryz.prog 51 #[.int .i32 x, .int .i64 s, .int .i64 b] w fun e w' => e = .returned (.tuple #[.int .i64 (qa x s b).1, .int .i64 (qa x s b).2]) ∧ ∃ m, w' = w.drewN m := by
  by_cases h : M.mayQ s b
  · by_cases hb : b = 0
    · subst hb
      rw [qa_zero h]
      exact (Quant_zero x s w h).mono (by rintro e w' ⟨rfl, rfl⟩; exact ⟨rfl, 0, rfl⟩)
    · obtain ⟨h0, h1, h2⟩ := h
      obtain ⟨n, rfl⟩ : ∃ n : Nat, s = n := ⟨s.toNat, by omega⟩
      obtain ⟨k, rfl⟩ : ∃ k : Nat, b = k := ⟨b.toNat, by omega⟩
      rw [qa_some (by omega) (by omega) (by omega)]
      exact Quant_some x n k w hx (by omega) (by omega) (by omega)
  · rw [qa_no h]
    exact (Quant_no x s b w h).mono (by rintro e w' ⟨rfl, rfl⟩; exact ⟨rfl, 0, rfl⟩)

theorem la_cases (q s b : Int) : noL q s b ∨ (M.mayQ s 0 ∧ q = 0 ∧ b = 0) ∨ ∃ n k : Nat, s = n ∧ b = k ∧ n ≤ 15 ∧ 2 ≤ k ∧ k ≤ 16 ∧ 0 ≤ q ∧ q < M.lvl k := by
  by_cases h : M.mayQ s b
  · obtain ⟨h0, h1, h2⟩ := id h
    by_cases hq : q < 0
    · exact .inl (.inr (.inl hq))
    · by_cases hb : b = 0
      · subst hb
        by_cases hq1 : 1 ≤ q
        · exact .inl (.inr (.inr (.inl ⟨rfl, hq1⟩)))
        · exact .inr (.inl ⟨h, by omega, rfl⟩)
      · by_cases hl : M.lvl b.toNat ≤ q
        · exact .inl (.inr (.inr (.inr ⟨by omega, hl⟩)))
        · exact .inr (.inr ⟨s.toNat, b.toNat, by omega, by omega, by omega, by omega, by omega, by omega, by omega⟩)
  · exact .inl (.inl h)

theorem Level_any (q s b : Int) (w : World) : Calls Tryz.prog 119 #[.int .i64 q, .int .i64 s, .int .i64 b] w fun e w' => e = .returned (.tuple #[.int .i32 (la q s b).1, .int .i64 (la q s b).2]) ∧ ∃ m, w' = w.drewN m := by
  rcases la_cases q s b with h | ⟨h, rfl, rfl⟩ | ⟨n, k, rfl, rfl, h1, h2, h3, h4, h5⟩
  · rw [la_no h]
    exact (Level_no q s b w h).mono (by rintro e w' ⟨rfl, rfl⟩; exact ⟨rfl, 0, rfl⟩)
  · rw [la_zero h]
    exact (Level_zero s w h).mono (by rintro e w' ⟨rfl, rfl⟩; exact ⟨rfl, 0, rfl⟩)
  · rw [la_some h1 h2 h3 h4 h5]
    exact Level_some q n k w h1 h2 h3 h4 h5

theorem bel_drewN (w : World) (m : Nat) : Below w.heap.size w (w.drewN m) := ⟨rfl, rfl, rfl, Nat.le_refl _, fun _ _ => rfl⟩

end Qnt
end Go.Proofs.YtcaifpjbjghhaaaGreatDoor

