/-
  Contracts of layer 1 (fix): what each function of the package answers, for every argument of its kind. Conditions: each number fits its kind.
-/
import Derived.Test.YtbfanglillndnaaChecked
import Derived.Test.YtbfanglillndnaaFixMath
import Derived.WalkKit
import Derived.Deep.QuietTactic
import Derived.BigQuiet
namespace Go.Proofs.Ytbfanglillndnaa
open Go.RowKit

theorem ret_int {k : IntKind} {a b : Int} (h : a = b) : Ending.returned (.int k a) = .returned (.int k b) := by rw [h]

theorem within64 (n lo hi : Int) (w : World) :
    Calls Try.prog 42 #[.int .i64 n, .int .i64 lo, .int .i64 hi] w fun e w' => e = .returned (.int .i64 (M.clip n lo hi)) ∧ w' = w := by
  go_enter Try.func42, Try.ntmps42
  go_wp2
  all_goals (go_ret; exact ⟨ret_int (by unfold M.clip; (repeat' split) <;> omega), rfl⟩)

theorem within32 (n lo hi : Int) (w : World) (h0 : -2147483648 ≤ lo) (h1 : lo ≤ 2147483647) (h2 : -2147483648 ≤ hi) (h3 : hi ≤ 2147483647) (_hn : -9223372036854775808 ≤ n) (_hm : n ≤ 9223372036854775807) :
    Calls Try.prog 47 #[.int .i64 n, .int .i32 lo, .int .i32 hi] w fun e w' => e = .returned (.int .i32 (M.clip n lo hi)) ∧ w' = w := by
  go_enter Try.func47, Try.ntmps47
  go_wp2
  all_goals (go_ret; exact ⟨ret_int (by unfold M.clip; (repeat' split) <;> omega), rfl⟩)

theorem Clip_any (n lo hi : Int) (w : World) :
    Calls Try.prog 28 #[.int .i64 n, .int .i64 lo, .int .i64 hi] w fun e w' => e = .returned (.int .i64 (M.clip n lo hi)) ∧ w' = w := by
  go_enter Try.func28, Try.ntmps28
  go_wp2_with (go_at_call 42; refine (within64 _ _ _ _).mono ?_; rintro e w' ⟨rfl, rfl⟩)
  go_ret
  exact ⟨rfl, rfl⟩

theorem Sat32_any (n : Int) (w : World) (hn : -9223372036854775808 ≤ n) (hm : n ≤ 9223372036854775807) :
    Calls Try.prog 46 #[.int .i64 n] w fun e w' => e = .returned (.int .i32 (M.sat32 n)) ∧ w' = w := by
  go_enter Try.func46, Try.ntmps46
  go_wp2_with (go_at_call 47; refine (within32 _ _ _ _ (by decide) (by decide) (by decide) (by decide) hn hm).mono ?_; rintro e w' ⟨rfl, rfl⟩)
  go_ret
  exact ⟨rfl, rfl⟩

theorem i64_and1 (n : Int) : bits .and .i64 n 1 = n % 2 := by
  have h1 : (BitVec.ofInt 64 1).toNat = 2 ^ 1 - 1 := by decide
  have key : (BitVec.ofInt 64 n &&& BitVec.ofInt 64 1).toNat = (n % ((2 ^ 64 : Nat) : Int)).toNat % 2 ^ 1 := by
    rw [BitVec.toNat_and, BitVec.toNat_ofInt, h1, Nat.and_two_pow_sub_one_eq_mod]
  show IntKind.i64.wrap ((BitVec.ofInt 64 n &&& BitVec.ofInt 64 1).toNat : Nat) = n % 2
  rw [key, IntKind.wrap_i64]
  omega

theorem wrap64_id (n : Int) (h1 : -9223372036854775808 ≤ n) (h2 : n ≤ 9223372036854775807) : wrap64 n = n := by
  unfold wrap64; omega

theorem Add_any (a b : Int) (w : World) (ha : -2147483648 ≤ a ∧ a ≤ 2147483647) (hb : -2147483648 ≤ b ∧ b ≤ 2147483647) :
    Calls Try.prog 44 #[.int .i32 a, .int .i32 b] w fun e w' => e = .returned (.int .i32 (M.sat32 (a + b))) ∧ w' = w := by
  obtain ⟨ha1, ha2⟩ := ha
  obtain ⟨hb1, hb2⟩ := hb
  go_enter Try.func44, Try.ntmps44
  go_wp2_with (go_at_call 46; refine (Sat32_any _ _ (by omega) (by omega)).mono ?_; rintro e w' ⟨rfl, rfl⟩)
  go_ret
  exact ⟨rfl, rfl⟩

theorem Sub_any (a b : Int) (w : World) (ha : -2147483648 ≤ a ∧ a ≤ 2147483647) (hb : -2147483648 ≤ b ∧ b ≤ 2147483647) :
    Calls Try.prog 45 #[.int .i32 a, .int .i32 b] w fun e w' => e = .returned (.int .i32 (M.sat32 (a - b))) ∧ w' = w := by
  obtain ⟨ha1, ha2⟩ := ha
  obtain ⟨hb1, hb2⟩ := hb
  go_enter Try.func45, Try.ntmps45
  go_wp2_with (go_at_call 46; refine (Sat32_any _ _ (by omega) (by omega)).mono ?_; rintro e w' ⟨rfl, rfl⟩)
  go_ret
  exact ⟨rfl, rfl⟩

theorem blen_eq (n : Nat) : Go.bitLen n = M.blen n := rfl
theorem len_close (k : Int) (a b : Nat) (h0 : 0 ≤ k) (h1 : k ≤ 24) (ha : a ≤ 8) (hb : (b : Int) = k + a) : wrap64 (k + wrap64 (a : Int)) = (b : Int) := by
  unfold wrap64; omega
theorem len_close0 (a b : Nat) (ha : a ≤ 8) (hb : b = a) : wrap64 (wrap64 (a : Int)) = (b : Int) := by
  unfold wrap64; omega
theorem sh24 (x : Int) (h : 16777216 ≤ x) : M.blen x.toNat = 24 + M.blen (x / 65536 / 256).toNat := by
  rw [M.blen_shift x.toNat 24 (by omega)]; congr 2; omega
theorem sh16 (x : Int) (h : 65536 ≤ x) : M.blen x.toNat = 16 + M.blen (x / 65536).toNat := by
  rw [M.blen_shift x.toNat 16 (by omega)]; congr 2; omega
theorem sh8 (x : Int) (h : 256 ≤ x) : M.blen x.toNat = 8 + M.blen (x / 256).toNat := by
  rw [M.blen_shift x.toNat 8 (by omega)]; congr 2; omega

theorem fold_bd (a : Int) (ha : -2147483648 ≤ a ∧ a ≤ 2147483647) : 0 ≤ M.fold a ∧ M.fold a ≤ 2147483647 := by
  unfold M.fold; split <;> omega

theorem i32_not (a : Int) (h1 : -2147483648 ≤ a) (h2 : a < 0) : bits .xor .i32 (if IntKind.i32.signed = true then -1 else IntKind.i32.max) a % 4294967296 = -a - 1 := by
  rw [if_pos (by decide)]
  have hx : (BitVec.ofInt 32 (-1) ^^^ BitVec.ofInt 32 a).toNat = 4294967295 - (a % ((2 ^ 32 : Nat) : Int)).toNat := by
    rw [show BitVec.ofInt 32 (-1) = BitVec.allOnes 32 from by decide, BitVec.allOnes_xor, BitVec.toNat_not, BitVec.toNat_ofInt]
  show IntKind.i32.wrap ((BitVec.ofInt 32 (-1) ^^^ BitVec.ofInt 32 a).toNat : Nat) % 4294967296 = -a - 1
  rw [hx, IntKind.wrap_i32]
  omega

end Go.Proofs.Ytbfanglillndnaa
