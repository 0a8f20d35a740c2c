import Derived.Test.YtcaifpjbjghhaaaGreatDoorProg
import Derived.OwnWalk
import Derived.Deep.Quiet
import Derived.Deep.QuietTactic
import Derived.Test.YtcaifpjbjghhaaaGreatDoorSubP01
import Derived.Test.YtcaifpjbjghhaaaGreatDoorSubP02
/-
  Contracts of the small functions of package check: kindOf, size, next, over. Conditions: as told at each.
-/
namespace Go.Proofs.YtcaifpjbjghhaaaGreatDoor
set_option linter.unusedVariables false
open Go.RowKit
namespace Chk
open Bits (Blk But add_at wrap_id)

def Knd (w s p : Nat) : Prop := (w = 8 ∧ s = 15 ∧ p = 29) ∨ (w = 16 ∧ s = 65535 ∧ p = 4129) ∨ (w = 24 ∧ s = 5592405 ∧ p = 1627)
def kv (w s p : Nat) : Value := .agg #[.int .i64 w, .int .u32 s, .int .u32 p]

theorem Knd.odd {w s p : Nat} (h : Knd w s p) : p % 2 = 1 := by rcases h with ⟨_, _, rfl⟩ | ⟨_, _, rfl⟩ | ⟨_, _, rfl⟩ <;> decide
theorem Knd.pos {w s p : Nat} (h : Knd w s p) : 0 < w := by rcases h with ⟨rfl, _, _⟩ | ⟨rfl, _, _⟩ | ⟨rfl, _, _⟩ <;> decide
theorem Knd.p_lt {w s p : Nat} (h : Knd w s p) : p < 2 ^ w := by rcases h with ⟨rfl, _, rfl⟩ | ⟨rfl, _, rfl⟩ | ⟨rfl, _, rfl⟩ <;> decide
theorem Knd.s_lt {w s p : Nat} (h : Knd w s p) : s < 2 ^ w := by rcases h with ⟨rfl, rfl, _⟩ | ⟨rfl, rfl, _⟩ | ⟨rfl, rfl, _⟩ <;> decide
theorem Knd.small {w s p : Nat} (h : Knd w s p) : 2 ^ w ≤ 16777216 := by rcases h with ⟨rfl, _, _⟩ | ⟨rfl, _, _⟩ | ⟨rfl, _, _⟩ <;> decide
set_option maxRecDepth 100000 in
theorem kindOf_ok (n s p : Nat) (w : World) (hk : Knd n s p) :
    Calls Tryz.prog 182 #[.int .i64 n] w fun e w' => e = .returned (.tuple #[kv n s p, .bool true]) ∧ Below w.heap.size w w' := by
  unfold kv
  rcases hk with ⟨rfl, rfl, rfl⟩ | ⟨rfl, rfl, rfl⟩ | ⟨rfl, rfl, rfl⟩
  all_goals (
    go_enter Tryz.func182, Tryz.ntmps182
    go_wp2
    refine bodyPost_ret (v := .tuple #[.agg #[.int .i64 _, .int .u32 _, .int .u32 _], .bool true]) (by simp [results, Tryz.results182, go_sem]; exact ⟨rfl, rfl, rfl⟩) rfl ?_
    exact ⟨rfl, (Below.refl _ w).alloc (Nat.le_refl _) _⟩)

theorem top_bit (n x : Nat) (h0 : 0 < n) (hx : x < 2 ^ n) : x / 2 ^ (n - 1) = (x.testBit (n - 1)).toNat := by
  obtain ⟨v, rfl⟩ : ∃ v, n = v + 1 := ⟨n - 1, by omega⟩
  rw [Nat.add_sub_cancel, Nat.testBit_eq_decide_div_mod_eq]
  have h2 : x / 2 ^ v < 2 := by rw [Nat.div_lt_iff_lt_mul (Nat.two_pow_pos v)]; rw [Nat.pow_succ] at hx; omega
  generalize x / 2 ^ v = z at h2
  rcases (by omega : z = 0 ∨ z = 1) with rfl | rfl <;> rfl
theorem mask (n : Nat) (x : Nat) (hx : x < 2147483648) (hn : 2 ^ n ≤ 16777216) : bits .and .u32 ((x : Int) * 2) ((2 ^ n - 1 : Nat) : Int) = ((2 * x % 2 ^ n : Nat) : Int) := by
  rw [show (x : Int) * 2 = ((2 * x : Nat) : Int) by omega, u32_and_nat _ _ (by omega) (by omega), Nat.and_two_pow_sub_one_eq_mod]

set_option maxRecDepth 100000 in
theorem next_any (n s p x : Nat) (b : Bool) (w : World) (hk : Knd n s p) (hx : x < 2 ^ n) :
    Calls Tryz.prog 244 #[kv n s p, .int .u32 x, .int .u32 (b.toNat : Nat)] w fun e w' => e = .returned (.int .u32 (M.nxb n p x b : Nat)) ∧ Below w.heap.size w w' := by
  have hs := hk.small
  have ht : (x : Int) / ((2 ^ (n - 1) : Nat) : Int) = (((x.testBit (n - 1)).toNat : Nat) : Int) := by rw [← top_bit n x hk.pos hx, Int.natCast_ediv]
  have hm := mask n x (by omega) hs
  have hlt : 2 * x % 2 ^ n < 4294967296 := by have := Nat.mod_lt (2 * x) (Nat.two_pow_pos n); omega
  have hp : p < 4294967296 := by have := hk.p_lt; omega
  have hxr := u32_xor_nat (2 * x % 2 ^ n) p hlt hp
  unfold M.nxb kv
  obtain ⟨q, hq⟩ : ∃ q, q = 2 * x % 2 ^ n := ⟨_, rfl⟩
  rw [← hq] at hm hxr ⊢
  obtain ⟨t, hte⟩ : ∃ t, t = x.testBit (n - 1) := ⟨_, rfl⟩
  rw [← hte] at ht ⊢
  clear hq hte hlt
  rcases hk with ⟨rfl, rfl, rfl⟩ | ⟨rfl, rfl, rfl⟩ | ⟨rfl, rfl, rfl⟩
  all_goals (
    simp only [Nat.reducePow, Nat.reduceSub, Int.cast_ofNat_Int] at hx ht hm hxr
    cases t <;> cases b
    all_goals (
      simp only [Bool.toNat_false, Bool.toNat_true, Int.cast_ofNat_Int] at ht ⊢
      go_enter Tryz.func244, Tryz.ntmps244
      go_wp2
      go_ret
      exact ⟨by simp, (Below.refl _ w).alloc (Nat.le_refl _) _⟩))

theorem next_of (n s p x z : Nat) (b : Bool) (w : World) (hk : Knd n s p) (hx : x < 2 ^ n) (hz : z = b.toNat) :
    Calls Tryz.prog 244 #[kv n s p, .int .u32 x, .int .u32 z] w fun e w' => e = .returned (.int .u32 (M.nxb n p x b : Nat)) ∧ Below w.heap.size w w' := by
  subst hz; exact next_any n s p x b w hk hx

def bt (x : Nat) : Nat → Bool := fun i => x.testBit (7 - i)
theorem bt_at (x m : Nat) (hm : m < 8) : x * 2 ^ m % 256 / 128 = (bt x m).toNat := by
  unfold bt
  rw [Nat.testBit_eq_decide_div_mod_eq]
  have e : x * 2 ^ m % 256 / 128 = x / 2 ^ (7 - m) % 2 := by
    rw [show (256 : Nat) = 2 ^ 8 from rfl, show (128 : Nat) = 2 ^ 7 from rfl]
    rcases (by omega : m = 0 ∨ m = 1 ∨ m = 2 ∨ m = 3 ∨ m = 4 ∨ m = 5 ∨ m = 6 ∨ m = 7) with h | h | h | h | h | h | h | h <;> subst h <;> simp only [Nat.reducePow, Nat.reduceSub] <;> omega
  rw [e]
  rcases Nat.mod_two_eq_zero_or_one (x / 2 ^ (7 - m)) with h | h <;> rw [h] <;> rfl
theorem bt_next (x m : Nat) : x * 2 ^ m % 256 * 2 % 256 = x * 2 ^ (m + 1) % 256 := by
  rw [Nat.pow_succ, ← Nat.mul_assoc]; omega

theorem kv_cells {w : World} {b n s p : Nat} (h : Blk w b #[.int .i64 n, .int .u32 s, .int .u32 p] 278) :
    w.cell? ⟨b, 0, none⟩ = some (.int .i64 n) ∧ w.cell? ⟨b, 1, none⟩ = some (.int .u32 s) ∧ w.cell? ⟨b, 2, none⟩ = some (.int .u32 p) := ⟨h.cell rfl, h.cell rfl, h.cell rfl⟩

set_option maxRecDepth 100000 in
theorem over_any (n s p S x k : Nat) (w : World) (hk : Knd n s p) (hS : S < 2 ^ n) (hx : x < 256) (hk8 : k ≤ 8) :
    Calls Tryz.prog 213 #[kv n s p, .int .u32 S, .int .u8 x, .int .i64 k] w fun e w' => e = .returned (.int .u32 (M.run n p (bt x) S k : Nat)) ∧ Below w.heap.size w w' := by
  have hs := hk.small
  go_enter Tryz.func213, Tryz.ntmps213
  unfold kv
  go_wp2
  go_loopw [1, 2, 10] (fun a b i wr => ∃ m : Nat, m ≤ k ∧ a = .int .u32 (M.run n p (bt x) S m : Nat) ∧ b = .int .u8 (x * 2 ^ m % 256 : Nat) ∧ i = .int .i64 m ∧ Below w.heap.size w wr ∧ Blk wr w.heap.size #[.int .i64 n, .int .u32 s, .int .u32 p] 278) (fun _ _ i _ => k - (intOf i).toNat)
  case atStart => exact ⟨0, by omega, rfl, by simp; omega, rfl, (Below.refl _ w).alloc (Nat.le_refl _) _, Blk.new _ _ _⟩
  case round =>
    obtain ⟨m, hm, rfl, rfl, rfl, bel, hb⟩ := hrel
    by_cases hlt : m < k
    · obtain ⟨c0, c1, c2⟩ := kv_cells hb
      have hR := M.run_lt n p S m (bt x) hk.p_lt hS
      have hst : M.run n p (bt x) S (m + 1) = M.nxb n p (M.run n p (bt x) S m) (bt x m) := rfl
      have h1 := bt_at x m (by omega)
      have h2 := bt_next x m
      have h3 : x * 2 ^ m % 256 < 256 := Nat.mod_lt _ (by decide)
      obtain ⟨y, hy⟩ : ∃ y, y = x * 2 ^ m % 256 := ⟨_, rfl⟩
      rw [← hy] at h1 h2 h3 ⊢
      obtain ⟨z, hz, hzb⟩ : ∃ z : Nat, (y : Int) / 128 = z ∧ z = (bt x m).toNat := ⟨y / 128, by omega, h1⟩
      have hz1 : z ≤ 1 := by rw [hzb]; exact Bool.toNat_le _
      replace hzb : Hid (z = (bt x m).toNat) := hzb
      obtain ⟨R, hRe⟩ : ∃ R, R = M.run n p (bt x) S m := ⟨_, rfl⟩
      rw [← hRe] at hR hst ⊢
      have hRl : R < 4294967296 := by omega
      replace hst : Hid (M.run n p (bt x) S (m + 1) = M.nxb n p R (bt x m)) := hst
      replace h2 : Hid (y * 2 % 256 = x * 2 ^ (m + 1) % 256) := h2
      clear hy hRe h1
      go_wp2_with (go_at_call 244; refine (next_of n s p R z (bt x m) _ hk hR hzb).mono ?_; rintro e w' ⟨rfl, bel'⟩)
      go_roundw
      case rel =>
        refine ⟨m + 1, by omega, ?_, ?_, by go_num, bel.trans (Bits.Below.less bel' bel.size), Bits.Below.blk bel' hb hb.lt⟩
        · rw [show M.run n p (bt x) S (m + 1) = _ from hst]
        · rw [← show y * 2 % 256 = _ from h2]; go_num
      case measure => simp [intOf]; omega
    · obtain rfl : m = k := by omega
      go_wp2
      go_ret
      exact ⟨rfl, bel⟩

end Chk
end Go.Proofs.YtcaifpjbjghhaaaGreatDoor

