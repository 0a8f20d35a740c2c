import Derived.Test.YtcaifpjbjghhaaaGreatDoorSubA00
import Derived.Test.YtcaifpjbjghhaaaGreatDoorSubA01
import Derived.Test.YtcaifpjbjghhaaaGreatDoorSubA02
import Derived.Test.YtcaifpjbjghhaaaGreatDoorSubA03
import Derived.Test.YtcaifpjbjghhaaaGreatDoorSubA04
import Derived.Test.YtcaifpjbjghhaaaGreatDoorSubA05
import Derived.Test.YtcaifpjbjghhaaaGreatDoorSubA06
import Derived.Test.YtcaifpjbjghhaaaGreatDoorSubA07
import Derived.Test.YtcaifpjbjghhaaaGreatDoorSubA08
import Derived.Test.YtcaifpjbjghhaaaGreatDoorSubA09
import Derived.Test.YtcaifpjbjghhaaaGreatDoorSubA10
import Derived.Test.YtcaifpjbjghhaaaGreatDoorSubA11
import Derived.Test.YtcaifpjbjghhaaaGreatDoorSubA12
import Derived.Test.YtcaifpjbjghhaaaGreatDoorSubA13
import Derived.Test.YtcaifpjbjghhaaaGreatDoorSubA14
import Derived.Test.YtcaifpjbjghhaaaGreatDoorSubA15
import Derived.Test.YtcaifpjbjghhaaaGreatDoorSubA16
import Derived.Test.YtcaifpjbjghhaaaGreatDoorSubA17
import Derived.Test.YtcaifpjbjghhaaaGreatDoorSubA18
import Derived.Test.YtcaifpjbjghhaaaGreatDoorSubA19
import Derived.Test.YtcaifpjbjghhaaaGreatDoorSubA20
import Derived.Test.YtcaifpjbjghhaaaGreatDoorSubA21
import Derived.Test.YtcaifpjbjghhaaaGreatDoorSubA22
import Derived.Test.YtcaifpjbjghhaaaGreatDoorSubA23
import Derived.Test.YtcaifpjbjghhaaaGreatDoorSubA24
import Derived.Test.YtcaifpjbjghhaaaGreatDoorSubA25
import Derived.Test.YtcaifpjbjghhaaaGreatDoorSubA26
import Derived.Test.YtcaifpjbjghhaaaGreatDoorSubA27
import Derived.Test.YtcaifpjbjghhaaaGreatDoorSubA28
import Derived.Test.YtcaifpjbjghhaaaGreatDoorSubA29
import Derived.Test.YtcaifpjbjghhaaaGreatDoorSubA30
import Derived.Test.YtcaifpjbjghhaaaGreatDoorSubA31
import Derived.Test.YtcaifpjbjghhaaaGreatDoorSubA32
import Derived.Test.YtcaifpjbjghhaaaGreatDoorSubA33
import Derived.Test.YtcaifpjbjghhaaaGreatDoorSubA34
import Derived.Test.YtcaifpjbjghhaaaGreatDoorSubA35
import Derived.Test.YtcaifpjbjghhaaaGreatDoorSubA36
import Derived.Test.YtcaifpjbjghhaaaGreatDoorSubA37
import Derived.Test.YtcaifpjbjghhaaaGreatDoorSubA38
import Derived.Test.YtcaifpjbjghhaaaGreatDoorSubA39
import Derived.Test.YtcaifpjbjghhaaaGreatDoorSubA40
import Derived.Test.YtcaifpjbjghhaaaGreatDoorSubA41
import Derived.Test.YtcaifpjbjghhaaaGreatDoorSubA42
import Derived.Test.YtcaifpjbjghhaaaGreatDoorSubA43
import Derived.Test.YtcaifpjbjghhaaaGreatDoorSubA44
import Derived.Test.YtcaifpjbjghhaaaGreatDoorSubTurnedB00
/-
  Check sums of bits, by plain arithmetic: one bit into a sum, many bits, linearity, what turned bits do. No walk, no model.
-/
namespace Go.Proofs.YtcaifpjbjghhaaaGreatDoor
set_option linter.unusedVariables false
namespace M

theorem dbl_xor (w s t : Nat) : 2 * (s ^^^ t) % 2 ^ w = (2 * s % 2 ^ w) ^^^ (2 * t % 2 ^ w) := by
  have h : 2 * (s ^^^ t) = (2 * s) ^^^ (2 * t) := by
    refine Nat.eq_of_testBit_eq fun k => ?_
    have e : ∀ x, (2 * x).testBit k = (decide (1 ≤ k) && x.testBit (k - 1)) := fun x => by
      have := @Nat.testBit_two_pow_mul 1 x k
      simpa using this
    rw [Nat.testBit_xor, e, e, e, Nat.testBit_xor]
    cases decide (1 ≤ k) <;> simp
  rw [h, Nat.xor_mod_two_pow]
theorem xor0 {a b : Nat} (h : a ^^^ b = 0) : a = b := by
  have := congrArg (· ^^^ b) h
  simpa [Nat.xor_assoc] using this
theorem sel_xor (p : Nat) (x y : Bool) : (if (x ^^ y) then p else 0) = (if x then p else 0) ^^^ (if y then p else 0) := by
  cases x <;> cases y <;> simp
theorem xor4 (a b c d : Nat) : (a ^^^ b) ^^^ (c ^^^ d) = (a ^^^ c) ^^^ (b ^^^ d) := by
  rw [Nat.xor_assoc, Nat.xor_assoc, ← Nat.xor_assoc b c d, Nat.xor_comm b c, Nat.xor_assoc c b d]
theorem nx_xor (w p s t : Nat) (b c : Bool) : nxb w p (s ^^^ t) (b ^^ c) = nxb w p s b ^^^ nxb w p t c := by
  unfold nxb
  rw [dbl_xor, Nat.testBit_xor, xor4, ← sel_xor]
  congr 2
  cases s.testBit (w - 1) <;> cases t.testBit (w - 1) <;> cases b <;> cases c <;> rfl
theorem run_xor (w p s t : Nat) (B C : Nat → Bool) (n : Nat) : run w p (fun i => B i ^^ C i) (s ^^^ t) n = run w p B s n ^^^ run w p C t n := by
  induction n with
  | zero => rfl
  | succ n ih =>
    show nxb w p (run w p _ _ n) _ = _
    rw [ih, nx_xor]; rfl
theorem nxb_zero (w p : Nat) : nxb w p 0 false = 0 := by simp [nxb]
theorem run_zero (w p n : Nat) : run w p (fun _ => false) 0 n = 0 := by
  induction n with
  | zero => rfl
  | succ n ih => show nxb w p (run w p _ _ n) false = 0; rw [ih, nxb_zero]
/-- a sum goes out with its own bits -/
theorem run_own (w p T : Nat) (hT : T < 2 ^ w) : ∀ n, n ≤ w → run w p (fun i => T.testBit (w - 1 - i)) T n = 2 ^ n * T % 2 ^ w
  | 0, _ => by show T = _; rw [Nat.pow_zero, Nat.one_mul, Nat.mod_eq_of_lt hT]
  | n + 1, hn => by
    show nxb w p (run w p _ T n) (T.testBit (w - 1 - n)) = _
    rw [run_own w p T hT n (by omega)]
    have ht : (2 ^ n * T % 2 ^ w).testBit (w - 1) = T.testBit (w - 1 - n) := by
      rw [Nat.testBit_mod_two_pow, Nat.testBit_two_pow_mul, decide_eq_true (show w - 1 < w by omega), decide_eq_true (show w - 1 ≥ n by omega)]
      rfl
    unfold nxb
    rw [ht, Bool.xor_self]
    show _ ^^^ 0 = _
    rw [Nat.xor_zero, Nat.pow_succ, Nat.mul_comm (2 ^ n) 2, Nat.mul_assoc, Nat.mul_mod, Nat.mod_mod, ← Nat.mul_mod]
theorem run_out (w p T : Nat) (hT : T < 2 ^ w) : run w p (fun i => T.testBit (w - 1 - i)) T w = 0 := by
  rw [run_own w p T hT w (Nat.le_refl _), Nat.mul_mod_right]

/-- what isn't nothing doesn't become nothing -/
theorem nx_ne (w p T : Nat) (hw : 0 < w) (hp : p % 2 = 1) (hT : T < 2 ^ w) (h0 : T ≠ 0) : nxb w p T false ≠ 0 := by
  intro h
  unfold nxb at h
  have e := xor0 h
  rw [Bool.xor_false] at e
  obtain ⟨v, rfl⟩ : ∃ v, w = v + 1 := ⟨w - 1, by omega⟩
  have hpow : 2 ^ (v + 1) = 2 * 2 ^ v := by rw [Nat.pow_succ, Nat.mul_comm]
  rw [hpow, Nat.mul_mod_mul_left] at e
  split at e
  · omega
  · next hb =>
    have hlt : T < 2 ^ v := by
      rw [Nat.add_sub_cancel, Nat.testBit_eq_decide_div_mod_eq] at hb
      have h2 : T / 2 ^ v < 2 := by rw [Nat.div_lt_iff_lt_mul (Nat.two_pow_pos v)]; omega
      obtain ⟨z, hz⟩ : ∃ z, z = T / 2 ^ v := ⟨_, rfl⟩
      rw [← hz] at hb h2
      have h3 : z ≠ 1 := by rintro rfl; exact hb rfl
      exact (Nat.div_eq_zero_iff_lt (Nat.two_pow_pos v)).1 (by rw [← hz]; omega)
    rw [Nat.mod_eq_of_lt hlt] at e
    omega
theorem run_ne (w p T : Nat) (hw : 0 < w) (hp : p % 2 = 1) (hq : p < 2 ^ w) (hT : T < 2 ^ w) (h0 : T ≠ 0) (n : Nat) : run w p (fun _ => false) T n ≠ 0 := by
  induction n with
  | zero => exact h0
  | succ n ih => exact nx_ne w p _ hw hp (run_lt _ _ _ _ _ hq hT) ih
/-- w bits into nothing: the number that they are, and as many zeros -/
theorem run_bits (w p S T : Nat) (hT : T < 2 ^ w) : run w p (fun i => T.testBit (w - 1 - i)) S w = run w p (fun _ => false) (S ^^^ T) w := by
  have h := run_xor w p (S ^^^ T) T (fun _ => false) (fun i => T.testBit (w - 1 - i)) w
  simp only [Bool.false_xor] at h
  rw [Nat.xor_assoc, Nat.xor_self, Nat.xor_zero, run_out w p T hT, Nat.xor_zero] at h
  exact h
/-- the number of w bits, the highest first -/
theorem num_bits (w : Nat) (e : Nat → Bool) : ∃ T, T < 2 ^ w ∧ (∀ i, i < w → T.testBit (w - 1 - i) = e i) := by
  induction w with
  | zero => exact ⟨0, by simp, fun i hi => by omega⟩
  | succ w ih =>
    obtain ⟨T, hT, h⟩ := ih
    refine ⟨2 * T + (e w).toNat, ?_, fun i hi => ?_⟩
    · have := Bool.toNat_le (e w)
      rw [Nat.pow_succ]; omega
    · rcases Nat.lt_or_ge i w with c | c
      · rw [show w + 1 - 1 - i = (w - 1 - i) + 1 by omega, Nat.testBit_succ, ← h i c]
        congr 1
        have := Bool.toNat_le (e w)
        omega
      · obtain rfl : i = w := by omega
        rw [show i + 1 - 1 - i = 0 by omega, Nat.testBit_zero]
        cases e i <;> simp
/-- at most w bits side by side, at least one of them: they leave something -/
theorem run_burst (w p a c : Nat) (e : Nat → Bool) (hw : 0 < w) (hp : p % 2 = 1) (hq : p < 2 ^ w) (ha : ∀ i, i < a → e i = false) (hc : ∀ i, a + w ≤ i → i < a + w + c → e i = false) (k : Nat) (hk : k < w) (hek : e (a + k) = true) : run w p e 0 (a + w + c) ≠ 0 := by
  obtain ⟨T, hT, hb⟩ := num_bits w fun i => e (a + i)
  have h0 : T ≠ 0 := by
    rintro rfl
    have := hb k hk
    rw [hek, Nat.zero_testBit] at this
    exact absurd this (by decide)
  rw [run_add, run_add, run_congr w p 0 e (fun _ => false) a ha, run_zero]
  rw [run_congr w p 0 (fun i => e (a + i)) (fun i => T.testBit (w - 1 - i)) w fun i hi => (hb i hi).symm, run_bits w p 0 T hT, Nat.zero_xor]
  rw [run_congr w p _ (fun i => e (a + w + i)) (fun _ => false) c fun i hi => hc _ (by omega) (by omega)]
  exact run_ne w p _ hw hp hq (run_lt _ _ _ _ _ hq hT) (run_ne w p T hw hp hq hT h0 w) c

theorem bitL_append (xs ys : List Nat) (i : Nat) : bitL (xs ++ ys) i = if i < 8 * xs.length then bitL xs i else bitL ys (i - 8 * xs.length) := by
  unfold bitL bitsOf
  split
  · next h =>
    have : i / 8 < xs.length := by omega
    simp [List.getD, List.getElem?_append_left this]
  · next h =>
    have h1 : xs.length ≤ i / 8 := by omega
    have h2 : (i - 8 * xs.length) / 8 = i / 8 - xs.length := by omega
    have h3 : (i - 8 * xs.length) % 8 = i % 8 := by omega
    simp [List.getD, List.getElem?_append_right h1, h2, h3]
end M
end Go.Proofs.YtcaifpjbjghhaaaGreatDoor

