/-
  Check sums of bits, by plain arithmetic: one bit into a sum, many bits, linearity, what turned bits do. No walk, no model.
-/
import Derived.Test.YtifafoecejnhkaaBitsMath
namespace Go.Proofs.Ytifafoecejnhkaa
set_option linter.unusedVariables false
namespace M

/-- one bit into a sum of w bits of pattern p -/
def nx (w p s : Nat) (b : Bool) : Nat := (2 * s % 2 ^ w) ^^^ (if (s.testBit (w - 1) ^^ b) then p else 0)
/-- the first n bits into a sum -/
def run (w p : Nat) (B : Nat → Bool) (s : Nat) : Nat → Nat
  | 0 => s
  | n + 1 => nx w p (run w p B s n) (B n)

theorem dbl_xor (w s t : Nat) : 2 * (s ^^^ t) % 2 ^ w = (2 * s % 2 ^ w) ^^^ (2 * t % 2 ^ w) := by
  have h : 2 * (s ^^^ t) = (2 * s) ^^^ (2 * t) := by
    refine Nat.eq_of_testBit_eq fun k => ?_
    have e : ∀ x, (2 * x).testBit k = (decide (1 ≤ k) && x.testBit (k - 1)) := fun x => by
      have := @Nat.testBit_two_pow_mul 1 x k
      simpa using this
    rw [Nat.testBit_xor, e, e, e, Nat.testBit_xor]
    cases decide (1 ≤ k) <;> simp
  rw [h, Nat.xor_mod_two_pow]
theorem xor0 {a b : Nat} (h : a ^^^ b = 0) : a = b := by
  have := congrArg (· ^^^ b) h
  simpa [Nat.xor_assoc] using this
theorem sel_xor (p : Nat) (x y : Bool) : (if (x ^^ y) then p else 0) = (if x then p else 0) ^^^ (if y then p else 0) := by
  cases x <;> cases y <;> simp
theorem xor4 (a b c d : Nat) : (a ^^^ b) ^^^ (c ^^^ d) = (a ^^^ c) ^^^ (b ^^^ d) := by
  rw [Nat.xor_assoc, Nat.xor_assoc, ← Nat.xor_assoc b c d, Nat.xor_comm b c, Nat.xor_assoc c b d]
theorem nx_xor (w p s t : Nat) (b c : Bool) : nx w p (s ^^^ t) (b ^^ c) = nx w p s b ^^^ nx w p t c := by
  unfold nx
  rw [dbl_xor, Nat.testBit_xor, xor4, ← sel_xor]
  congr 2
  cases s.testBit (w - 1) <;> cases t.testBit (w - 1) <;> cases b <;> cases c <;> rfl
theorem run_xor (w p s t : Nat) (B C : Nat → Bool) (n : Nat) : run w p (fun i => B i ^^ C i) (s ^^^ t) n = run w p B s n ^^^ run w p C t n := by
  induction n with
  | zero => rfl
  | succ n ih =>
    show nx w p (run w p _ _ n) _ = _
    rw [ih, nx_xor]; rfl
theorem nx_zero (w p : Nat) : nx w p 0 false = 0 := by simp [nx]
theorem run_zero (w p n : Nat) : run w p (fun _ => false) 0 n = 0 := by
  induction n with
  | zero => rfl
  | succ n ih => show nx w p (run w p _ _ n) false = 0; rw [ih, nx_zero]
theorem nx_lt (w p s : Nat) (b : Bool) (hp : p < 2 ^ w) : nx w p s b < 2 ^ w := by
  unfold nx
  refine Nat.xor_lt_two_pow (Nat.mod_lt _ (Nat.two_pow_pos w)) ?_
  split
  · exact hp
  · exact Nat.two_pow_pos w
theorem run_lt (w p s n : Nat) (B : Nat → Bool) (hp : p < 2 ^ w) (hs : s < 2 ^ w) : run w p B s n < 2 ^ w := by
  cases n with
  | zero => exact hs
  | succ n => exact nx_lt _ _ _ _ hp
theorem run_congr (w p s : Nat) (B C : Nat → Bool) : ∀ n, (∀ i, i < n → B i = C i) → run w p B s n = run w p C s n
  | 0, _ => rfl
  | n + 1, h => by
    show nx w p (run w p B s n) (B n) = nx w p (run w p C s n) (C n)
    rw [run_congr w p s B C n fun i hi => h i (by omega), h n (by omega)]
theorem run_add (w p s : Nat) (B : Nat → Bool) (m : Nat) : ∀ n, run w p B s (m + n) = run w p (fun i => B (m + i)) (run w p B s m) n
  | 0 => rfl
  | n + 1 => by
    show nx w p (run w p B s (m + n)) (B (m + n)) = nx w p (run w p _ _ n) (B (m + n))
    rw [run_add w p s B m n]

/-- a sum goes out with its own bits -/
theorem run_own (w p T : Nat) (hT : T < 2 ^ w) : ∀ n, n ≤ w → run w p (fun i => T.testBit (w - 1 - i)) T n = 2 ^ n * T % 2 ^ w
  | 0, _ => by show T = _; rw [Nat.pow_zero, Nat.one_mul, Nat.mod_eq_of_lt hT]
  | n + 1, hn => by
    show nx w p (run w p _ T n) (T.testBit (w - 1 - n)) = _
    rw [run_own w p T hT n (by omega)]
    have ht : (2 ^ n * T % 2 ^ w).testBit (w - 1) = T.testBit (w - 1 - n) := by
      rw [Nat.testBit_mod_two_pow, Nat.testBit_two_pow_mul, decide_eq_true (show w - 1 < w by omega), decide_eq_true (show w - 1 ≥ n by omega)]
      rfl
    unfold nx
    rw [ht, Bool.xor_self]
    show _ ^^^ 0 = _
    rw [Nat.xor_zero, Nat.pow_succ, Nat.mul_comm (2 ^ n) 2, Nat.mul_assoc, Nat.mul_mod, Nat.mod_mod, ← Nat.mul_mod]
theorem run_out (w p T : Nat) (hT : T < 2 ^ w) : run w p (fun i => T.testBit (w - 1 - i)) T w = 0 := by
  rw [run_own w p T hT w (Nat.le_refl _), Nat.mul_mod_right]

/-- what isn't nothing doesn't become nothing -/
theorem nx_ne (w p T : Nat) (hw : 0 < w) (hp : p % 2 = 1) (hT : T < 2 ^ w) (h0 : T ≠ 0) : nx w p T false ≠ 0 := by
  intro h
  unfold nx at h
  have e := xor0 h
  rw [Bool.xor_false] at e
  obtain ⟨v, rfl⟩ : ∃ v, w = v + 1 := ⟨w - 1, by omega⟩
  have hpow : 2 ^ (v + 1) = 2 * 2 ^ v := by rw [Nat.pow_succ, Nat.mul_comm]
  rw [hpow, Nat.mul_mod_mul_left] at e
  split at e
  · omega
  · next hb =>
    have hlt : T < 2 ^ v := by
      rw [Nat.add_sub_cancel, Nat.testBit_eq_decide_div_mod_eq] at hb
      have h2 : T / 2 ^ v < 2 := by rw [Nat.div_lt_iff_lt_mul (Nat.two_pow_pos v)]; omega
      obtain ⟨z, hz⟩ : ∃ z, z = T / 2 ^ v := ⟨_, rfl⟩
      rw [← hz] at hb h2
      have h3 : z ≠ 1 := by rintro rfl; exact hb rfl
      exact (Nat.div_eq_zero_iff_lt (Nat.two_pow_pos v)).1 (by rw [← hz]; omega)
    rw [Nat.mod_eq_of_lt hlt] at e
    omega
theorem run_ne (w p T : Nat) (hw : 0 < w) (hp : p % 2 = 1) (hq : p < 2 ^ w) (hT : T < 2 ^ w) (h0 : T ≠ 0) (n : Nat) : run w p (fun _ => false) T n ≠ 0 := by
  induction n with
  | zero => exact h0
  | succ n ih => exact nx_ne w p _ hw hp (run_lt _ _ _ _ _ hq hT) ih
/-- w bits into nothing: the number that they are, and as many zeros -/
theorem run_bits (w p S T : Nat) (hT : T < 2 ^ w) : run w p (fun i => T.testBit (w - 1 - i)) S w = run w p (fun _ => false) (S ^^^ T) w := by
  have h := run_xor w p (S ^^^ T) T (fun _ => false) (fun i => T.testBit (w - 1 - i)) w
  simp only [Bool.false_xor] at h
  rw [Nat.xor_assoc, Nat.xor_self, Nat.xor_zero, run_out w p T hT, Nat.xor_zero] at h
  exact h
theorem run_fits (w p S T : Nat) (hw : 0 < w) (hp : p % 2 = 1) (hq : p < 2 ^ w) (hS : S < 2 ^ w) (hT : T < 2 ^ w) : run w p (fun i => T.testBit (w - 1 - i)) S w = 0 ↔ S = T := by
  rw [run_bits w p S T hT]
  constructor
  · intro h
    rcases Nat.eq_zero_or_pos (S ^^^ T) with e | e
    · exact xor0 e
    · exact absurd h (run_ne w p _ hw hp hq (Nat.xor_lt_two_pow hS hT) (by omega) w)
  · rintro rfl
    rw [Nat.xor_self, run_zero]
/-- the number of w bits, the highest first -/
theorem num_bits (w : Nat) (e : Nat → Bool) : ∃ T, T < 2 ^ w ∧ (∀ i, i < w → T.testBit (w - 1 - i) = e i) := by
  induction w with
  | zero => exact ⟨0, by simp, fun i hi => by omega⟩
  | succ w ih =>
    obtain ⟨T, hT, h⟩ := ih
    refine ⟨2 * T + (e w).toNat, ?_, fun i hi => ?_⟩
    · have := Bool.toNat_le (e w)
      rw [Nat.pow_succ]; omega
    · rcases Nat.lt_or_ge i w with c | c
      · rw [show w + 1 - 1 - i = (w - 1 - i) + 1 by omega, Nat.testBit_succ, ← h i c]
        congr 1
        have := Bool.toNat_le (e w)
        omega
      · obtain rfl : i = w := by omega
        rw [show i + 1 - 1 - i = 0 by omega, Nat.testBit_zero]
        cases e i <;> simp
/-- at most w bits side by side, at least one of them: they leave something -/
theorem run_burst (w p a c : Nat) (e : Nat → Bool) (hw : 0 < w) (hp : p % 2 = 1) (hq : p < 2 ^ w) (ha : ∀ i, i < a → e i = false) (hc : ∀ i, a + w ≤ i → i < a + w + c → e i = false) (k : Nat) (hk : k < w) (hek : e (a + k) = true) : run w p e 0 (a + w + c) ≠ 0 := by
  obtain ⟨T, hT, hb⟩ := num_bits w fun i => e (a + i)
  have h0 : T ≠ 0 := by
    rintro rfl
    have := hb k hk
    rw [hek, Nat.zero_testBit] at this
    exact absurd this (by decide)
  rw [run_add, run_add, run_congr w p 0 e (fun _ => false) a ha, run_zero]
  rw [run_congr w p 0 (fun i => e (a + i)) (fun i => T.testBit (w - 1 - i)) w fun i hi => (hb i hi).symm, run_bits w p 0 T hT, Nat.zero_xor]
  rw [run_congr w p _ (fun i => e (a + w + i)) (fun _ => false) c fun i hi => hc _ (by omega) (by omega)]
  exact run_ne w p _ hw hp hq (run_lt _ _ _ _ _ hq hT) (run_ne w p T hw hp hq hT h0 w) c

/-- the bits of a list of bytes -/
def bitL (xs : List Nat) : Nat → Bool := bitsOf fun i => xs.getD i 0
/-- a sum as bytes, the highest first -/
def tail (n T : Nat) : List Nat := (List.range n).map fun j => T / 2 ^ (8 * (n - 1 - j)) % 256
theorem tail_length (n T : Nat) : (tail n T).length = n := by simp [tail]
theorem tail_succ (n T : Nat) : tail (n + 1) T = (T / 2 ^ (8 * n) % 256) :: tail n T := by
  unfold tail
  rw [List.range_succ_eq_map, List.map_cons, List.map_map]
  congr 1
  refine List.map_congr_left fun j hj => ?_
  show T / 2 ^ (8 * (n + 1 - 1 - (j + 1))) % 256 = T / 2 ^ (8 * (n - 1 - j)) % 256
  rw [show n + 1 - 1 - (j + 1) = n - 1 - j by omega]
theorem tail_lt (n T : Nat) : ∀ x ∈ tail n T, x < 256 := by
  intro x hx
  obtain ⟨j, _, rfl⟩ := List.mem_map.1 hx
  omega
theorem tail_getD (n T j : Nat) (h : j < n) : (tail n T).getD j 0 = T / 2 ^ (8 * (n - 1 - j)) % 256 := by simp [tail, List.getD, h]
theorem bitL_append (xs ys : List Nat) (i : Nat) : bitL (xs ++ ys) i = if i < 8 * xs.length then bitL xs i else bitL ys (i - 8 * xs.length) := by
  unfold bitL bitsOf
  split
  · next h =>
    have : i / 8 < xs.length := by omega
    simp [List.getD, List.getElem?_append_left this]
  · next h =>
    have h1 : xs.length ≤ i / 8 := by omega
    have h2 : (i - 8 * xs.length) / 8 = i / 8 - xs.length := by omega
    have h3 : (i - 8 * xs.length) % 8 = i % 8 := by omega
    simp [List.getD, List.getElem?_append_right h1, h2, h3]
theorem bitL_tail (n T i : Nat) (h : i < 8 * n) : bitL (tail n T) i = T.testBit (8 * n - 1 - i) := by
  show ((tail n T).getD (i / 8) 0).testBit (7 - i % 8) = _
  rw [tail_getD n T (i / 8) (by omega), show 256 = 2 ^ 8 from rfl, Nat.testBit_mod_two_pow, Nat.testBit_div_two_pow]
  rw [show 7 - i % 8 + 8 * (n - 1 - i / 8) = 8 * n - 1 - i by omega, decide_eq_true (show 7 - i % 8 < 8 by omega)]
  rfl
/-- the number that a list of n bytes is -/
theorem num_tail : ∀ (ys : List Nat), (∀ x ∈ ys, x < 256) → ∃ T, T < 2 ^ (8 * ys.length) ∧ tail ys.length T = ys := by
  intro ys hy
  obtain ⟨T, hT, h⟩ := num_bits (8 * ys.length) (bitL ys)
  refine ⟨T, hT, ?_⟩
  refine List.ext_getElem (by rw [tail_length]) fun j h1 h2 => ?_
  have hx : ys[j] < 2 ^ 8 := hy _ (List.getElem_mem h2)
  refine Nat.eq_of_testBit_eq fun k => ?_
  simp only [tail, List.getElem_map, List.getElem_range]
  rw [show 256 = 2 ^ 8 from rfl, Nat.testBit_mod_two_pow, Nat.testBit_div_two_pow]
  rcases Nat.lt_or_ge k 8 with hk | hk
  · have := h (8 * j + (7 - k)) (by omega)
    rw [show 8 * ys.length - 1 - (8 * j + (7 - k)) = k + 8 * (ys.length - 1 - j) by omega] at this
    rw [this]
    unfold bitL bitsOf
    rw [show (8 * j + (7 - k)) / 8 = j by omega, show 7 - (8 * j + (7 - k)) % 8 = k by omega]
    simp [List.getD, List.getElem?_eq_getElem h2, hk]
  · rw [Nat.testBit_lt_two_pow (Nat.lt_of_lt_of_le hx (Nat.pow_le_pow_right (by decide) hk))]
    simp; omega
theorem tail_inj (n S T : Nat) (hS : S < 2 ^ (8 * n)) (hT : T < 2 ^ (8 * n)) (h : tail n S = tail n T) : S = T := by
  refine Nat.eq_of_testBit_eq fun k => ?_
  rcases Nat.lt_or_ge k (8 * n) with hk | hk
  · have a := bitL_tail n S (8 * n - 1 - k) (by omega)
    have b := bitL_tail n T (8 * n - 1 - k) (by omega)
    rw [show 8 * n - 1 - (8 * n - 1 - k) = k by omega] at a b
    rw [← a, ← b, h]
  · have hle := Nat.pow_le_pow_right (n := 2) (by decide) hk
    rw [Nat.testBit_lt_two_pow (by omega), Nat.testBit_lt_two_pow (by omega)]

end M
end Go.Proofs.Ytifafoecejnhkaa
