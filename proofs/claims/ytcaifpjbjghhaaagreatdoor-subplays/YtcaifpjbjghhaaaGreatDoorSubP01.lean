import Derived.Laws.BitsAllLaws
import Derived.Laws.Entries
/-
  Bits, by plain arithmetic: bytes of bits, numbers written and read from either end. No walk, no model.
-/
namespace Go.Proofs.YtcaifpjbjghhaaaGreatDoor
set_option linter.unusedVariables false
namespace M

def upd (B : Nat → Bool) (i : Nat) (x : Bool) : Nat → Bool := fun j => if j = i then x else B j
theorem upd_same {B : Nat → Bool} {i : Nat} {x : Bool} (h : B i = x) : upd B i x = B := by
  funext j; unfold upd; split
  · next e => rw [e, h]
  · rfl
def horn : List Bool → Nat → Nat
  | [], a => a
  | b :: l, a => horn l (2 * a + b.toNat)
def byteOf (B : Nat → Bool) (j : Nat) : Nat := horn [B (8 * j), B (8 * j + 1), B (8 * j + 2), B (8 * j + 3), B (8 * j + 4), B (8 * j + 5), B (8 * j + 6), B (8 * j + 7)] 0
theorem horn_lt : ∀ (b0 b1 b2 b3 b4 b5 b6 b7 : Bool), horn [b0, b1, b2, b3, b4, b5, b6, b7] 0 < 256 := by decide +kernel
theorem byteOf_lt (B : Nat → Bool) (j : Nat) : byteOf B j < 256 := horn_lt _ _ _ _ _ _ _ _
theorem horn_at : ∀ (b0 b1 b2 b3 b4 b5 b6 b7 : Bool) (s : Fin 8), (horn [b0, b1, b2, b3, b4, b5, b6, b7] 0 / 2 ^ (7 - s.val)) % 2 = ([b0, b1, b2, b3, b4, b5, b6, b7].getD s.val false).toNat := by decide +kernel
theorem horn_or : ∀ (b0 b1 b2 b3 b4 b5 b6 b7 : Bool) (s : Fin 8), (horn [b0, b1, b2, b3, b4, b5, b6, b7] 0 ||| 2 ^ (7 - s.val)) = horn (([b0, b1, b2, b3, b4, b5, b6, b7]).set s.val true) 0 := by decide +kernel
theorem at_byte (B : Nat → Bool) (i : Nat) : (byteOf B (i / 8) / 2 ^ (7 - i % 8)) % 2 = (B i).toNat := by
  have h := horn_at (B (8 * (i / 8))) (B (8 * (i / 8) + 1)) (B (8 * (i / 8) + 2)) (B (8 * (i / 8) + 3)) (B (8 * (i / 8) + 4)) (B (8 * (i / 8) + 5)) (B (8 * (i / 8) + 6)) (B (8 * (i / 8) + 7)) ⟨i % 8, by omega⟩
  refine Eq.trans h ?_
  have e : i = 8 * (i / 8) + i % 8 := by omega
  rcases (by omega : i % 8 = 0 ∨ i % 8 = 1 ∨ i % 8 = 2 ∨ i % 8 = 3 ∨ i % 8 = 4 ∨ i % 8 = 5 ∨ i % 8 = 6 ∨ i % 8 = 7) with k | k | k | k | k | k | k | k <;> (rw [k] at e; simp only [k]; conv => rhs; rw [e]) <;> rfl
theorem or_byte (B : Nat → Bool) (i : Nat) : byteOf B (i / 8) ||| 2 ^ (7 - i % 8) = byteOf (upd B i true) (i / 8) := by
  have h := horn_or (B (8 * (i / 8))) (B (8 * (i / 8) + 1)) (B (8 * (i / 8) + 2)) (B (8 * (i / 8) + 3)) (B (8 * (i / 8) + 4)) (B (8 * (i / 8) + 5)) (B (8 * (i / 8) + 6)) (B (8 * (i / 8) + 7)) ⟨i % 8, by omega⟩
  refine Eq.trans h ?_
  obtain ⟨q, hq⟩ : ∃ q, q = i / 8 := ⟨_, rfl⟩
  rw [← hq]
  have e : i = 8 * q + i % 8 := by omega
  rcases (by omega : i % 8 = 0 ∨ i % 8 = 1 ∨ i % 8 = 2 ∨ i % 8 = 3 ∨ i % 8 = 4 ∨ i % 8 = 5 ∨ i % 8 = 6 ∨ i % 8 = 7) with k | k | k | k | k | k | k | k <;> (rw [k] at e; subst e; simp [byteOf, upd])
theorem byte_ne (B : Nat → Bool) (i j : Nat) (x : Bool) (h : j ≠ i / 8) : byteOf (upd B i x) j = byteOf B j := by
  unfold byteOf upd
  rw [if_neg (by omega), if_neg (by omega), if_neg (by omega), if_neg (by omega), if_neg (by omega), if_neg (by omega), if_neg (by omega), if_neg (by omega)]
def bitsOf (x : Nat → Nat) : Nat → Bool := fun i => (x (i / 8)).testBit (7 - i % 8)
theorem horn_of : ∀ x : Fin 256, horn [x.val.testBit 7, x.val.testBit 6, x.val.testBit 5, x.val.testBit 4, x.val.testBit 3, x.val.testBit 2, x.val.testBit 1, x.val.testBit 0] 0 = x.val := by decide +kernel
theorem byteOf_bitsOf (x : Nat → Nat) (j : Nat) (h : x j < 256) : byteOf (bitsOf x) j = x j := by
  have := horn_of ⟨x j, h⟩
  unfold byteOf bitsOf
  rw [show 8 * j / 8 = j by omega, show (8 * j + 1) / 8 = j by omega, show (8 * j + 2) / 8 = j by omega, show (8 * j + 3) / 8 = j by omega, show (8 * j + 4) / 8 = j by omega, show (8 * j + 5) / 8 = j by omega, show (8 * j + 6) / 8 = j by omega, show (8 * j + 7) / 8 = j by omega,
    show 7 - 8 * j % 8 = 7 by omega, show 7 - (8 * j + 1) % 8 = 6 by omega, show 7 - (8 * j + 2) % 8 = 5 by omega, show 7 - (8 * j + 3) % 8 = 4 by omega, show 7 - (8 * j + 4) % 8 = 3 by omega, show 7 - (8 * j + 5) % 8 = 2 by omega, show 7 - (8 * j + 6) % 8 = 1 by omega, show 7 - (8 * j + 7) % 8 = 0 by omega]
  exact this
theorem bitsOf_byteOf (B : Nat → Bool) : bitsOf (byteOf B) = B := by
  funext i
  unfold bitsOf
  rw [Nat.testBit_eq_decide_div_mod_eq, at_byte]
  cases B i <;> rfl
theorem byteOf_congr {B C : Nat → Bool} {n j : Nat} (h : ∀ i, i < 8 * n → B i = C i) (hj : j < n) : byteOf B j = byteOf C j := by
  unfold byteOf
  rw [h _ (by omega), h _ (by omega), h _ (by omega), h _ (by omega), h _ (by omega), h _ (by omega), h _ (by omega), h _ (by omega)]

def pf (B : Nat → Bool) (h v k : Nat) : Nat → Nat → Bool
  | 0 => B
  | m + 1 => upd (pf B h v k m) (h + m) (v.testBit (k - 1 - m))
theorem pf_at (B : Nat → Bool) (h v k m j : Nat) : pf B h v k m j = if h ≤ j ∧ j < h + m then v.testBit (k - 1 - (j - h)) else B j := by
  induction m with
  | zero => rw [if_neg (by omega)]; rfl
  | succ m ih =>
    show upd (pf B h v k m) (h + m) _ j = _
    unfold upd
    split
    · next e => subst e; rw [if_pos (by omega), show h + m - h = m by omega]
    · rw [ih]
      by_cases c : h ≤ j ∧ j < h + m
      · rw [if_pos c, if_pos (by omega)]
      · rw [if_neg c, if_neg (by omega)]
def pb (B : Nat → Bool) (N t v : Nat) : Nat → Nat → Bool
  | 0 => B
  | m + 1 => upd (pb B N t v m) (N - (t + m + 1)) (v.testBit m)
def fv (B : Nat → Bool) (h : Nat) : Nat → Nat
  | 0 => 0
  | m + 1 => 2 * fv B h m + (B (h + m)).toNat
def bv (B : Nat → Bool) (N t : Nat) : Nat → Nat
  | 0 => 0
  | m + 1 => bv B N t m + (B (N - (t + m + 1))).toNat * 2 ^ m
theorem fv_lt (B : Nat → Bool) (h m : Nat) : fv B h m < 2 ^ m := by
  induction m with
  | zero => exact Nat.zero_lt_one
  | succ m ih =>
    have : (B (h + m)).toNat ≤ 1 := Bool.toNat_le _
    show 2 * fv B h m + _ < _
    rw [Nat.pow_succ]; omega
theorem fv_of {B : Nat → Bool} {h v k : Nat} (hb : ∀ j, j < k → B (h + j) = v.testBit (k - 1 - j)) : ∀ m, m ≤ k → fv B h m = v / 2 ^ (k - m) % 2 ^ m
  | 0, _ => by simp [fv, Nat.mod_one]
  | m + 1, hm => by
    show 2 * fv B h m + _ = _
    rw [fv_of hb m (by omega), hb m (by omega), Nat.testBit_eq_decide_div_mod_eq, show k - m = k - 1 - m + 1 by omega, show k - (m + 1) = k - 1 - m by omega, Nat.pow_succ, ← Nat.div_div_eq_div_mul]
    obtain ⟨z, hz⟩ : ∃ z, z = v / 2 ^ (k - 1 - m) := ⟨_, rfl⟩
    rw [← hz, Nat.pow_succ, Nat.mul_comm (2 ^ m) 2, Nat.mod_mul]
    have : (decide (z % 2 = 1)).toNat = z % 2 := by
      rcases Nat.mod_two_eq_zero_or_one z with e | e <;> rw [e] <;> rfl
    omega
theorem fv_all {B : Nat → Bool} {h v k : Nat} (hb : ∀ j, j < k → B (h + j) = v.testBit (k - 1 - j)) (hv : v < 2 ^ k) : fv B h k = v := by
  rw [fv_of hb k (Nat.le_refl _), Nat.sub_self, Nat.pow_zero, Nat.div_one, Nat.mod_eq_of_lt hv]
def may (N h t : Nat) (k : Int) : Int := if k < 0 ∨ 32 < k then 1 else if (N : Int) - h - t < k then 50 else 0
def mayv (N h t : Nat) (v : Nat) (k : Int) : Int := if k < 0 ∨ 32 < k ∨ 2 ^ k.toNat ≤ v then 1 else if (N : Int) - h - t < k then 50 else 0

theorem and_one_u32 (E : Int) (h0 : 0 ≤ E) (h1 : E < 4294967296) : bits BinOp.and IntKind.u32 E 1 = E % 2 := by
  have h := u32_and_nat E.toNat 1 (by omega) (by omega)
  rw [Nat.and_one_is_mod, Int.toNat_of_nonneg h0] at h
  have h2 : ((E.toNat % 2 : Nat) : Int) = E % 2 := by omega
  exact h.trans h2
theorem at_word (x s : Nat) (h : x < 256) : bits BinOp.and IntKind.u32 (IntKind.u32.wrap ((x : Int) / 2 ^ s)) 1 = ((x / 2 ^ s % 2 : Nat) : Int) := by
  have e : (x : Int) / 2 ^ s = ((x / 2 ^ s : Nat) : Int) := by simp
  have l : x / 2 ^ s ≤ x := Nat.div_le_self _ _
  rw [e, IntKind.wrap_u32', and_one_u32 _ (by omega) (by omega)]
  omega
theorem or_word (x s : Nat) (h : x < 256) (hs : s ≤ 7) : bits BinOp.or IntKind.u8 (x : Int) (IntKind.u8.wrap (2 ^ s)) = ((x ||| 2 ^ s : Nat) : Int) := by
  have l : 2 ^ s ≤ 2 ^ 7 := Nat.pow_le_pow_right (by decide) hs
  have e : (2 : Int) ^ s = ((2 ^ s : Nat) : Int) := by simp
  rw [e]
  generalize 2 ^ s = z at l
  rw [IntKind.wrap_u8', show (z : Int) % 256 = (z : Int) by omega, u8_or_nat _ _ h (by omega)]
theorem or_low (v b : Nat) (hb : b ≤ 1) : 2 * v ||| b = 2 * v + b := by
  have := Nat.two_pow_add_eq_or_of_lt (i := 1) (b := b) (by omega) v
  simpa using this.symm
theorem step_front (x b : Nat) (hx : x < 2147483648) (hb : b ≤ 1) : bits BinOp.or IntKind.u32 (IntKind.u32.wrap ((x : Int) * 2)) (b : Int) = ((2 * x + b : Nat) : Int) := by
  rw [IntKind.wrap_u32', show (x : Int) * 2 % 4294967296 = ((2 * x : Nat) : Int) by omega, u32_or_nat _ _ (by omega) (by omega), or_low _ _ hb]
end M
end Go.Proofs.YtcaifpjbjghhaaaGreatDoor

/-
  Check sums of bits, by plain arithmetic: one bit into a sum, many bits, linearity, what turned bits do. No walk, no model.
-/
namespace Go.Proofs.YtcaifpjbjghhaaaGreatDoor
set_option linter.unusedVariables false
namespace M

def nxb (w p s : Nat) (b : Bool) : Nat := (2 * s % 2 ^ w) ^^^ (if (s.testBit (w - 1) ^^ b) then p else 0)
def run (w p : Nat) (B : Nat → Bool) (s : Nat) : Nat → Nat
  | 0 => s
  | n + 1 => nxb w p (run w p B s n) (B n)

theorem nx_lt (w p s : Nat) (b : Bool) (hp : p < 2 ^ w) : nxb w p s b < 2 ^ w := by
  unfold nxb
  refine Nat.xor_lt_two_pow (Nat.mod_lt _ (Nat.two_pow_pos w)) ?_
  split
  · exact hp
  · exact Nat.two_pow_pos w
theorem run_lt (w p s n : Nat) (B : Nat → Bool) (hp : p < 2 ^ w) (hs : s < 2 ^ w) : run w p B s n < 2 ^ w := by
  cases n with
  | zero => exact hs
  | succ n => exact nx_lt _ _ _ _ hp
theorem run_congr (w p s : Nat) (B C : Nat → Bool) : ∀ n, (∀ i, i < n → B i = C i) → run w p B s n = run w p C s n
  | 0, _ => rfl
  | n + 1, h => by
    show nxb w p (run w p B s n) (B n) = nxb w p (run w p C s n) (C n)
    rw [run_congr w p s B C n fun i hi => h i (by omega), h n (by omega)]
theorem run_add (w p s : Nat) (B : Nat → Bool) (m : Nat) : ∀ n, run w p B s (m + n) = run w p (fun i => B (m + i)) (run w p B s m) n
  | 0 => rfl
  | n + 1 => by
    show nxb w p (run w p B s (m + n)) (B (m + n)) = nxb w p (run w p _ _ n) (B (m + n))
    rw [run_add w p s B m n]

def bitL (xs : List Nat) : Nat → Bool := bitsOf fun i => xs.getD i 0
end M
end Go.Proofs.YtcaifpjbjghhaaaGreatDoor

