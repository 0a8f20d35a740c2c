/-
  The plain arithmetic of layer 2 (logs): roots, logs in 256th parts, powers of two. No program in this text.
-/
import Derived.Test.YthfligbkgoonoaaDoorFixMath
namespace Go.Proofs.YthfligbkgoonoaaDoor
namespace M

/-- the greatest number whose square isn't above -/
def root : Nat → Nat
  | 0 => 0
  | n + 1 => if (root n + 1) * (root n + 1) ≤ n + 1 then root n + 1 else root n
theorem root_spec : ∀ n : Nat, root n * root n ≤ n ∧ n < (root n + 1) * (root n + 1)
  | 0 => ⟨Nat.le_refl _, Nat.zero_lt_one⟩
  | n + 1 => by
    obtain ⟨h1, h2⟩ := root_spec n
    have e : root (n + 1) = if (root n + 1) * (root n + 1) ≤ n + 1 then root n + 1 else root n := rfl
    rw [e]
    generalize root n = r at *
    by_cases h : (r + 1) * (r + 1) ≤ n + 1
    · rw [if_pos h]
      refine ⟨h, ?_⟩
      have e : (r + 1 + 1) * (r + 1 + 1) = (r + 1) * (r + 1) + 2 * (r + 1) + 1 := by grind
      omega
    · rw [if_neg h]
      exact ⟨by omega, by omega⟩
theorem root_le (n : Nat) : root n * root n ≤ n := (root_spec n).1
theorem root_lt (n : Nat) : n < (root n + 1) * (root n + 1) := (root_spec n).2
theorem root_of {n r : Nat} (h1 : r * r ≤ n) (h2 : n < (r + 1) * (r + 1)) : root n = r := by
  have a1 := root_le n
  have a2 := root_lt n
  rcases Nat.lt_trichotomy (root n) r with h | h | h
  · have := Nat.mul_le_mul (show root n + 1 ≤ r from h) (show root n + 1 ≤ r from h); omega
  · exact h
  · have := Nat.mul_le_mul (show r + 1 ≤ root n from h) (show r + 1 ≤ root n from h); omega
theorem root_bd (n : Nat) (h : n < 18446744073709551616) : root n < 4294967296 := by
  have a1 := root_le n
  rcases Nat.lt_or_ge (root n) 4294967296 with h' | h'
  · exact h'
  · have := Nat.mul_le_mul h' h'; omega

/-! logs -/
/-- the number from 2^30 to 2^31 less 1 -/
def lx (n : Nat) : Nat := if blen n ≤ 31 then n * 2 ^ (31 - blen n) else n / 2 ^ (blen n - 31)
def lsq (x : Nat) : Nat := x * x / 1073741824
def lbit (x : Nat) : Nat := lsq x / 2147483648
def lnext (x : Nat) : Nat := if lbit x = 0 then lsq x else lsq x / 2
/-- what is worked on behind k rounds -/
def lxs (x : Nat) : Nat → Nat
  | 0 => x
  | k + 1 => lnext (lxs x k)
/-- the bits behind k rounds -/
def lps (x : Nat) : Nat → Nat
  | 0 => 0
  | k + 1 => 2 * lps x k + lbit (lxs x k)
def log (n : Nat) : Nat := 256 * (blen n - 1) + lps (lx n) 8

theorem blen_spec {n b : Nat} (h1 : 2 ^ b ≤ n) (h2 : n < 2 ^ (b + 1)) : blen n = b + 1 := by
  have a1 : blen n ≤ b + 1 := (blen_le n (b + 1)).2 h2
  have a2 : ¬ blen n ≤ b := fun h => by have := (blen_le n b).1 h; omega
  omega
theorem blen_lo {n : Nat} (h : n ≠ 0) : 1 ≤ blen n ∧ 2 ^ (blen n - 1) ≤ n := by
  have a : 1 ≤ blen n := by unfold blen; rw [if_neg h]; omega
  refine ⟨a, ?_⟩
  rcases Nat.lt_or_ge n (2 ^ (blen n - 1)) with h' | h'
  · have := (blen_le n (blen n - 1)).2 h'; omega
  · exact h'
theorem blen_hi (n : Nat) : n < 2 ^ blen n := (blen_le n (blen n)).1 (Nat.le_refl _)
theorem blen_mono {a b : Nat} (h : a ≤ b) : blen a ≤ blen b := (blen_le a (blen b)).2 (by have := blen_hi b; omega)

theorem lx_bd {n : Nat} (h : n ≠ 0) : 1073741824 ≤ lx n ∧ lx n < 2147483648 := by
  obtain ⟨h1, h2⟩ := blen_lo h
  have h3 := blen_hi n
  unfold lx
  split
  · rename_i hb
    have e1 : 2 ^ (blen n - 1) * 2 ^ (31 - blen n) = 2 ^ 30 := by rw [← Nat.pow_add]; congr 1; omega
    have e2 : 2 ^ blen n * 2 ^ (31 - blen n) = 2 ^ 31 := by rw [← Nat.pow_add]; congr 1; omega
    have g1 := Nat.mul_le_mul_right (2 ^ (31 - blen n)) h2
    have g2 := (Nat.mul_lt_mul_right (Nat.two_pow_pos (31 - blen n))).2 h3
    rw [e1] at g1; rw [e2] at g2
    exact ⟨g1, g2⟩
  · rename_i hb
    have e1 : 2 ^ 30 * 2 ^ (blen n - 31) = 2 ^ (blen n - 1) := by rw [← Nat.pow_add]; congr 1; omega
    have e2 : 2 ^ 31 * 2 ^ (blen n - 31) = 2 ^ blen n := by rw [← Nat.pow_add]; congr 1; omega
    refine ⟨(Nat.le_div_iff_mul_le (Nat.two_pow_pos _)).2 ?_, (Nat.div_lt_iff_lt_mul (Nat.two_pow_pos _)).2 ?_⟩
    · rw [e1]; exact h2
    · rw [e2]; exact h3

theorem lsq_bd {x : Nat} (h1 : 1073741824 ≤ x) (h2 : x < 2147483648) : 1073741824 ≤ lsq x ∧ lsq x < 4294967296 := by
  have g1 := Nat.mul_le_mul h1 h1
  have g2 := Nat.mul_le_mul (show x ≤ 2147483647 by omega) (show x ≤ 2147483647 by omega)
  unfold lsq
  omega
theorem lbit_01 {x : Nat} (h1 : 1073741824 ≤ x) (h2 : x < 2147483648) : lbit x ≤ 1 := by
  have := lsq_bd h1 h2
  unfold lbit; omega
theorem lnext_bd {x : Nat} (h1 : 1073741824 ≤ x) (h2 : x < 2147483648) : 1073741824 ≤ lnext x ∧ lnext x < 2147483648 := by
  have := lsq_bd h1 h2
  unfold lnext lbit; split <;> omega
theorem lxs_bd {x : Nat} (h1 : 1073741824 ≤ x) (h2 : x < 2147483648) (k : Nat) : 1073741824 ≤ lxs x k ∧ lxs x k < 2147483648 := by
  induction k with
  | zero => exact ⟨h1, h2⟩
  | succ k ih => exact lnext_bd ih.1 ih.2
theorem lps_bd {x : Nat} (h1 : 1073741824 ≤ x) (h2 : x < 2147483648) (k : Nat) : lps x k < 2 ^ k := by
  induction k with
  | zero => exact Nat.zero_lt_one
  | succ k ih =>
    have := lxs_bd h1 h2 k
    have := lbit_01 this.1 this.2
    show 2 * lps x k + lbit (lxs x k) < 2 ^ (k + 1)
    rw [Nat.pow_succ]; omega
theorem lsq_mono {x y : Nat} (h : x ≤ y) : lsq x ≤ lsq y := by
  have := Nat.mul_le_mul h h
  unfold lsq; omega
theorem lps_mono {x y : Nat} (hx1 : 1073741824 ≤ x) (h : x ≤ y) (hy2 : y < 2147483648) (k : Nat) :
    lps x k < lps y k ∨ (lps x k = lps y k ∧ lxs x k ≤ lxs y k) := by
  induction k with
  | zero => exact Or.inr ⟨rfl, h⟩
  | succ k ih =>
    have bx := lxs_bd hx1 (by omega) k
    have by' := lxs_bd (show 1073741824 ≤ y by omega) hy2 k
    have cx := lbit_01 bx.1 bx.2
    have cy := lbit_01 by'.1 by'.2
    show 2 * lps x k + lbit (lxs x k) < 2 * lps y k + lbit (lxs y k) ∨ (2 * lps x k + lbit (lxs x k) = 2 * lps y k + lbit (lxs y k) ∧ lnext (lxs x k) ≤ lnext (lxs y k))
    rcases ih with h' | ⟨h', h''⟩
    · omega
    · have := lsq_mono h''
      unfold lbit at cx cy
      unfold lnext lbit
      split <;> split <;> omega
theorem lx_mono {a b : Nat} (h : a ≤ b) (hb : blen a = blen b) : lx a ≤ lx b := by
  unfold lx
  rw [hb]
  split
  · exact Nat.mul_le_mul_right _ h
  · exact Nat.div_le_div_right h
theorem log_mono {a b : Nat} (h0 : a ≠ 0) (h : a ≤ b) : log a ≤ log b := by
  have h0b : b ≠ 0 := by omega
  have xa := lx_bd h0
  have xb := lx_bd h0b
  have pa := lps_bd xa.1 xa.2 8
  have la := blen_lo h0
  unfold log
  rcases Nat.lt_or_ge (blen a) (blen b) with hb | hb
  · omega
  · have e : blen a = blen b := Nat.le_antisymm (blen_mono h) hb
    have := lps_mono xa.1 (lx_mono h e) xb.2 8
    omega
theorem log_div {a : Nat} (h0 : a ≠ 0) : log a / 256 = blen a - 1 := by
  have xa := lx_bd h0
  have pa := lps_bd xa.1 xa.2 8
  unfold log; omega
theorem log_bd {a : Nat} (h0 : a ≠ 0) (h : a < 18446744073709551616) : log a < 16384 := by
  have xa := lx_bd h0
  have pa := lps_bd xa.1 xa.2 8
  have : blen a ≤ 64 := (blen_le a 64).2 h
  have := blen_lo h0
  unfold log; omega

/-! powers -/
def R : Nat → Nat
  | 0 => 1518500249 | 1 => 1276901416 | 2 => 1170923761 | 3 => 1121280435
  | 4 => 1097253708 | 5 => 1085434105 | 6 => 1079572135 | _ => 1076653033
/-- what the power is behind k bits of f -/
def ey (f : Nat) : Nat → Nat
  | 0 => 1073741824
  | k + 1 => if f / 2 ^ (7 - k) % 2 = 1 then ey f k * R k / 1073741824 else ey f k
/-- the power of t less 4096 256th parts -/
def expN (t : Nat) : Nat := if 30 ≤ t / 256 then ey (t % 256) 8 * 2 ^ (t / 256 - 30) else (ey (t % 256) 8 / 2 ^ (29 - t / 256) + 1) / 2
def exp (q : Int) : Nat := expN (q + 4096).toNat

theorem ey_all : ∀ f < 256, ∀ k < 9, 1073741824 ≤ ey f k ∧ ey f k < 2147483648 := by decide +kernel
theorem ey_bd {f : Nat} (hf : f < 256) {k : Nat} (hk : k ≤ 8) : 1073741824 ≤ ey f k ∧ ey f k < 2147483648 := ey_all f hf k (by omega)
theorem R_all : ∀ k < 8, 1073741824 ≤ R k ∧ R k < 2147483648 := by decide +kernel
theorem expN_bd {t : Nat} (h : t ≤ 11776) : expN t < 140737488355328 := by
  have hy := ey_bd (show t % 256 < 256 by omega) (Nat.le_refl 8)
  unfold expN
  split
  · have h1 : 2 ^ (t / 256 - 30) ≤ 2 ^ 16 := Nat.pow_le_pow_right (by omega) (by omega)
    have h2 := Nat.mul_le_mul (show ey (t % 256) 8 ≤ 2147483647 by omega) h1
    omega
  · have := Nat.div_le_self (ey (t % 256) 8) (2 ^ (29 - t / 256))
    omega
theorem exp_bd {q : Int} (_h0 : -4096 ≤ q) (hq : q ≤ 7680) : exp q < 140737488355328 := expN_bd (by omega)

/-! as the calls answer, over Int: walks see them as they stand -/
def rootI (n : Int) : Int := root n.toNat
def blenI (n : Int) : Int := blen n.toNat
def logI (n : Int) : Int := if n = 0 then 0 else log n.toNat
def logeI (n : Int) : Int := if n = 0 then 1 else 0
def expI (q : Int) : Int := if -4096 ≤ q ∧ q ≤ 7680 then exp q else 0
def expeI (q : Int) : Int := if -4096 ≤ q ∧ q ≤ 7680 then 0 else 1

end M
end Go.Proofs.YthfligbkgoonoaaDoor
