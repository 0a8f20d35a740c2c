/-
  The plain arithmetic of layer 1 (fix): clipping, rounding by bits, how often a number may be doubled. No program in this text.
-/
import Derived.KernelRfl
namespace Go.Proofs.Ytbfanglillndnaa
namespace M

/-- the nearest number between two bounds; the lower bound is asked first. -/
def clip (n lo hi : Int) : Int := if n < lo then lo else if hi < n then hi else n
/-- n rounded by s bits, s held to 0 .. 62. -/
def rnd (n s : Int) : Int := if clip s 0 62 = 0 then n else (n / 2 ^ (clip s 0 62 - 1).toNat + 1) / 2
def lo32 : Int := -2147483648
def hi32 : Int := 2147483647
def sat32 (n : Int) : Int := clip n (-2147483648) 2147483647
def sat16 (n : Int) : Int := clip n (-32768) 32767
/-- how many bits a number has -/
def blen (m : Nat) : Nat := if m = 0 then 0 else m.log2 + 1
/-- what a number is beyond -1, or the number -/
def fold (a : Int) : Int := if a < 0 then -a - 1 else a
/-- how often a may be doubled and stay an int32 -/
def spare (a : Int) : Int := 31 - (blen (fold a).toNat : Int)

theorem clip_le {n lo hi : Int} (h : lo ≤ hi) : clip n lo hi ≤ hi := by unfold clip; (repeat' split) <;> omega
theorem le_clip {n lo hi : Int} (h : lo ≤ hi) : lo ≤ clip n lo hi := by unfold clip; (repeat' split) <;> omega
theorem clip_id {n lo hi : Int} (h1 : lo ≤ n) (h2 : n ≤ hi) : clip n lo hi = n := by unfold clip; rw [if_neg (by omega), if_neg (by omega)]
theorem clip_mono {a b lo hi : Int} (h : a ≤ b) (hh : lo ≤ hi) : clip a lo hi ≤ clip b lo hi := by
  unfold clip; repeat' split
  all_goals omega
theorem sat32_bd (n : Int) : -2147483648 ≤ sat32 n ∧ sat32 n ≤ 2147483647 := ⟨le_clip (by decide), clip_le (by decide)⟩
theorem sat16_bd (n : Int) : -32768 ≤ sat16 n ∧ sat16 n ≤ 32767 := ⟨le_clip (by decide), clip_le (by decide)⟩

theorem pow_pos (k : Nat) : (0 : Int) < 2 ^ k := by
  have h : 0 < 2 ^ k := Nat.two_pow_pos k
  have e : ((2 ^ k : Nat) : Int) = (2 : Int) ^ k := by simp
  omega

/-- n>>s + (n>>(s-1))&1 -/
theorem rnd_code (n s : Int) (h1 : 1 ≤ s) (h2 : s ≤ 62) : n / 2 ^ s.toNat + n / 2 ^ (s - 1).toNat % 2 = rnd n s := by
  have hc : clip s 0 62 = s := clip_id (by omega) h2
  unfold rnd
  rw [hc, if_neg (by omega)]
  obtain ⟨k, hk⟩ : ∃ k : Nat, s = (k : Int) + 1 := ⟨(s - 1).toNat, by omega⟩
  subst hk
  have e1 : ((k : Int) + 1).toNat = k + 1 := by omega
  have e2 : ((k : Int) + 1 - 1).toNat = k := by omega
  rw [e1, e2, Int.pow_succ, ← Int.ediv_ediv_of_nonneg (Int.le_of_lt (pow_pos k))]
  omega

theorem div_bd (n : Int) (k : Nat) {B : Int} (hB : 0 ≤ B) (h1 : -B ≤ n) (h2 : n ≤ B) : -B ≤ n / 2 ^ k ∧ n / 2 ^ k ≤ B := by
  have hp := pow_pos k
  have hp1 : (1 : Int) ≤ 2 ^ k := hp
  constructor
  · rw [Int.le_ediv_iff_mul_le hp]
    have : B * 1 ≤ B * 2 ^ k := Int.mul_le_mul_of_nonneg_left hp1 hB
    rw [Int.neg_mul]; omega
  · apply Int.ediv_le_of_le_mul hp
    have : B * 1 ≤ B * 2 ^ k := Int.mul_le_mul_of_nonneg_left hp1 hB
    omega

theorem rnd_bd (n s : Int) (h1 : -9223372036854775808 ≤ n) (h2 : n ≤ 9223372036854775807) : -9223372036854775808 ≤ rnd n s ∧ rnd n s ≤ 9223372036854775807 := by
  unfold rnd
  split
  · omega
  · have := div_bd n (clip s 0 62 - 1).toNat (B := 9223372036854775808) (by omega) (by omega) (by omega)
    omega

theorem rnd_mono (a b s : Int) (h : a ≤ b) : rnd a s ≤ rnd b s := by
  unfold rnd
  split
  · exact h
  · have hp := pow_pos (clip s 0 62 - 1).toNat
    have := Int.ediv_le_ediv hp h
    omega

/-- a rounded number is at most one half away -/
theorem rnd_near (n s : Int) (h1 : 1 ≤ s) (h2 : s ≤ 62) : -(2 ^ (s - 1).toNat) ≤ n - rnd n s * 2 ^ s.toNat ∧ n - rnd n s * 2 ^ s.toNat < 2 ^ (s - 1).toNat := by
  have hc : clip s 0 62 = s := clip_id (by omega) h2
  unfold rnd
  rw [hc, if_neg (by omega)]
  obtain ⟨k, hk⟩ : ∃ k : Nat, s = (k : Int) + 1 := ⟨(s - 1).toNat, by omega⟩
  subst hk
  have e1 : ((k : Int) + 1).toNat = k + 1 := by omega
  have e2 : ((k : Int) + 1 - 1).toNat = k := by omega
  rw [e1, e2, Int.pow_succ]
  generalize hP : (2 : Int) ^ k = P
  have hp : 0 < P := by rw [← hP]; exact pow_pos k
  generalize hq : n / P = q
  have hm1 : P * q ≤ n := by rw [← hq]; exact Int.mul_ediv_self_le (by omega)
  have hm2 : n < P * q + P := by rw [← hq]; exact Int.lt_mul_ediv_self_add hp
  have hr : (q + 1) / 2 * 2 = q ∨ (q + 1) / 2 * 2 = q + 1 := by omega
  have ha : (q + 1) / 2 * (P * 2) = P * ((q + 1) / 2 * 2) := by rw [Int.mul_comm P 2, ← Int.mul_assoc, Int.mul_comm]
  rw [ha]
  rcases hr with hr | hr <;> rw [hr]
  · omega
  · rw [Int.mul_add]; omega

theorem mul_bd (a b A B : Int) (h1 : -A ≤ a) (h2 : a ≤ A) (h3 : -B ≤ b) (h4 : b ≤ B) : -(A * B) ≤ a * b ∧ a * b ≤ A * B := by
  have hA : 0 ≤ A := by omega
  have hB : 0 ≤ B := by omega
  have k1 : 0 ≤ (A - a) * (B + b) := Int.mul_nonneg (by omega) (by omega)
  have k2 : 0 ≤ (A + a) * (B - b) := Int.mul_nonneg (by omega) (by omega)
  have k3 : 0 ≤ (A - a) * (B - b) := Int.mul_nonneg (by omega) (by omega)
  have k4 : 0 ≤ (A + a) * (B + b) := Int.mul_nonneg (by omega) (by omega)
  rw [Int.sub_mul, Int.mul_add, Int.mul_add] at k1
  rw [Int.add_mul, Int.mul_sub, Int.mul_sub] at k2
  rw [Int.sub_mul, Int.mul_sub, Int.mul_sub] at k3
  rw [Int.add_mul, Int.mul_add, Int.mul_add] at k4
  omega

theorem blen_le (m j : Nat) : blen m ≤ j ↔ m < 2 ^ j := by
  unfold blen
  split
  · rename_i h; subst h; have := Nat.two_pow_pos j; omega
  · rename_i h
    rw [← Nat.log2_lt h]; omega
theorem blen_shift (m k : Nat) (h : 2 ^ k ≤ m) : blen m = k + blen (m / 2 ^ k) := by
  have hp := Nat.two_pow_pos k
  have hq : 0 < m / 2 ^ k := Nat.div_pos h hp
  have h1 : blen m ≤ k + blen (m / 2 ^ k) := by
    rw [blen_le]
    have : m / 2 ^ k < 2 ^ blen (m / 2 ^ k) := (blen_le _ _).1 (Nat.le_refl _)
    rw [Nat.pow_add, Nat.mul_comm]
    exact (Nat.div_lt_iff_lt_mul hp).1 this
  have h2 : k + blen (m / 2 ^ k) ≤ blen m := by
    have hk : k ≤ blen m := by
      rcases Nat.lt_or_ge (blen m) k with hlt | hge
      · have h3 : m < 2 ^ blen m := (blen_le _ _).1 (Nat.le_refl _)
        have h4 : 2 ^ blen m ≤ 2 ^ k := Nat.pow_le_pow_right (by omega) (by omega)
        omega
      · exact hge
    have : blen (m / 2 ^ k) ≤ blen m - k := by
      rw [blen_le]
      have h3 : m < 2 ^ blen m := (blen_le _ _).1 (Nat.le_refl _)
      rw [Nat.div_lt_iff_lt_mul hp, ← Nat.pow_add, Nat.sub_add_cancel hk]
      exact h3
    omega
  omega
theorem blen8 (m : Nat) (h : m < 256) : blen m ≤ 8 := (blen_le m 8).2 (by simpa using h)

end M
end Go.Proofs.Ytbfanglillndnaa
