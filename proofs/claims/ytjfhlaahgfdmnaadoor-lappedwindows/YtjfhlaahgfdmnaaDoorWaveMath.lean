/-
  Plain arithmetic of layer 3 (wave): the sine of a part of a turn, in whole numbers, and the laws of its turns.
-/
import Derived.Test.YtjfhlaahgfdmnaaDoorFixMath
namespace Go.Proofs.YtjfhlaahgfdmnaaDoor
namespace M

def part (a b : Int) : Int := a * b / 1073741824
def coef : Nat → Int
  | 0 => 172272
  | 1 => 5026995
  | 2 => 85569306
  | 3 => 693598668
  | _ => 1686629713
def pk (u : Int) : Nat → Int
  | 0 => 0
  | k + 1 => coef k - part (pk u k) u
def qraw (t : Int) : Int := part (pk (part t t) 5) t
def qs (t : Int) : Int := sat16 (rnd (qraw t) 15)
def rest (d q r : Int) : Int := if q % 2 = 1 then d - r else r
def hgt (d m : Int) : Int := rest d (4 * m / d) (4 * m % d) * 1073741824 / d
def sn (d m : Int) : Int := if 2 ≤ 4 * m / d then -qs (hgt d m) else qs (hgt d m)
def sine (n d : Int) : Int := sn d (n % d)
def cosine (n d : Int) : Int := sine (4 * (n % d) + d) (4 * d)
/-- what the calls answer -/
def sineI (n d : Int) : Int := if 1 ≤ d ∧ d ≤ 1048576 then sine n d else 0
def cosineI (n d : Int) : Int := if 1 ≤ d ∧ d ≤ 1048576 then cosine n d else 0
def waveE (d : Int) : Int := if 1 ≤ d ∧ d ≤ 1048576 then 0 else 1

theorem part_bd {a u A : Int} (a0 : 0 ≤ a) (a1 : a ≤ A) (u0 : 0 ≤ u) (u1 : u ≤ 1073741824) :
    0 ≤ part a u ∧ part a u ≤ A ∧ 0 ≤ a * u ∧ a * u ≤ A * 1073741824 := by
  have h1 : 0 ≤ a * u := Int.mul_nonneg a0 u0
  have h2 : a * u ≤ A * 1073741824 := Int.le_trans (Int.mul_le_mul_of_nonneg_left u1 a0) (by omega)
  unfold part
  omega
theorem pk_bd {u : Int} (u0 : 0 ≤ u) (u1 : u ≤ 1073741824) (k : Nat) (hk : k ≤ 5) : 0 ≤ pk u k ∧ pk u k ≤ 1686629713 := by
  have e0 : pk u 0 = 0 := rfl
  have e1 : pk u 1 = 172272 - part (pk u 0) u := rfl
  have e2 : pk u 2 = 5026995 - part (pk u 1) u := rfl
  have e3 : pk u 3 = 85569306 - part (pk u 2) u := rfl
  have e4 : pk u 4 = 693598668 - part (pk u 3) u := rfl
  have e5 : pk u 5 = 1686629713 - part (pk u 4) u := rfl
  have b0 := part_bd (a := pk u 0) (A := 0) (by omega) (by omega) u0 u1
  have b1 := part_bd (a := pk u 1) (A := 172272) (by omega) (by omega) u0 u1
  have b2 := part_bd (a := pk u 2) (A := 5026995) (by omega) (by omega) u0 u1
  have b3 := part_bd (a := pk u 3) (A := 85569306) (by omega) (by omega) u0 u1
  have b4 := part_bd (a := pk u 4) (A := 693598668) (by omega) (by omega) u0 u1
  rcases (by omega : k = 0 ∨ k = 1 ∨ k = 2 ∨ k = 3 ∨ k = 4 ∨ k = 5) with rfl | rfl | rfl | rfl | rfl | rfl <;> omega
theorem pk4_bd {u : Int} (u0 : 0 ≤ u) (u1 : u ≤ 1073741824) (k : Nat) (hk : k ≤ 4) : pk u k ≤ 693598668 := by
  have e0 : pk u 0 = 0 := rfl
  have e1 : pk u 1 = 172272 - part (pk u 0) u := rfl
  have e2 : pk u 2 = 5026995 - part (pk u 1) u := rfl
  have e3 : pk u 3 = 85569306 - part (pk u 2) u := rfl
  have e4 : pk u 4 = 693598668 - part (pk u 3) u := rfl
  have b0 := part_bd (a := pk u 0) (A := 0) (by omega) (by omega) u0 u1
  have b1 := part_bd (a := pk u 1) (A := 172272) (by omega) (by omega) u0 u1
  have b2 := part_bd (a := pk u 2) (A := 5026995) (by omega) (by omega) u0 u1
  have b3 := part_bd (a := pk u 3) (A := 85569306) (by omega) (by omega) u0 u1
  rcases (by omega : k = 0 ∨ k = 1 ∨ k = 2 ∨ k = 3 ∨ k = 4) with rfl | rfl | rfl | rfl | rfl <;> omega
theorem qraw_bd {t : Int} (t0 : 0 ≤ t) (t1 : t ≤ 1073741824) : 0 ≤ qraw t ∧ qraw t ≤ 1686629713 := by
  have hu := part_bd t0 t1 t0 t1
  have hp := pk_bd hu.1 hu.2.1 5 (by omega)
  have := part_bd hp.1 hp.2 t0 t1
  exact ⟨this.1, this.2.1⟩
theorem rnd15_nonneg {n : Int} (h : 0 ≤ n) : 0 ≤ rnd n 15 := by
  have := rnd_mono 0 n 15 h
  have e : rnd 0 15 = 0 := by decide
  omega
theorem qs_bd {t : Int} (t0 : 0 ≤ t) (t1 : t ≤ 1073741824) : 0 ≤ qs t ∧ qs t ≤ 32767 := by
  have h := rnd15_nonneg (qraw_bd t0 t1).1
  unfold qs sat16 clip
  (repeat' split) <;> omega
theorem qs_zero : qs 0 = 0 := by decide +kernel

/-- the quarter, and what is left -/
theorem quart {d m : Int} (hd : 1 ≤ d) (m0 : 0 ≤ m) (m1 : m < d) :
    0 ≤ 4 * m / d ∧ 4 * m / d ≤ 3 ∧ 0 ≤ 4 * m % d ∧ 4 * m % d < d ∧ 4 * m = d * (4 * m / d) + 4 * m % d := by
  have h1 : 0 ≤ 4 * m / d := Int.ediv_nonneg (by omega) (by omega)
  have h2 : 4 * m / d < 4 := Int.ediv_lt_of_lt_mul (by omega) (by omega)
  have h3 := Int.emod_nonneg (4 * m) (show d ≠ 0 by omega)
  have h4 := Int.emod_lt_of_pos (4 * m) (show 0 < d by omega)
  have h5 := Int.mul_ediv_add_emod (4 * m) d
  omega
theorem rest_bd {d q r : Int} (r0 : 0 ≤ r) (r1 : r < d) : 0 ≤ rest d q r ∧ rest d q r ≤ d := by
  unfold rest; split <;> omega
theorem hgt_of {d x : Int} (hd : 1 ≤ d) (x0 : 0 ≤ x) (x1 : x ≤ d) : 0 ≤ x * 1073741824 / d ∧ x * 1073741824 / d ≤ 1073741824 := by
  refine ⟨Int.ediv_nonneg (by omega) (by omega), ?_⟩
  have := Int.ediv_le_ediv (show 0 < d by omega) (show x * 1073741824 ≤ 1073741824 * d by omega)
  rwa [Int.mul_ediv_cancel _ (by omega)] at this
theorem hgt_bd {d m : Int} (hd : 1 ≤ d) (m0 : 0 ≤ m) (m1 : m < d) : 0 ≤ hgt d m ∧ hgt d m ≤ 1073741824 := by
  have hq := quart hd m0 m1
  have := rest_bd (d := d) (q := 4 * m / d) hq.2.2.1 hq.2.2.2.1
  exact hgt_of hd this.1 this.2
theorem sn_bd {d m : Int} (hd : 1 ≤ d) (m0 : 0 ≤ m) (m1 : m < d) : -32767 ≤ sn d m ∧ sn d m ≤ 32767 := by
  have h := hgt_bd hd m0 m1
  have := qs_bd h.1 h.2
  unfold sn; split <;> omega
theorem mod_bd (n : Int) {d : Int} (hd : 1 ≤ d) : 0 ≤ n % d ∧ n % d < d :=
  ⟨Int.emod_nonneg n (by omega), Int.emod_lt_of_pos n (by omega)⟩
theorem sine_bd (n : Int) {d : Int} (hd : 1 ≤ d) : -32767 ≤ sine n d ∧ sine n d ≤ 32767 :=
  sn_bd hd (mod_bd n hd).1 (mod_bd n hd).2
theorem cosine_bd (n : Int) {d : Int} (hd : 1 ≤ d) : -32767 ≤ cosine n d ∧ cosine n d ≤ 32767 := sine_bd _ (by omega)

/-- whole turns change nothing -/
theorem sine_turns (n k : Int) {d : Int} : sine (n + k * d) d = sine n d := by
  unfold sine
  rw [Int.add_mul_emod_self_right]
theorem sine_emod (n d : Int) : sine (n % d) d = sine n d := by
  unfold sine
  rw [Int.emod_emod]

/-- finer parts change nothing -/
theorem sn_finer (m : Int) {d k : Int} (hk : 1 ≤ k) : sn (d * k) (m * k) = sn d m := by
  have hq : 4 * (m * k) / (d * k) = 4 * m / d := by
    rw [← Int.mul_assoc, Int.mul_ediv_mul_of_pos_left _ _ (by omega)]
  have hr : 4 * (m * k) % (d * k) = 4 * m % d * k := by
    rw [← Int.mul_assoc, Int.mul_comm _ k, Int.mul_comm d k, Int.mul_emod_mul_of_pos _ _ (by omega), Int.mul_comm]
  have hh : hgt (d * k) (m * k) = hgt d m := by
    unfold hgt
    rw [hq, hr]
    have : rest (d * k) (4 * m / d) (4 * m % d * k) = rest d (4 * m / d) (4 * m % d) * k := by
      unfold rest; split
      · rw [Int.sub_mul]
      · rfl
    rw [this, Int.mul_right_comm, Int.mul_ediv_mul_of_pos_left _ _ (by omega)]
  unfold sn
  rw [hq, hh]
theorem sine_finer (n : Int) {d k : Int} (hk : 1 ≤ k) : sine (n * k) (d * k) = sine n d := by
  unfold sine
  rw [show n * k % (d * k) = n % d * k from by rw [Int.mul_comm n k, Int.mul_comm d k, Int.mul_emod_mul_of_pos _ _ (by omega), Int.mul_comm], sn_finer _ hk]

/-- a quotient and its rest are what they must be -/
theorem quo_of {a d q r : Int} (h : a = d * q + r) (r0 : 0 ≤ r) (r1 : r < d) : a / d = q ∧ a % d = r := by
  have h1 : a / d = q := by
    rw [h, Int.add_comm, Int.add_mul_ediv_left _ _ (by omega), Int.ediv_eq_zero_of_lt r0 r1]; omega
  have h2 := Int.mul_ediv_add_emod a d
  rw [h1] at h2
  exact ⟨h1, by omega⟩

/-- the quarters one by one -/
theorem sn_q0 {d m : Int} (_hd : 1 ≤ d) (m0 : 0 ≤ m) (h : 4 * m < d) : sn d m = qs (4 * m * 1073741824 / d) := by
  have := quo_of (a := 4 * m) (d := d) (q := 0) (r := 4 * m) (by omega) (by omega) h
  unfold sn hgt rest
  rw [this.1, this.2]; simp
theorem sn_q1 {d m : Int} (_hd : 1 ≤ d) (h0 : d ≤ 4 * m) (h : 4 * m < 2 * d) : sn d m = qs ((2 * d - 4 * m) * 1073741824 / d) := by
  have := quo_of (a := 4 * m) (d := d) (q := 1) (r := 4 * m - d) (by omega) (by omega) (by omega)
  unfold sn hgt rest
  rw [this.1, this.2]; simp
  congr 3; omega
theorem sn_q2 {d m : Int} (_hd : 1 ≤ d) (h0 : 2 * d ≤ 4 * m) (h : 4 * m < 3 * d) : sn d m = -qs ((4 * m - 2 * d) * 1073741824 / d) := by
  have := quo_of (a := 4 * m) (d := d) (q := 2) (r := 4 * m - 2 * d) (by omega) (by omega) (by omega)
  unfold sn hgt rest
  rw [this.1, this.2]; simp
theorem sn_q3 {d m : Int} (_hd : 1 ≤ d) (h0 : 3 * d ≤ 4 * m) (h : 4 * m < 4 * d) : sn d m = -qs ((4 * d - 4 * m) * 1073741824 / d) := by
  have := quo_of (a := 4 * m) (d := d) (q := 3) (r := 4 * m - 3 * d) (by omega) (by omega) (by omega)
  unfold sn hgt rest
  rw [this.1, this.2]; simp
  congr 3; omega
theorem quarters {d m : Int} (m1 : m < d) : 4 * m < d ∨ (d ≤ 4 * m ∧ 4 * m < 2 * d) ∨ (2 * d ≤ 4 * m ∧ 4 * m < 3 * d) ∨ (3 * d ≤ 4 * m ∧ 4 * m < 4 * d) := by omega
theorem full {d : Int} (hd : 1 ≤ d) : d * 1073741824 / d = 1073741824 := by
  rw [Int.mul_comm, Int.mul_ediv_cancel _ (by omega)]
theorem sn_zero {d : Int} (hd : 1 ≤ d) : sn d 0 = 0 := by
  rw [sn_q0 hd (by omega) (by omega)]
  simpa using qs_zero

/-- the other way round -/
theorem sn_back {d m : Int} (hd : 1 ≤ d) (m0 : 0 < m) (m1 : m < d) : sn d (d - m) = -sn d m := by
  rcases quarters m1 with h | ⟨h1, h2⟩ | ⟨h1, h2⟩ | ⟨h1, h2⟩
  · rw [sn_q0 hd (by omega) h, sn_q3 hd (by omega) (by omega)]
    congr 4; omega
  · rcases Int.lt_or_le d (4 * m) with h | h
    · rw [sn_q1 hd h1 h2, sn_q2 hd (by omega) (by omega)]
      congr 4; omega
    · rw [sn_q1 hd h1 h2, sn_q3 hd (by omega) (by omega)]
      congr 4; omega
  · rcases Int.lt_or_le (2 * d) (4 * m) with h | h
    · rw [sn_q2 hd h1 h2, sn_q1 hd (by omega) (by omega), Int.neg_neg]
      congr 3; omega
    · rw [sn_q2 hd h1 h2, sn_q2 hd (by omega) (by omega)]
      rw [show 4 * m - 2 * d = 0 by omega, show 4 * (d - m) - 2 * d = 0 by omega]
      simp [qs_zero]
  · rcases Int.lt_or_le (3 * d) (4 * m) with h | h
    · rw [sn_q3 hd h1 h2, sn_q0 hd (by omega) (by omega), Int.neg_neg]
      congr 3; omega
    · rw [sn_q3 hd h1 h2, sn_q1 hd (by omega) (by omega), Int.neg_neg]
      congr 3; omega
theorem neg_mod {n d : Int} (hd : 1 ≤ d) : (-n) % d = if n % d = 0 then 0 else d - n % d := by
  have hb := mod_bd n hd
  have h5 := Int.mul_ediv_add_emod n d
  split
  · rename_i h
    exact (quo_of (q := -(n / d)) (by rw [Int.mul_neg]; omega) (by omega) (by omega)).2
  · exact (quo_of (q := -(n / d) - 1) (by rw [Int.mul_sub, Int.mul_neg]; omega) (by omega) (by omega)).2
theorem sine_neg (n : Int) {d : Int} (hd : 1 ≤ d) : sine (-n) d = -sine n d := by
  have hb := mod_bd n hd
  unfold sine
  rw [neg_mod hd]
  split
  · rename_i h; rw [h, sn_zero hd]; rfl
  · exact sn_back hd (by omega) hb.2

/-- how high the sine stands, and how high the cosine: the two parts are together a quarter -/
theorem sine_cosine (n : Int) {d : Int} (hd : 1 ≤ d) :
    ∃ x, 0 ≤ x ∧ x ≤ d ∧ (sine n d = qs (x * 1073741824 / d) ∨ sine n d = -qs (x * 1073741824 / d)) ∧
      (cosine n d = qs ((d - x) * 1073741824 / d) ∨ cosine n d = -qs ((d - x) * 1073741824 / d)) := by
  have hb := mod_bd n hd
  unfold cosine
  rw [← sine_emod n d]
  generalize n % d = m at hb ⊢
  have e : sine m d = sn d m := by unfold sine; rw [Int.emod_eq_of_lt hb.1 hb.2]
  rw [e]
  have k4 : ∀ y, 4 * (y * 1073741824) / (4 * d) = y * 1073741824 / d := fun y => Int.mul_ediv_mul_of_pos _ _ (by omega)
  rcases quarters hb.2 with h | ⟨h1, h2⟩ | ⟨h1, h2⟩ | ⟨h1, h2⟩
  · refine ⟨4 * m, by omega, by omega, .inl (sn_q0 hd hb.1 h), .inl ?_⟩
    unfold sine
    rw [Int.emod_eq_of_lt (by omega) (by omega), sn_q1 (by omega) (by omega) (by omega), ← k4]
    congr 2; omega
  · refine ⟨2 * d - 4 * m, by omega, by omega, .inl (sn_q1 hd h1 h2), .inr ?_⟩
    unfold sine
    rw [Int.emod_eq_of_lt (by omega) (by omega), sn_q2 (by omega) (by omega) (by omega), ← k4]
    congr 3; omega
  · refine ⟨4 * m - 2 * d, by omega, by omega, .inr (sn_q2 hd h1 h2), .inr ?_⟩
    unfold sine
    rw [Int.emod_eq_of_lt (by omega) (by omega), sn_q3 (by omega) (by omega) (by omega), ← k4]
    congr 3; omega
  · refine ⟨4 * d - 4 * m, by omega, by omega, .inr (sn_q3 hd h1 h2), .inl ?_⟩
    unfold sine
    have : (4 * m + d) % (4 * d) = 4 * m - 3 * d := by
      rw [show 4 * m + d = (4 * m - 3 * d) + 4 * d by omega, Int.add_emod_right, Int.emod_eq_of_lt (by omega) (by omega)]
    rw [this, sn_q0 (by omega) (by omega) (by omega), ← k4]
    congr 2; omega

end M
end Go.Proofs.YtjfhlaahgfdmnaaDoor
