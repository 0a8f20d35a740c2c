import Derived.KernelRfl
/-
  The plain arithmetic of layer 1 (fix): clipping, rounding by bits, how often a number may be doubled. No program in this text.
-/
namespace Go.Proofs.YtcaifpjbjghhaaaGreatDoor
namespace M

def clip (n lo hi : Int) : Int := if n < lo then lo else if hi < n then hi else n
def rnd (n s : Int) : Int := if clip s 0 62 = 0 then n else (n / 2 ^ (clip s 0 62 - 1).toNat + 1) / 2
def sat32 (n : Int) : Int := clip n (-2147483648) 2147483647
def sat16 (n : Int) : Int := clip n (-32768) 32767
def blen (m : Nat) : Nat := if m = 0 then 0 else m.log2 + 1
def fold (a : Int) : Int := if a < 0 then -a - 1 else a
def spare (a : Int) : Int := 31 - (blen (fold a).toNat : Int)

theorem clip_le {n lo hi : Int} (h : lo ≤ hi) : clip n lo hi ≤ hi := by unfold clip; (repeat' split) <;> omega
theorem le_clip {n lo hi : Int} (h : lo ≤ hi) : lo ≤ clip n lo hi := by unfold clip; (repeat' split) <;> omega
theorem clip_id {n lo hi : Int} (h1 : lo ≤ n) (h2 : n ≤ hi) : clip n lo hi = n := by unfold clip; rw [if_neg (by omega), if_neg (by omega)]
theorem sat32_bd (n : Int) : -2147483648 ≤ sat32 n ∧ sat32 n ≤ 2147483647 := ⟨le_clip (by decide), clip_le (by decide)⟩
theorem sat16_bd (n : Int) : -32768 ≤ sat16 n ∧ sat16 n ≤ 32767 := ⟨le_clip (by decide), clip_le (by decide)⟩

theorem pow_pos (k : Nat) : (0 : Int) < 2 ^ k := by
  have h : 0 < 2 ^ k := Nat.two_pow_pos k
  have e : ((2 ^ k : Nat) : Int) = (2 : Int) ^ k := by simp
  omega

theorem rnd_code (n s : Int) (h1 : 1 ≤ s) (h2 : s ≤ 62) : n / 2 ^ s.toNat + n / 2 ^ (s - 1).toNat % 2 = rnd n s := by
  have hc : clip s 0 62 = s := clip_id (by omega) h2
  unfold rnd
  rw [hc, if_neg (by omega)]
  obtain ⟨k, hk⟩ : ∃ k : Nat, s = (k : Int) + 1 := ⟨(s - 1).toNat, by omega⟩
  subst hk
  have e1 : ((k : Int) + 1).toNat = k + 1 := by omega
  have e2 : ((k : Int) + 1 - 1).toNat = k := by omega
  rw [e1, e2, Int.pow_succ, ← Int.ediv_ediv_of_nonneg (Int.le_of_lt (pow_pos k))]
  omega

theorem div_bd (n : Int) (k : Nat) {B : Int} (hB : 0 ≤ B) (h1 : -B ≤ n) (h2 : n ≤ B) : -B ≤ n / 2 ^ k ∧ n / 2 ^ k ≤ B := by
  have hp := pow_pos k
  have hp1 : (1 : Int) ≤ 2 ^ k := hp
  constructor
  · rw [Int.le_ediv_iff_mul_le hp]
    have : B * 1 ≤ B * 2 ^ k := Int.mul_le_mul_of_nonneg_left hp1 hB
    rw [Int.neg_mul]; omega
  · apply Int.ediv_le_of_le_mul hp
    have : B * 1 ≤ B * 2 ^ k := Int.mul_le_mul_of_nonneg_left hp1 hB
    omega

theorem rnd_bd (n s : Int) (h1 : -9223372036854775808 ≤ n) (h2 : n ≤ 9223372036854775807) : -9223372036854775808 ≤ rnd n s ∧ rnd n s ≤ 9223372036854775807 := by
  unfold rnd
  split
  · omega
  · have := div_bd n (clip s 0 62 - 1).toNat (B := 9223372036854775808) (by omega) (by omega) (by omega)
    omega

theorem rnd_mono (a b s : Int) (h : a ≤ b) : rnd a s ≤ rnd b s := by
  unfold rnd
  split
  · exact h
  · have hp := pow_pos (clip s 0 62 - 1).toNat
    have := Int.ediv_le_ediv hp h
    omega

theorem rnd_near (n s : Int) (h1 : 1 ≤ s) (h2 : s ≤ 62) : -(2 ^ (s - 1).toNat) ≤ n - rnd n s * 2 ^ s.toNat ∧ n - rnd n s * 2 ^ s.toNat < 2 ^ (s - 1).toNat := by
  have hc : clip s 0 62 = s := clip_id (by omega) h2
  unfold rnd
  rw [hc, if_neg (by omega)]
  obtain ⟨k, hk⟩ : ∃ k : Nat, s = (k : Int) + 1 := ⟨(s - 1).toNat, by omega⟩
  subst hk
  have e1 : ((k : Int) + 1).toNat = k + 1 := by omega
  have e2 : ((k : Int) + 1 - 1).toNat = k := by omega
  rw [e1, e2, Int.pow_succ]
  generalize hP : (2 : Int) ^ k = P
  have hp : 0 < P := by rw [← hP]; exact pow_pos k
  generalize hq : n / P = q
  have hm1 : P * q ≤ n := by rw [← hq]; exact Int.mul_ediv_self_le (by omega)
  have hm2 : n < P * q + P := by rw [← hq]; exact Int.lt_mul_ediv_self_add hp
  have hr : (q + 1) / 2 * 2 = q ∨ (q + 1) / 2 * 2 = q + 1 := by omega
  have ha : (q + 1) / 2 * (P * 2) = P * ((q + 1) / 2 * 2) := by rw [Int.mul_comm P 2, ← Int.mul_assoc, Int.mul_comm]
  rw [ha]
  rcases hr with hr | hr <;> rw [hr]
  · omega
  · rw [Int.mul_add]; omega

theorem mul_bd (a b A B : Int) (h1 : -A ≤ a) (h2 : a ≤ A) (h3 : -B ≤ b) (h4 : b ≤ B) : -(A * B) ≤ a * b ∧ a * b ≤ A * B := by
  have hA : 0 ≤ A := by omega
  have hB : 0 ≤ B := by omega
  have k1 : 0 ≤ (A - a) * (B + b) := Int.mul_nonneg (by omega) (by omega)
  have k2 : 0 ≤ (A + a) * (B - b) := Int.mul_nonneg (by omega) (by omega)
  have k3 : 0 ≤ (A - a) * (B - b) := Int.mul_nonneg (by omega) (by omega)
  have k4 : 0 ≤ (A + a) * (B + b) := Int.mul_nonneg (by omega) (by omega)
  rw [Int.sub_mul, Int.mul_add, Int.mul_add] at k1
  rw [Int.add_mul, Int.mul_sub, Int.mul_sub] at k2
  rw [Int.sub_mul, Int.mul_sub, Int.mul_sub] at k3
  rw [Int.add_mul, Int.mul_add, Int.mul_add] at k4
  omega

end M
end Go.Proofs.YtcaifpjbjghhaaaGreatDoor

/-
  The plain arithmetic of layer 13 (quant): scales, numbers in a few bits, and back; halves and sums of pairs. No program in this text.
-/
namespace Go.Proofs.YtcaifpjbjghhaaaGreatDoor
set_option linter.unusedVariables false
namespace M

def rch (s : Nat) : Int := 2 ^ (s + 1)
def lvl (b : Nat) : Int := 2 ^ b - 1
def scf (x : Int) : Nat → Nat → Nat
  | i, 0 => i
  | i, n + 1 => if x < rch i then i else scf x (i + 1) n
def sc (x : Int) : Nat := scf x 0 15
def mayQ (s b : Int) : Prop := 0 ≤ s ∧ s ≤ 15 ∧ (b = 0 ∨ (2 ≤ b ∧ b ≤ 16))
def qz (x R L : Int) : Int := (clip x (1 - R) (R - 1) * L / R + L) / 2
def lz (q R L : Int) : Int := (2 * q + 1) * R / L - R

theorem scf_at {x : Int} {i n : Nat} (h : x < rch i) : scf x i (n + 1) = i := by unfold scf; rw [if_pos h]
theorem scf_past {x : Int} {i n : Nat} (h : ¬ x < rch i) : scf x i (n + 1) = scf x (i + 1) n := by rw [scf, if_neg h]
theorem scf_le (x : Int) (n : Nat) : ∀ i, scf x i n ≤ i + n := by
  induction n with
  | zero => intro i; exact Nat.le_refl _
  | succ n ih => intro i; rw [scf]; split; omega; have := ih (i + 1); omega
theorem sc_le (x : Int) : sc x ≤ 15 := scf_le x 15 0

theorem rch_bd {s : Nat} (h : s ≤ 15) : 2 ≤ rch s ∧ rch s ≤ 65536 := by
  rcases (by omega : s = 0 ∨ s = 1 ∨ s = 2 ∨ s = 3 ∨ s = 4 ∨ s = 5 ∨ s = 6 ∨ s = 7 ∨ s = 8 ∨ s = 9 ∨ s = 10 ∨ s = 11 ∨ s = 12 ∨ s = 13 ∨ s = 14 ∨ s = 15) with rfl | rfl | rfl | rfl | rfl | rfl | rfl | rfl | rfl | rfl | rfl | rfl | rfl | rfl | rfl | rfl <;> decide
theorem lvl_bd {b : Nat} (h0 : 2 ≤ b) (h : b ≤ 16) : 3 ≤ lvl b ∧ lvl b ≤ 65535 ∧ lvl b % 2 = 1 := by
  rcases (by omega : b = 2 ∨ b = 3 ∨ b = 4 ∨ b = 5 ∨ b = 6 ∨ b = 7 ∨ b = 8 ∨ b = 9 ∨ b = 10 ∨ b = 11 ∨ b = 12 ∨ b = 13 ∨ b = 14 ∨ b = 15 ∨ b = 16) with rfl | rfl | rfl | rfl | rfl | rfl | rfl | rfl | rfl | rfl | rfl | rfl | rfl | rfl | rfl <;> decide

theorem prod_bd {c R L : Int} (hR : 1 ≤ R) (hR2 : R ≤ 65536) (hL : 0 ≤ L) (hL2 : L ≤ 65535) (h1 : 1 - R ≤ c) (h2 : c ≤ R - 1) : -4294967296 ≤ c * L ∧ c * L ≤ 4294967296 := by
  have := mul_bd c L 65536 65535 (by omega) (by omega) (by omega) (by omega)
  omega

theorem qpart_bd {c R L : Int} (hR : 1 ≤ R) (hL : 0 ≤ L) (h1 : 1 - R ≤ c) (h2 : c ≤ R - 1) : -L ≤ c * L / R ∧ c * L / R ≤ L ∧ (1 ≤ L → c * L / R ≤ L - 1) := by
  have k1 : 0 ≤ (R - 1 - c) * L := Int.mul_nonneg (by omega) hL
  have k2 : 0 ≤ (c - (1 - R)) * L := Int.mul_nonneg (by omega) hL
  rw [Int.sub_mul, Int.sub_mul, Int.one_mul] at k1
  rw [Int.sub_mul, Int.sub_mul, Int.one_mul] at k2
  refine ⟨?_, ?_, fun h => ?_⟩
  · rw [Int.le_ediv_iff_mul_le (by omega), Int.neg_mul, Int.mul_comm L R]; omega
  · apply Int.ediv_le_of_le_mul (by omega); rw [Int.mul_comm L R]; omega
  · have : c * L / R < L := Int.ediv_lt_of_lt_mul (by omega) (by rw [Int.mul_comm L R]; omega)
    omega

theorem qz_bd {x R L : Int} (hR : 1 ≤ R) (hL : 1 ≤ L) : 0 ≤ qz x R L ∧ qz x R L < L := by
  have h1 : 1 - R ≤ clip x (1 - R) (R - 1) := le_clip (by omega)
  have h2 : clip x (1 - R) (R - 1) ≤ R - 1 := clip_le (by omega)
  have := qpart_bd hR (by omega) h1 h2 (L := L)
  unfold qz
  omega
theorem lzp_bd {q R : Int} (hR : 1 ≤ R) (hR2 : R ≤ 65536) (h0 : 0 ≤ q) (h : q < 65535) : 0 ≤ (2 * q + 1) * R ∧ (2 * q + 1) * R ≤ 8589934592 := by
  constructor
  · exact Int.mul_nonneg (by omega) (by omega)
  · have := mul_bd (2 * q + 1) R 131072 65536 (by omega) (by omega) (by omega) (by omega)
    omega
theorem lz_bd {q R L : Int} (hR : 1 ≤ R) (hR2 : R ≤ 65536) (hL : 1 ≤ L) (h0 : 0 ≤ q) (h : q < L) : -65536 ≤ lz q R L ∧ lz q R L ≤ 131072 := by
  have h1 : 0 ≤ (2 * q + 1) * R / L := Int.ediv_nonneg (Int.mul_nonneg (by omega) (by omega)) (by omega)
  have h2 : (2 * q + 1) * R / L ≤ 2 * R := by
    apply Int.ediv_le_of_le_mul (by omega)
    have : (2 * q + 1) * R ≤ (2 * L) * R := Int.mul_le_mul_of_nonneg_right (by omega) (by omega)
    rw [Int.mul_assoc, Int.mul_comm R L, ← Int.mul_assoc]; exact this
  unfold lz
  omega

def hs (x y : Int) : Int := (x + y) / 2
def hd (x y : Int) : Int := (x - y) / 2
theorem hs_bd {x y : Int} (hx : -2147483648 ≤ x ∧ x ≤ 2147483647) (hy : -2147483648 ≤ y ∧ y ≤ 2147483647) : -2147483648 ≤ hs x y ∧ hs x y ≤ 2147483647 := by unfold hs; omega
theorem hd_bd {x y : Int} (hx : -2147483648 ≤ x ∧ x ≤ 2147483647) (hy : -2147483648 ≤ y ∧ y ≤ 2147483647) : -2147483648 ≤ hd x y ∧ hd x y ≤ 2147483647 := by unfold hd; omega
end M
end Go.Proofs.YtcaifpjbjghhaaaGreatDoor

/-
  Plain arithmetic of layer 3 (wave): the sine of a part of a turn, in whole numbers, and the laws of its turns.
-/
namespace Go.Proofs.YtcaifpjbjghhaaaGreatDoor
namespace M

def part (a b : Int) : Int := a * b / 1073741824
def coef : Nat → Int
  | 0 => 172272
  | 1 => 5026995
  | 2 => 85569306
  | 3 => 693598668
  | _ => 1686629713
def pk (u : Int) : Nat → Int
  | 0 => 0
  | k + 1 => coef k - part (pk u k) u
def qraw (t : Int) : Int := part (pk (part t t) 5) t
def qs (t : Int) : Int := sat16 (rnd (qraw t) 15)
def rest (d q r : Int) : Int := if q % 2 = 1 then d - r else r
def hgt (d m : Int) : Int := rest d (4 * m / d) (4 * m % d) * 1073741824 / d
def sn (d m : Int) : Int := if 2 ≤ 4 * m / d then -qs (hgt d m) else qs (hgt d m)
def sine (n d : Int) : Int := sn d (n % d)
def cosine (n d : Int) : Int := sine (4 * (n % d) + d) (4 * d)
def sineI (n d : Int) : Int := if 1 ≤ d ∧ d ≤ 1048576 then sine n d else 0
def cosineI (n d : Int) : Int := if 1 ≤ d ∧ d ≤ 1048576 then cosine n d else 0
def waveE (d : Int) : Int := if 1 ≤ d ∧ d ≤ 1048576 then 0 else 1

theorem part_bd {a u A : Int} (a0 : 0 ≤ a) (a1 : a ≤ A) (u0 : 0 ≤ u) (u1 : u ≤ 1073741824) :
    0 ≤ part a u ∧ part a u ≤ A ∧ 0 ≤ a * u ∧ a * u ≤ A * 1073741824 := by
  have h1 : 0 ≤ a * u := Int.mul_nonneg a0 u0
  have h2 : a * u ≤ A * 1073741824 := Int.le_trans (Int.mul_le_mul_of_nonneg_left u1 a0) (by omega)
  unfold part
  omega
theorem pk_bd {u : Int} (u0 : 0 ≤ u) (u1 : u ≤ 1073741824) (k : Nat) (hk : k ≤ 5) : 0 ≤ pk u k ∧ pk u k ≤ 1686629713 := by
  have e0 : pk u 0 = 0 := rfl
  have e1 : pk u 1 = 172272 - part (pk u 0) u := rfl
  have e2 : pk u 2 = 5026995 - part (pk u 1) u := rfl
  have e3 : pk u 3 = 85569306 - part (pk u 2) u := rfl
  have e4 : pk u 4 = 693598668 - part (pk u 3) u := rfl
  have e5 : pk u 5 = 1686629713 - part (pk u 4) u := rfl
  have b0 := part_bd (a := pk u 0) (A := 0) (by omega) (by omega) u0 u1
  have b1 := part_bd (a := pk u 1) (A := 172272) (by omega) (by omega) u0 u1
  have b2 := part_bd (a := pk u 2) (A := 5026995) (by omega) (by omega) u0 u1
  have b3 := part_bd (a := pk u 3) (A := 85569306) (by omega) (by omega) u0 u1
  have b4 := part_bd (a := pk u 4) (A := 693598668) (by omega) (by omega) u0 u1
  rcases (by omega : k = 0 ∨ k = 1 ∨ k = 2 ∨ k = 3 ∨ k = 4 ∨ k = 5) with rfl | rfl | rfl | rfl | rfl | rfl <;> omega
theorem qraw_bd {t : Int} (t0 : 0 ≤ t) (t1 : t ≤ 1073741824) : 0 ≤ qraw t ∧ qraw t ≤ 1686629713 := by
  have hu := part_bd t0 t1 t0 t1
  have hp := pk_bd hu.1 hu.2.1 5 (by omega)
  have := part_bd hp.1 hp.2 t0 t1
  exact ⟨this.1, this.2.1⟩
theorem rnd15_nonneg {n : Int} (h : 0 ≤ n) : 0 ≤ rnd n 15 := by
  have := rnd_mono 0 n 15 h
  have e : rnd 0 15 = 0 := by decide
  omega
theorem qs_bd {t : Int} (t0 : 0 ≤ t) (t1 : t ≤ 1073741824) : 0 ≤ qs t ∧ qs t ≤ 32767 := by
  have h := rnd15_nonneg (qraw_bd t0 t1).1
  unfold qs sat16 clip
  (repeat' split) <;> omega
theorem quart {d m : Int} (hd : 1 ≤ d) (m0 : 0 ≤ m) (m1 : m < d) :
    0 ≤ 4 * m / d ∧ 4 * m / d ≤ 3 ∧ 0 ≤ 4 * m % d ∧ 4 * m % d < d ∧ 4 * m = d * (4 * m / d) + 4 * m % d := by
  have h1 : 0 ≤ 4 * m / d := Int.ediv_nonneg (by omega) (by omega)
  have h2 : 4 * m / d < 4 := Int.ediv_lt_of_lt_mul (by omega) (by omega)
  have h3 := Int.emod_nonneg (4 * m) (show d ≠ 0 by omega)
  have h4 := Int.emod_lt_of_pos (4 * m) (show 0 < d by omega)
  have h5 := Int.mul_ediv_add_emod (4 * m) d
  omega
theorem rest_bd {d q r : Int} (r0 : 0 ≤ r) (r1 : r < d) : 0 ≤ rest d q r ∧ rest d q r ≤ d := by
  unfold rest; split <;> omega
theorem hgt_of {d x : Int} (hd : 1 ≤ d) (x0 : 0 ≤ x) (x1 : x ≤ d) : 0 ≤ x * 1073741824 / d ∧ x * 1073741824 / d ≤ 1073741824 := by
  refine ⟨Int.ediv_nonneg (by omega) (by omega), ?_⟩
  have := Int.ediv_le_ediv (show 0 < d by omega) (show x * 1073741824 ≤ 1073741824 * d by omega)
  rwa [Int.mul_ediv_cancel _ (by omega)] at this
theorem hgt_bd {d m : Int} (hd : 1 ≤ d) (m0 : 0 ≤ m) (m1 : m < d) : 0 ≤ hgt d m ∧ hgt d m ≤ 1073741824 := by
  have hq := quart hd m0 m1
  have := rest_bd (d := d) (q := 4 * m / d) hq.2.2.1 hq.2.2.2.1
  exact hgt_of hd this.1 this.2
theorem sn_bd {d m : Int} (hd : 1 ≤ d) (m0 : 0 ≤ m) (m1 : m < d) : -32767 ≤ sn d m ∧ sn d m ≤ 32767 := by
  have h := hgt_bd hd m0 m1
  have := qs_bd h.1 h.2
  unfold sn; split <;> omega
theorem mod_bd (n : Int) {d : Int} (hd : 1 ≤ d) : 0 ≤ n % d ∧ n % d < d :=
  ⟨Int.emod_nonneg n (by omega), Int.emod_lt_of_pos n (by omega)⟩
theorem sine_bd (n : Int) {d : Int} (hd : 1 ≤ d) : -32767 ≤ sine n d ∧ sine n d ≤ 32767 :=
  sn_bd hd (mod_bd n hd).1 (mod_bd n hd).2
theorem cosine_bd (n : Int) {d : Int} (hd : 1 ≤ d) : -32767 ≤ cosine n d ∧ cosine n d ≤ 32767 := sine_bd _ (by omega)

theorem sine_turns (n k : Int) {d : Int} : sine (n + k * d) d = sine n d := by
  unfold sine
  rw [Int.add_mul_emod_self_right]
theorem sine_emod (n d : Int) : sine (n % d) d = sine n d := by
  unfold sine
  rw [Int.emod_emod]

theorem sn_finer (m : Int) {d k : Int} (hk : 1 ≤ k) : sn (d * k) (m * k) = sn d m := by
  have hq : 4 * (m * k) / (d * k) = 4 * m / d := by
    rw [← Int.mul_assoc, Int.mul_ediv_mul_of_pos_left _ _ (by omega)]
  have hr : 4 * (m * k) % (d * k) = 4 * m % d * k := by
    rw [← Int.mul_assoc, Int.mul_comm _ k, Int.mul_comm d k, Int.mul_emod_mul_of_pos _ _ (by omega), Int.mul_comm]
  have hh : hgt (d * k) (m * k) = hgt d m := by
    unfold hgt
    rw [hq, hr]
    have : rest (d * k) (4 * m / d) (4 * m % d * k) = rest d (4 * m / d) (4 * m % d) * k := by
      unfold rest; split
      · rw [Int.sub_mul]
      · rfl
    rw [this, Int.mul_right_comm, Int.mul_ediv_mul_of_pos_left _ _ (by omega)]
  unfold sn
  rw [hq, hh]
theorem quo_of {a d q r : Int} (h : a = d * q + r) (r0 : 0 ≤ r) (r1 : r < d) : a / d = q ∧ a % d = r := by
  have h1 : a / d = q := by
    rw [h, Int.add_comm, Int.add_mul_ediv_left _ _ (by omega), Int.ediv_eq_zero_of_lt r0 r1]; omega
  have h2 := Int.mul_ediv_add_emod a d
  rw [h1] at h2
  exact ⟨h1, by omega⟩

theorem sn_q0 {d m : Int} (_hd : 1 ≤ d) (m0 : 0 ≤ m) (h : 4 * m < d) : sn d m = qs (4 * m * 1073741824 / d) := by
  have := quo_of (a := 4 * m) (d := d) (q := 0) (r := 4 * m) (by omega) (by omega) h
  unfold sn hgt rest
  rw [this.1, this.2]; simp
theorem sn_q1 {d m : Int} (_hd : 1 ≤ d) (h0 : d ≤ 4 * m) (h : 4 * m < 2 * d) : sn d m = qs ((2 * d - 4 * m) * 1073741824 / d) := by
  have := quo_of (a := 4 * m) (d := d) (q := 1) (r := 4 * m - d) (by omega) (by omega) (by omega)
  unfold sn hgt rest
  rw [this.1, this.2]; simp
  congr 3; omega
theorem sn_q2 {d m : Int} (_hd : 1 ≤ d) (h0 : 2 * d ≤ 4 * m) (h : 4 * m < 3 * d) : sn d m = -qs ((4 * m - 2 * d) * 1073741824 / d) := by
  have := quo_of (a := 4 * m) (d := d) (q := 2) (r := 4 * m - 2 * d) (by omega) (by omega) (by omega)
  unfold sn hgt rest
  rw [this.1, this.2]; simp
theorem sn_q3 {d m : Int} (_hd : 1 ≤ d) (h0 : 3 * d ≤ 4 * m) (h : 4 * m < 4 * d) : sn d m = -qs ((4 * d - 4 * m) * 1073741824 / d) := by
  have := quo_of (a := 4 * m) (d := d) (q := 3) (r := 4 * m - 3 * d) (by omega) (by omega) (by omega)
  unfold sn hgt rest
  rw [this.1, this.2]; simp
  congr 3; omega
theorem neg_mod {n d : Int} (hd : 1 ≤ d) : (-n) % d = if n % d = 0 then 0 else d - n % d := by
  have hb := mod_bd n hd
  have h5 := Int.mul_ediv_add_emod n d
  split
  · rename_i h
    exact (quo_of (q := -(n / d)) (by rw [Int.mul_neg]; omega) (by omega) (by omega)).2
  · exact (quo_of (q := -(n / d) - 1) (by rw [Int.mul_sub, Int.mul_neg]; omega) (by omega) (by omega)).2
end M
end Go.Proofs.YtcaifpjbjghhaaaGreatDoor

/-
  Plain arithmetic of layer 3 (wave): the squares of a sine and of its cosine are together at most 2^18 from 2^30.
-/
namespace Go.Proofs.YtcaifpjbjghhaaaGreatDoor
namespace M

end M
end Go.Proofs.YtcaifpjbjghhaaaGreatDoor

