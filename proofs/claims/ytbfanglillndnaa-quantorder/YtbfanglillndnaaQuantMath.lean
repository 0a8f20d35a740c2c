/-
  The plain arithmetic of layer 13 (quant): scales, numbers in a few bits, and back; halves and sums of pairs. No program in this text.
-/
import Derived.Test.YtbfanglillndnaaFixMath
namespace Go.Proofs.Ytbfanglillndnaa
set_option linter.unusedVariables false
namespace M

/-- the reach of a scale, the levels of some bits -/
def rch (s : Nat) : Int := 2 ^ (s + 1)
def lvl (b : Nat) : Int := 2 ^ b - 1
/-- the least of the scales from i on, n of them, whose reach is above -/
def scf (x : Int) : Nat → Nat → Nat
  | i, 0 => i
  | i, n + 1 => if x < rch i then i else scf x (i + 1) n
def sc (x : Int) : Nat := scf x 0 15
def mayQ (s b : Int) : Prop := 0 ≤ s ∧ s ≤ 15 ∧ (b = 0 ∨ (2 ≤ b ∧ b ≤ 16))
/-- a number in a few bits, of reach R and levels L -/
def qz (x R L : Int) : Int := (clip x (1 - R) (R - 1) * L / R + L) / 2
def lz (q R L : Int) : Int := (2 * q + 1) * R / L - R

theorem scf_at {x : Int} {i n : Nat} (h : x < rch i) : scf x i (n + 1) = i := by unfold scf; rw [if_pos h]
theorem scf_past {x : Int} {i n : Nat} (h : ¬ x < rch i) : scf x i (n + 1) = scf x (i + 1) n := by rw [scf, if_neg h]
theorem scf_le (x : Int) (n : Nat) : ∀ i, scf x i n ≤ i + n := by
  induction n with
  | zero => intro i; exact Nat.le_refl _
  | succ n ih => intro i; rw [scf]; split; omega; have := ih (i + 1); omega
theorem sc_le (x : Int) : sc x ≤ 15 := scf_le x 15 0

theorem rch_bd {s : Nat} (h : s ≤ 15) : 2 ≤ rch s ∧ rch s ≤ 65536 := by
  rcases (by omega : s = 0 ∨ s = 1 ∨ s = 2 ∨ s = 3 ∨ s = 4 ∨ s = 5 ∨ s = 6 ∨ s = 7 ∨ s = 8 ∨ s = 9 ∨ s = 10 ∨ s = 11 ∨ s = 12 ∨ s = 13 ∨ s = 14 ∨ s = 15) with rfl | rfl | rfl | rfl | rfl | rfl | rfl | rfl | rfl | rfl | rfl | rfl | rfl | rfl | rfl | rfl <;> decide
theorem lvl_bd {b : Nat} (h0 : 2 ≤ b) (h : b ≤ 16) : 3 ≤ lvl b ∧ lvl b ≤ 65535 ∧ lvl b % 2 = 1 := by
  rcases (by omega : b = 2 ∨ b = 3 ∨ b = 4 ∨ b = 5 ∨ b = 6 ∨ b = 7 ∨ b = 8 ∨ b = 9 ∨ b = 10 ∨ b = 11 ∨ b = 12 ∨ b = 13 ∨ b = 14 ∨ b = 15 ∨ b = 16) with rfl | rfl | rfl | rfl | rfl | rfl | rfl | rfl | rfl | rfl | rfl | rfl | rfl | rfl | rfl <;> decide

theorem prod_bd {c R L : Int} (hR : 1 ≤ R) (hR2 : R ≤ 65536) (hL : 0 ≤ L) (hL2 : L ≤ 65535) (h1 : 1 - R ≤ c) (h2 : c ≤ R - 1) : -4294967296 ≤ c * L ∧ c * L ≤ 4294967296 := by
  have := mul_bd c L 65536 65535 (by omega) (by omega) (by omega) (by omega)
  omega

/-- t = c L / R, as bounds -/
theorem part_bd {c R L : Int} (hR : 1 ≤ R) (hL : 0 ≤ L) (h1 : 1 - R ≤ c) (h2 : c ≤ R - 1) : -L ≤ c * L / R ∧ c * L / R ≤ L ∧ (1 ≤ L → c * L / R ≤ L - 1) := by
  have k1 : 0 ≤ (R - 1 - c) * L := Int.mul_nonneg (by omega) hL
  have k2 : 0 ≤ (c - (1 - R)) * L := Int.mul_nonneg (by omega) hL
  rw [Int.sub_mul, Int.sub_mul, Int.one_mul] at k1
  rw [Int.sub_mul, Int.sub_mul, Int.one_mul] at k2
  refine ⟨?_, ?_, fun h => ?_⟩
  · rw [Int.le_ediv_iff_mul_le (by omega), Int.neg_mul, Int.mul_comm L R]; omega
  · apply Int.ediv_le_of_le_mul (by omega); rw [Int.mul_comm L R]; omega
  · have : c * L / R < L := Int.ediv_lt_of_lt_mul (by omega) (by rw [Int.mul_comm L R]; omega)
    omega

theorem qz_bd {x R L : Int} (hR : 1 ≤ R) (hL : 1 ≤ L) : 0 ≤ qz x R L ∧ qz x R L < L := by
  have h1 : 1 - R ≤ clip x (1 - R) (R - 1) := le_clip (by omega)
  have h2 : clip x (1 - R) (R - 1) ≤ R - 1 := clip_le (by omega)
  have := part_bd hR (by omega) h1 h2 (L := L)
  unfold qz
  omega
theorem qz_mono {x y R L : Int} (hR : 1 ≤ R) (hL : 0 ≤ L) (h : x ≤ y) : qz x R L ≤ qz y R L := by
  have h1 := Int.ediv_le_ediv (c := R) (by omega) (Int.mul_le_mul_of_nonneg_right (clip_mono h (by omega : 1 - R ≤ R - 1)) hL)
  unfold qz
  omega
theorem lz_mono {p q R L : Int} (hR : 0 ≤ R) (hL : 1 ≤ L) (h : p ≤ q) : lz p R L ≤ lz q R L := by
  have h1 := Int.ediv_le_ediv (c := L) (by omega) (Int.mul_le_mul_of_nonneg_right (by omega : 2 * p + 1 ≤ 2 * q + 1) hR)
  unfold lz
  omega
theorem lzp_bd {q R : Int} (hR : 1 ≤ R) (hR2 : R ≤ 65536) (h0 : 0 ≤ q) (h : q < 65535) : 0 ≤ (2 * q + 1) * R ∧ (2 * q + 1) * R ≤ 8589934592 := by
  constructor
  · exact Int.mul_nonneg (by omega) (by omega)
  · have := mul_bd (2 * q + 1) R 131072 65536 (by omega) (by omega) (by omega) (by omega)
    omega
theorem lz_bd {q R L : Int} (hR : 1 ≤ R) (hR2 : R ≤ 65536) (hL : 1 ≤ L) (h0 : 0 ≤ q) (h : q < L) : -65536 ≤ lz q R L ∧ lz q R L ≤ 131072 := by
  have h1 : 0 ≤ (2 * q + 1) * R / L := Int.ediv_nonneg (Int.mul_nonneg (by omega) (by omega)) (by omega)
  have h2 : (2 * q + 1) * R / L ≤ 2 * R := by
    apply Int.ediv_le_of_le_mul (by omega)
    have : (2 * q + 1) * R ≤ (2 * L) * R := Int.mul_le_mul_of_nonneg_right (by omega) (by omega)
    rw [Int.mul_assoc, Int.mul_comm R L, ← Int.mul_assoc]; exact this
  unfold lz
  omega

/-- y = level of q: (2 q + 1 - L) R / L -/
theorem lz_part {q R L : Int} (hL : 1 ≤ L) : lz q R L * L ≤ (2 * q + 1 - L) * R ∧ (2 * q + 1 - L) * R < lz q R L * L + L := by
  have h1 : L * ((2 * q + 1) * R / L) ≤ (2 * q + 1) * R := Int.mul_ediv_self_le (by omega)
  have h2 : (2 * q + 1) * R < L * ((2 * q + 1) * R / L) + L := Int.lt_mul_ediv_self_add (by omega)
  unfold lz
  generalize (2 * q + 1) * R / L = d at *
  rw [Int.sub_mul d R L, Int.sub_mul (2 * q + 1) L R, Int.mul_comm d L, Int.mul_comm R L]
  omega

/-- what comes back is at most a step away -/
theorem near_lz {x R L : Int} (hR : 1 ≤ R) (hL : 1 ≤ L) :
    lz (qz x R L) R L - clip x (1 - R) (R - 1) ≤ 2 * R / L + 1 ∧ -(2 * R / L + 1) ≤ lz (qz x R L) R L - clip x (1 - R) (R - 1) := by
  obtain ⟨y1, y2⟩ := lz_part (q := qz x R L) (R := R) hL
  generalize hy : lz (qz x R L) R L = y at *
  clear hy
  have t1 : R * (clip x (1 - R) (R - 1) * L / R) ≤ clip x (1 - R) (R - 1) * L := Int.mul_ediv_self_le (by omega)
  have t2 : clip x (1 - R) (R - 1) * L < R * (clip x (1 - R) (R - 1) * L / R) + R := Int.lt_mul_ediv_self_add (by omega)
  have hq : qz x R L = (clip x (1 - R) (R - 1) * L / R + L) / 2 := rfl
  generalize clip x (1 - R) (R - 1) = c at *
  generalize c * L / R = t at *
  generalize qz x R L = q at *
  have he : t = 2 * q - L ∨ t = 2 * q + 1 - L := by omega
  have hd1 : L * (2 * R / L) ≤ 2 * R := Int.mul_ediv_self_le (by omega)
  have hd2 : 2 * R < L * (2 * R / L) + L := Int.lt_mul_ediv_self_add (by omega)
  generalize 2 * R / L = d at *
  have e1 : (2 * q + 1 - L) * R = R * (2 * q - L) + R := by
    rw [show 2 * q + 1 - L = (2 * q - L) + 1 from by omega, Int.add_mul, Int.one_mul, Int.mul_comm]
  rw [e1] at y1 y2
  have hc1 : (y - c) * L ≤ R := by
    rw [Int.sub_mul]
    rcases he with rfl | rfl
    · omega
    · rw [show 2 * q + 1 - L = (2 * q - L) + 1 from by omega, Int.mul_add, Int.mul_one] at t1 t2
      omega
  have hc2 : (c - y - 1) * L < R := by
    rw [Int.sub_mul, Int.sub_mul, Int.one_mul]
    rcases he with rfl | rfl
    · omega
    · rw [show 2 * q + 1 - L = (2 * q - L) + 1 from by omega, Int.mul_add, Int.mul_one] at t1 t2
      omega
  have hm : ∀ z : Int, z * L ≤ R → z ≤ d := fun z hz => by
    rcases Int.lt_or_le d z with h | h
    · have : 0 ≤ (z - (d + 1)) * L := Int.mul_nonneg (by omega) (by omega)
      rw [Int.sub_mul, Int.add_mul, Int.one_mul, Int.mul_comm d L] at this
      omega
    · exact h
  have h1 := hm _ hc1
  have h2 := hm _ (Int.le_of_lt hc2)
  omega

/-- and in as many bits the same again, where the levels are below the reach -/
theorem again_lz {q R L : Int} (hR : 1 ≤ R) (hL : 1 ≤ L) (hLR : L < R) (h0 : 0 ≤ q) (h : q < L) : qz (lz q R L) R L = q := by
  obtain ⟨y1, y2⟩ := lz_part (q := q) (R := R) hL
  generalize lz q R L = y at *
  have k1 : 0 ≤ (L - 1 - (2 * q + 1 - L)) * R := Int.mul_nonneg (by omega) (by omega)
  have k2 : 0 ≤ ((2 * q + 1 - L) - (1 - L)) * R := Int.mul_nonneg (by omega) (by omega)
  rw [Int.sub_mul, Int.sub_mul L, Int.one_mul] at k1
  rw [Int.sub_mul, Int.sub_mul 1, Int.one_mul] at k2
  have hy1 : y ≤ R - 1 := by
    rcases Int.lt_or_le (R - 1) y with g | g
    · have : 0 ≤ (y - R) * L := Int.mul_nonneg (by omega) (by omega)
      rw [Int.sub_mul, Int.mul_comm R L] at this
      omega
    · exact g
  have hy2 : 1 - R ≤ y := by
    rcases Int.lt_or_le y (1 - R) with g | g
    · have : 0 ≤ (-R - y) * L := Int.mul_nonneg (by omega) (by omega)
      rw [Int.sub_mul, Int.neg_mul, Int.mul_comm R L] at this
      omega
    · exact g
  have hc : clip y (1 - R) (R - 1) = y := clip_id hy2 hy1
  unfold qz
  rw [hc]
  have e1 : (2 * q + 1 - L) * R = (2 * q - L) * R + R := by
    rw [show 2 * q + 1 - L = (2 * q - L) + 1 from by omega, Int.add_mul, Int.one_mul]
  have t1 : 2 * q - L ≤ y * L / R := by
    rw [Int.le_ediv_iff_mul_le (by omega)]; omega
  have t2 : y * L / R ≤ 2 * q + 1 - L := Int.ediv_le_of_le_mul (by omega) y1
  omega

/-- halves of a sum and of a difference; what of them comes back -/
def hs (x y : Int) : Int := (x + y) / 2
def hd (x y : Int) : Int := (x - y) / 2
theorem hs_bd {x y : Int} (hx : -2147483648 ≤ x ∧ x ≤ 2147483647) (hy : -2147483648 ≤ y ∧ y ≤ 2147483647) : -2147483648 ≤ hs x y ∧ hs x y ≤ 2147483647 := by unfold hs; omega
theorem hd_bd {x y : Int} (hx : -2147483648 ≤ x ∧ x ≤ 2147483647) (hy : -2147483648 ≤ y ∧ y ≤ 2147483647) : -2147483648 ≤ hd x y ∧ hd x y ≤ 2147483647 := by unfold hd; omega
theorem back {x y : Int} (hx : -2147483648 ≤ x ∧ x ≤ 2147483647) (hy : -2147483648 ≤ y ∧ y ≤ 2147483647) :
    (0 ≤ x - sat32 (hs x y + hd x y) ∧ x - sat32 (hs x y + hd x y) ≤ 1) ∧ (0 ≤ y - sat32 (hs x y - hd x y) ∧ y - sat32 (hs x y - hd x y) ≤ 1) := by
  unfold sat32 clip hs hd
  constructor
  · split
    · omega
    · split <;> omega
  · split
    · omega
    · split <;> omega

end M
end Go.Proofs.Ytbfanglillndnaa
