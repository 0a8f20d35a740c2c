/-
  Plain arithmetic of layer 3 (wave): the squares of a sine and of its cosine are together at most 2^18 from 2^30.
-/
import Derived.Test.YtjfhlaahgfdmnaaDoorWaveMath
namespace Go.Proofs.YtjfhlaahgfdmnaaDoor
namespace M

theorem near_step {N x X K e u V f c : Int} (hN : 1 ≤ N) (hK : 0 ≤ K) (x0 : 0 ≤ x) (x1 : x ≤ N) (e0 : 0 ≤ e) (h1 : -(e * K) ≤ x * K - X) (h2 : x * K - X ≤ e * K)
    (V0 : 0 ≤ V) (V1 : V ≤ N * N) (d1 : u * N ≤ V) (d2 : V ≤ u * N + 3 * N) (f1 : f * N ≤ x * u) (f2 : x * u ≤ f * N + N) :
    -((e + 4) * (K * (N * N))) ≤ (c - f) * (K * (N * N)) - (c * (K * (N * N)) - X * V) ∧ (c - f) * (K * (N * N)) - (c * (K * (N * N)) - X * V) ≤ (e + 4) * (K * (N * N)) := by
  have kn : 0 ≤ K * N := Int.mul_nonneg hK (by omega)
  have a0 : 0 ≤ (x * u - f * N) * (K * N) := Int.mul_nonneg (by omega) kn
  have a1 : (x * u - f * N) * (K * N) ≤ N * (K * N) := Int.mul_le_mul_of_nonneg_right (by omega) kn
  have b1 : (x * K - X) * V ≤ (e * K) * V := Int.mul_le_mul_of_nonneg_right h2 V0
  have b2 : (e * K) * V ≤ (e * K) * (N * N) := Int.mul_le_mul_of_nonneg_left V1 (Int.mul_nonneg e0 hK)
  have b0 : -(e * K) * V ≤ (x * K - X) * V := Int.mul_le_mul_of_nonneg_right h1 V0
  have xk : 0 ≤ x * K := Int.mul_nonneg x0 hK
  have c0 : 0 ≤ x * K * (V - u * N) := Int.mul_nonneg xk (by omega)
  have c1 : x * K * (V - u * N) ≤ x * K * (3 * N) := Int.mul_le_mul_of_nonneg_left (by omega) xk
  have c2 : x * (K * (3 * N)) ≤ N * (K * (3 * N)) := Int.mul_le_mul_of_nonneg_right x1 (Int.mul_nonneg hK (by omega))
  have id : (c - f) * (K * (N * N)) - (c * (K * (N * N)) - X * V) = (x * u - f * N) * (K * N) - (x * K - X) * V + x * K * (V - u * N) := by grind
  have e1 : N * (K * N) = K * (N * N) := by grind
  have e2 : (e * K) * (N * N) = e * (K * (N * N)) := by grind
  have e3 : N * (K * (3 * N)) = 3 * (K * (N * N)) := by grind
  have e4 : (e + 4) * (K * (N * N)) = e * (K * (N * N)) + 4 * (K * (N * N)) := by grind
  have e5 : -(e * K) * V = -((e * K) * V) := by grind
  have e6 : x * K * (3 * N) = x * (K * (3 * N)) := by grind
  rw [id, e4]
  rw [e1] at a1
  rw [e2] at b2
  rw [e3] at c2
  rw [e5] at b0
  rw [e6] at c1
  generalize K * (N * N) = L at *
  generalize e * L = eL at *
  generalize (x * u - f * N) * (K * N) = A at *
  generalize (x * K - X) * V = B at *
  generalize x * K * (V - u * N) = C at *
  generalize e * K * V = D at *
  generalize x * (K * (3 * N)) = E at *
  omega

theorem near_last {N x X K e t T f : Int} (hN : 1 ≤ N) (hK : 0 ≤ K) (x0 : 0 ≤ x) (x1 : x ≤ 2 * N) (e0 : 0 ≤ e) (h1 : -(e * K) ≤ x * K - X) (h2 : x * K - X ≤ e * K)
    (T0 : 0 ≤ T) (T1 : T ≤ N) (d1 : t ≤ T) (d2 : T ≤ t + 1) (f1 : f * N ≤ x * t) (f2 : x * t ≤ f * N + N) :
    -((e + 4) * (K * N)) ≤ f * (K * N) - X * T ∧ f * (K * N) - X * T ≤ (e + 4) * (K * N) := by
  have a0 : 0 ≤ (x * t - f * N) * K := Int.mul_nonneg (by omega) hK
  have a1 : (x * t - f * N) * K ≤ N * K := Int.mul_le_mul_of_nonneg_right (by omega) hK
  have b1 : (x * K - X) * T ≤ (e * K) * T := Int.mul_le_mul_of_nonneg_right h2 T0
  have b2 : (e * K) * T ≤ (e * K) * N := Int.mul_le_mul_of_nonneg_left T1 (Int.mul_nonneg e0 hK)
  have b0 : -(e * K) * T ≤ (x * K - X) * T := Int.mul_le_mul_of_nonneg_right h1 T0
  have xk : 0 ≤ x * K := Int.mul_nonneg x0 hK
  have c0 : 0 ≤ x * K * (T - t) := Int.mul_nonneg xk (by omega)
  have c1 : x * K * (T - t) ≤ x * K * 1 := Int.mul_le_mul_of_nonneg_left (by omega) xk
  have c2 : x * K ≤ 2 * N * K := Int.mul_le_mul_of_nonneg_right x1 hK
  have id : f * (K * N) - X * T = (x * K - X) * T - (x * t - f * N) * K - x * K * (T - t) := by grind
  have kn : 0 ≤ K * N := Int.mul_nonneg hK (by omega)
  have e1 : N * K = K * N := by grind
  have e2 : (e * K) * N = e * (K * N) := by grind
  have e3 : 2 * N * K = 2 * (K * N) := by grind
  have e4 : (e + 4) * (K * N) = e * (K * N) + 4 * (K * N) := by grind
  have e5 : -(e * K) * T = -((e * K) * T) := by grind
  rw [id, e4]
  rw [e1] at a1
  rw [e2] at b2
  rw [e3] at c2
  rw [e5] at b0
  generalize K * N = L at *
  generalize e * L = eL at *
  generalize (x * t - f * N) * K = A at *
  generalize (x * K - X) * T = B at *
  generalize x * K * (T - t) = C at *
  generalize e * K * T = D at *
  generalize x * K = E at *
  omega

theorem part_spec (a u : Int) : part a u * 1073741824 ≤ a * u ∧ a * u ≤ part a u * 1073741824 + 1073741823 := by
  unfold part; omega

/-- the polynomial itself, nothing cut off -/
def poly (N T : Int) : Int := T * (1686629713 * N ^ 8 - 693598668 * T ^ 2 * N ^ 6 + 85569306 * T ^ 4 * N ^ 4 - 5026995 * T ^ 6 * N ^ 2 + 172272 * T ^ 8)

theorem near_chain {N t T : Int} (hN : N = 1073741824) (t0 : 0 ≤ t) (d1 : t ≤ T) (d2 : T ≤ t + 1) (T1 : T ≤ N) :
    -(20 * N ^ 9) ≤ qraw t * N ^ 9 - poly N T ∧ qraw t * N ^ 9 - poly N T ≤ 20 * N ^ 9 := by
  have ub := part_bd (A := 1073741824) t0 (by omega) t0 (by omega)
  have us := part_spec t t
  have tt : T * T ≤ (t + 1) * (t + 1) ∧ t * t ≤ T * T := ⟨Int.mul_le_mul d2 d2 (by omega) (by omega), Int.mul_le_mul d1 d1 t0 (by omega)⟩
  have tt2 : T * T ≤ t * t + 2 * N := by
    rcases (by omega : T = t ∨ T = t + 1) with h | h
    · subst h; omega
    · subst h
      have : (t + 1) * (t + 1) = t * t + 2 * t + 1 := by grind
      omega
  have V0 : 0 ≤ T * T := Int.mul_nonneg (by omega) (by omega)
  have V1 : T * T ≤ N * N := Int.mul_le_mul T1 T1 (by omega) (by omega)
  unfold qraw
  generalize hu : part t t = u at *
  have n1 : 1 ≤ N := by omega
  have nn : 0 ≤ N * N := Int.mul_nonneg (by omega) (by omega)
  have D1 : u * N ≤ T * T := by rw [hN]; omega
  have D2 : T * T ≤ u * N + 3 * N := by rw [hN] at tt2 ⊢; omega
  have pb : ∀ k, k ≤ 4 → 0 ≤ pk u k ∧ pk u k ≤ N := fun k hk => ⟨(pk_bd ub.1 ub.2.1 k (by omega)).1, by have := pk4_bd ub.1 ub.2.1 k hk; omega⟩
  have p5 := pk_bd ub.1 ub.2.1 5 (by omega)
  have ps : ∀ k, part (pk u k) u * N ≤ pk u k * u ∧ pk u k * u ≤ part (pk u k) u * N + N := fun k => by
    have := part_spec (pk u k) u
    rw [hN]; omega
  have pl : part (pk u 5) t * N ≤ pk u 5 * t ∧ pk u 5 * t ≤ part (pk u 5) t * N + N := by
    have := part_spec (pk u 5) t
    rw [hN]; omega
  have e1 : pk u 1 = 172272 := by
    show 172272 - part 0 u = 172272
    have : part 0 u = 0 := by unfold part; simp
    omega
  have e2 : pk u 2 = 5026995 - part (pk u 1) u := rfl
  have e3 : pk u 3 = 85569306 - part (pk u 2) u := rfl
  have e4 : pk u 4 = 693598668 - part (pk u 3) u := rfl
  have e5 : pk u 5 = 1686629713 - part (pk u 4) u := rfl
  have k2 : 0 ≤ 1 * (N * N) := by omega
  have k4 : 0 ≤ 1 * (N * N) * (N * N) := Int.mul_nonneg k2 nn
  have k6 : 0 ≤ 1 * (N * N) * (N * N) * (N * N) := Int.mul_nonneg k4 nn
  have k8 : 0 ≤ 1 * (N * N) * (N * N) * (N * N) * (N * N) := Int.mul_nonneg k6 nn
  have s2 := near_step (X := 172272) (K := 1) (e := 0) (c := 5026995) n1 (by omega) (pb 1 (by omega)).1 (pb 1 (by omega)).2 (by omega) (by omega) (by omega) V0 V1 D1 D2 (ps 1).1 (ps 1).2
  rw [← e2] at s2
  have s3 := near_step (e := 0 + 4) (c := 85569306) n1 k2 (pb 2 (by omega)).1 (pb 2 (by omega)).2 (by omega) s2.1 s2.2 V0 V1 D1 D2 (ps 2).1 (ps 2).2
  rw [← e3] at s3
  have s4 := near_step (e := 0 + 4 + 4) (c := 693598668) n1 k4 (pb 3 (by omega)).1 (pb 3 (by omega)).2 (by omega) s3.1 s3.2 V0 V1 D1 D2 (ps 3).1 (ps 3).2
  rw [← e4] at s4
  have s5 := near_step (e := 0 + 4 + 4 + 4) (c := 1686629713) n1 k6 (pb 4 (by omega)).1 (pb 4 (by omega)).2 (by omega) s4.1 s4.2 V0 V1 D1 D2 (ps 4).1 (ps 4).2
  rw [← e5] at s5
  have s6 := near_last (e := 0 + 4 + 4 + 4 + 4) n1 k8 p5.1 (by omega) (by omega) s5.1 s5.2 (by omega) T1 d1 d2 pl.1 pl.2
  have q1 : 1 * (N * N) * (N * N) * (N * N) * (N * N) * N = N ^ 9 := by grind
  have q2 : (1686629713 * (1 * (N * N) * (N * N) * (N * N) * (N * N)) - (693598668 * (1 * (N * N) * (N * N) * (N * N)) - (85569306 * (1 * (N * N) * (N * N)) - (5026995 * (1 * (N * N)) - 172272 * (T * T)) * (T * T)) * (T * T)) * (T * T)) * T = poly N T := by unfold poly; grind
  rw [q1, q2] at s6
  exact s6

theorem poly_sum (T S N : Int) (h : T + S = N) :
    poly N T ^ 2 + poly N S ^ 2 =
    1152929673649114384 * N ^ 18 - 89597630182832 * ((T * S) * N ^ 16) + 346643101107789 * ((T * S) ^ 2 * N ^ 14) - 528530673661794 * ((T * S) ^ 3 * N ^ 12) + 165917659114842 * ((T * S) ^ 4 * N ^ 10)
      + 200489598395124 * ((T * S) ^ 5 * N ^ 8) - 56501830012959 * ((T * S) ^ 6 * N ^ 6) - 14682724286418 * ((T * S) ^ 7 * N ^ 4) - 1060152929856 * ((T * S) ^ 8 * N ^ 2) - 59355283968 * (T * S) ^ 9 := by
  unfold poly
  subst h
  grind

theorem quarter_sq {T S N : Int} (h : T + S = N) : 4 * (T * S) ≤ N * N := by
  have h1 : 0 ≤ (T - S) * (T - S) := by
    rcases Int.le_total 0 (T - S) with h | h
    · exact Int.mul_nonneg h h
    · exact Int.mul_nonneg_of_nonpos_of_nonpos h h
  have h2 : (T - S) * (T - S) = N * N - 4 * (T * S) := by subst h; grind
  omega

theorem poly_near {T S N : Int} (h : T + S = N) (T0 : 0 ≤ T) (S0 : 0 ≤ S) :
    1152850000000000000 * N ^ 18 ≤ poly N T ^ 2 + poly N S ^ 2 ∧ poly N T ^ 2 + poly N S ^ 2 ≤ 1152990000000000000 * N ^ 18 := by
  rw [poly_sum T S N h]
  have z0 : 0 ≤ T * S := Int.mul_nonneg T0 S0
  have z1 := quarter_sq h
  generalize T * S = z at *
  have np : ∀ k : Nat, 0 ≤ N ^ k := fun k => Int.pow_nonneg (by omega)
  have zp : ∀ k : Nat, 0 ≤ z ^ k := fun k => Int.pow_nonneg z0
  have st : ∀ j k : Nat, 0 ≤ z ^ (j + 1) * N ^ k ∧ 4 * (z ^ (j + 1) * N ^ k) ≤ z ^ j * N ^ (k + 2) := fun j k => by
    refine ⟨Int.mul_nonneg (zp _) (np _), ?_⟩
    have := Int.mul_le_mul_of_nonneg_left z1 (Int.mul_nonneg (zp j) (np k))
    have e1 : z ^ j * N ^ k * (4 * z) = 4 * (z ^ (j + 1) * N ^ k) := by grind
    have e2 : z ^ j * N ^ k * (N * N) = z ^ j * N ^ (k + 2) := by grind
    rwa [e1, e2] at this
  have w1 := st 0 16
  have w2 := st 1 14
  have w3 := st 2 12
  have w4 := st 3 10
  have w5 := st 4 8
  have w6 := st 5 6
  have w7 := st 6 4
  have w8 := st 7 2
  have w9 := st 8 0
  simp only [Nat.zero_add, Nat.reduceAdd, Int.pow_zero, Int.one_mul, Int.mul_one, Int.pow_succ z 0] at w1 w2 w3 w4 w5 w6 w7 w8 w9
  have w0 := np 18
  generalize N ^ 18 = a0 at *
  generalize z * N ^ 16 = a1 at *
  generalize z ^ 2 * N ^ 14 = a2 at *
  generalize z ^ 3 * N ^ 12 = a3 at *
  generalize z ^ 4 * N ^ 10 = a4 at *
  generalize z ^ 5 * N ^ 8 = a5 at *
  generalize z ^ 6 * N ^ 6 = a6 at *
  generalize z ^ 7 * N ^ 4 = a7 at *
  generalize z ^ 8 * N ^ 2 = a8 at *
  generalize z ^ 9 = a9 at *
  clear st np zp
  constructor <;> omega

theorem sq_near {A Q F : Int} (Q0 : 0 ≤ Q) (A0 : 0 ≤ A) (A1 : A ≤ 1686629713) (h1 : -(20 * Q) ≤ A * Q - F) (h2 : A * Q - F ≤ 20 * Q) :
    F ^ 2 - 68000000000 * (Q * Q) ≤ A * A * (Q * Q) ∧ A * A * (Q * Q) ≤ F ^ 2 + 68000000000 * (Q * Q) := by
  have aq0 : 0 ≤ A * Q := Int.mul_nonneg A0 Q0
  have aq1 : A * Q ≤ 1686629713 * Q := Int.mul_le_mul_of_nonneg_right A1 Q0
  have hb := mul_bd (A * Q - F) (2 * (A * Q) - (A * Q - F)) (20 * Q) (3400000000 * Q) h1 h2 (by omega) (by omega)
  have id : (A * Q - F) * (2 * (A * Q) - (A * Q - F)) = A * A * (Q * Q) - F ^ 2 := by grind
  have e : 20 * Q * (3400000000 * Q) = 68000000000 * (Q * Q) := by grind
  rw [id, e] at hb
  omega

theorem raw_near {t s : Int} (t0 : 0 ≤ t) (s0 : 0 ≤ s) (h : t + s = 1073741824 ∨ t + s = 1073741823) :
    1152849000000000000 ≤ qraw t * qraw t + qraw s * qraw s ∧ qraw t * qraw t + qraw s * qraw s ≤ 1152991000000000000 := by
  obtain ⟨N, hN⟩ : ∃ N : Int, N = 1073741824 := ⟨_, rfl⟩
  have c1 := near_chain (T := t) hN t0 (by omega) (by omega) (by omega)
  have c2 := near_chain (T := N - t) hN s0 (by omega) (by omega) (by omega)
  have pn := poly_near (T := t) (S := N - t) (N := N) (by omega) t0 (by omega)
  have b1 := qraw_bd t0 (by omega)
  have b2 := qraw_bd s0 (by omega)
  have q0 : 0 < N ^ 9 := Int.pow_pos (by omega)
  have qq : 0 < N ^ 9 * N ^ 9 := Int.mul_pos q0 q0
  have n1 := sq_near (by omega) b1.1 b1.2 c1.1 c1.2
  have n2 := sq_near (by omega) b2.1 b2.2 c2.1 c2.2
  have e : N ^ 18 = N ^ 9 * N ^ 9 := by grind
  rw [e] at pn
  generalize N ^ 9 * N ^ 9 = L at *
  have d : (qraw t * qraw t + qraw s * qraw s) * L = qraw t * qraw t * L + qraw s * qraw s * L := Int.add_mul _ _ _
  constructor
  · refine Int.le_of_mul_le_mul_right (a := L) ?_ qq
    rw [d]; omega
  · refine Int.le_of_mul_le_mul_right (a := L) ?_ qq
    rw [d]; omega

theorem rnd15_near (n : Int) : -16384 ≤ n - rnd n 15 * 32768 ∧ n - rnd n 15 * 32768 < 16384 := by
  have := rnd_near n 15 (by decide) (by decide)
  simpa using this

theorem sq_mono {a b : Int} (a0 : 0 ≤ a) (h : a ≤ b) : a * a ≤ b * b := Int.mul_le_mul h h a0 (by omega)

/-- a sine's square, from above and (where it is not the greatest) from below -/
theorem qs_sq {t : Int} (t0 : 0 ≤ t) (t1 : t ≤ 1073741824) :
    1073741824 * (qs t * qs t) ≤ qraw t * qraw t + 32768 * qraw t + 268435456 ∧
    (1073676289 ≤ qs t * qs t ∨ qraw t * qraw t - 32768 * qraw t ≤ 1073741824 * (qs t * qs t)) := by
  have hb := qraw_bd t0 t1
  have hq := qs_bd t0 t1
  have hr := rnd15_nonneg hb.1
  have hn := rnd15_near (qraw t)
  have hs : qs t = rnd (qraw t) 15 ∨ (qs t = 32767 ∧ 32767 < rnd (qraw t) 15) := by
    unfold qs sat16 clip
    (repeat' split) <;> omega
  generalize qraw t = A at *
  generalize rnd A 15 = y at *
  generalize qs t = q at *
  have k : 32768 * q * (32768 * q) = 1073741824 * (q * q) := by grind
  constructor
  · have h1 : 32768 * q ≤ A + 16384 := by omega
    have := sq_mono (by omega) h1
    have e : (A + 16384) * (A + 16384) = A * A + 32768 * A + 268435456 := by grind
    omega
  · rcases hs with rfl | ⟨rfl, _⟩
    · right
      rcases Int.lt_or_le A 16384 with h | h
      · have h1 : A * (32768 - A) ≥ 0 := Int.mul_nonneg hb.1 (by omega)
        have e : A * (32768 - A) = 32768 * A - A * A := by grind
        have := Int.mul_nonneg hr hr
        omega
      · have := sq_mono (a := A - 16384) (b := 32768 * q) (by omega) (by omega)
        have e : (A - 16384) * (A - 16384) = A * A - 32768 * A + 268435456 := by grind
        omega
    · left; decide

theorem squares {t s : Int} (t0 : 0 ≤ t) (s0 : 0 ≤ s) (h : t + s = 1073741824 ∨ t + s = 1073741823) :
    qs t * qs t + qs s * qs s - 1073741824 ≤ 262144 ∧ -262144 ≤ qs t * qs t + qs s * qs s - 1073741824 := by
  have r := raw_near t0 s0 h
  have a := qs_sq t0 (by omega)
  have b := qs_sq s0 (by omega)
  have ab := qraw_bd t0 (by omega)
  have bb := qraw_bd s0 (by omega)
  have qa : 0 ≤ qs t * qs t := Int.mul_nonneg (qs_bd t0 (by omega)).1 (qs_bd t0 (by omega)).1
  have qb : 0 ≤ qs s * qs s := Int.mul_nonneg (qs_bd s0 (by omega)).1 (qs_bd s0 (by omega)).1
  generalize qs t * qs t = x at *
  generalize qs s * qs s = y at *
  generalize qraw t * qraw t = x2 at *
  generalize qraw s * qraw s = y2 at *
  omega

theorem heights {d x : Int} (hd : 1 ≤ d) : x * 1073741824 / d + (d - x) * 1073741824 / d = 1073741824 ∨ x * 1073741824 / d + (d - x) * 1073741824 / d = 1073741823 := by
  have e1 := Int.mul_ediv_add_emod (x * 1073741824) d
  have m1 := mod_bd (x * 1073741824) hd
  generalize x * 1073741824 / d = q at *
  generalize hr : x * 1073741824 % d = r at *
  rcases (by omega : r = 0 ∨ 0 < r) with h | h
  · left
    rw [(quo_of (a := (d - x) * 1073741824) (d := d) (q := 1073741824 - q) (r := 0) (by rw [Int.mul_sub]; omega) (by omega) (by omega)).1]; omega
  · right
    rw [(quo_of (a := (d - x) * 1073741824) (d := d) (q := 1073741824 - q - 1) (r := d - r) (by rw [Int.mul_sub, Int.mul_sub]; omega) (by omega) (by omega)).1]; omega

theorem wave_squares (n : Int) {d : Int} (hd : 1 ≤ d) :
    sine n d * sine n d + cosine n d * cosine n d - 1073741824 ≤ 262144 ∧ -262144 ≤ sine n d * sine n d + cosine n d * cosine n d - 1073741824 := by
  obtain ⟨x, x0, x1, hs, hc⟩ := sine_cosine n hd
  have h1 := hgt_of hd x0 x1
  have h2 := hgt_of hd (x := d - x) (by omega) (by omega)
  have := squares h1.1 h2.1 (heights hd)
  have es : sine n d * sine n d = qs (x * 1073741824 / d) * qs (x * 1073741824 / d) := by
    rcases hs with h | h <;> rw [h]
    exact Int.neg_mul_neg _ _
  have ec : cosine n d * cosine n d = qs ((d - x) * 1073741824 / d) * qs ((d - x) * 1073741824 / d) := by
    rcases hc with h | h <;> rw [h]
    exact Int.neg_mul_neg _ _
  rw [es, ec]
  exact this

end M
end Go.Proofs.YtjfhlaahgfdmnaaDoor
