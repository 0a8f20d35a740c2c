/-
  Contracts of the document's answer for layer 6 (psalteryref06): Kind, Sum, Tail, Seal, Open. Conditions: the bytes stand in memory.
-/
import Derived.Test.YtifafoecejnhkaaCheckSeal
import Derived.WalkLawsBesides
namespace Go.Proofs.Ytifafoecejnhkaa
set_option linter.unusedVariables false
open Go.RowKit
namespace Chk
open Bits (Blk But add_at wrap_id)
open Byt (Given)

/-- a byte against the highest bits, then as many zeros -/
theorem run_ref (n p S x b : Nat) (hn : 8 ≤ n) (hx : x < 256) (hb : b ≤ 8) : M.run n p (fun _ => false) (S ^^^ (x / 2 ^ (8 - b) * 2 ^ (8 - b) * 2 ^ (n - 8))) b = M.run n p (bt x) S b := by
  obtain ⟨y, hy⟩ : ∃ y, y = x / 2 ^ (8 - b) * 2 ^ (8 - b) := ⟨_, rfl⟩
  have hyx : y ≤ x := by rw [hy]; exact Nat.div_mul_le_self _ _
  have hpw : 2 ^ (n - 8) * 256 = 2 ^ n := by rw [show (256 : Nat) = 2 ^ 8 from rfl, ← Nat.pow_add, show n - 8 + 8 = n by omega]
  have hY : y * 2 ^ (n - 8) < 2 ^ n := by
    have : y * 2 ^ (n - 8) < 256 * 2 ^ (n - 8) := (Nat.mul_lt_mul_right (Nat.two_pow_pos _)).2 (by omega)
    rw [← hpw, Nat.mul_comm (2 ^ (n - 8)) 256]; exact this
  have hown := M.run_own n p (y * 2 ^ (n - 8)) hY b (by omega)
  have hzero : 2 ^ b * (y * 2 ^ (n - 8)) % 2 ^ n = 0 := by
    have e : 2 ^ b * (y * 2 ^ (n - 8)) = x / 2 ^ (8 - b) * 2 ^ n := by
      rw [hy, ← hpw, show (256 : Nat) = 2 ^ (8 - b) * 2 ^ b by rw [← Nat.pow_add, show 8 - b + b = 8 by omega]]
      simp only [Nat.mul_comm, Nat.mul_left_comm]
    rw [e, Nat.mul_mod_left]
  rw [hzero] at hown
  have hbits : ∀ i, i < b → (fun i => (y * 2 ^ (n - 8)).testBit (n - 1 - i)) i = bt x i := fun i hi => by
    show (y * 2 ^ (n - 8)).testBit (n - 1 - i) = x.testBit (7 - i)
    rw [Nat.mul_comm, Nat.testBit_two_pow_mul, decide_eq_true (show n - 1 - i ≥ n - 8 by omega), Bool.true_and, show n - 1 - i - (n - 8) = 7 - i by omega, hy, Nat.mul_comm, Nat.testBit_two_pow_mul, decide_eq_true (show 7 - i ≥ 8 - b by omega), Bool.true_and, Nat.testBit_div_two_pow, show 7 - i - (8 - b) + (8 - b) = 7 - i by omega]
  rw [M.run_congr n p _ _ _ b hbits] at hown
  rw [← hy]
  have h := M.run_xor n p (S ^^^ y * 2 ^ (n - 8)) (y * 2 ^ (n - 8)) (fun _ => false) (bt x) b
  rw [hown, Nat.xor_zero, Nat.xor_assoc, Nat.xor_self, Nat.xor_zero] at h
  simp only [Bool.false_xor] at h
  exact h.symm
theorem nx_hi (n p s : Nat) (hn : 0 < n) (hs : s < 2 ^ n) (h : 2 ^ (n - 1) ≤ s) : M.nx n p s false = (s - 2 ^ (n - 1)) * 2 ^^^ p := by
  have ht := top_bit n s hn hs
  have h1 : 1 ≤ s / 2 ^ (n - 1) := by rw [Nat.le_div_iff_mul_le (Nat.two_pow_pos _)]; omega
  have htb : s.testBit (n - 1) = true := by
    cases e : s.testBit (n - 1) with
    | true => rfl
    | false => rw [e] at ht; simp only [Bool.toNat_false] at ht; omega
  have hp : 2 ^ n = 2 * 2 ^ (n - 1) := by rw [← Nat.pow_succ', show (n - 1).succ = n by omega]
  unfold M.nx
  rw [htb, Bool.xor_false, if_pos rfl]
  congr 1
  rw [hp] at hs ⊢
  rw [Nat.mul_mod_mul_left, Nat.mod_eq_sub_mod (by omega), Nat.mod_eq_of_lt (by omega), Nat.mul_comm]
theorem nx_lo (n p s : Nat) (hn : 0 < n) (h : s < 2 ^ (n - 1)) : M.nx n p s false = s * 2 := by
  have hp : 2 ^ n = 2 * 2 ^ (n - 1) := by rw [← Nat.pow_succ', show (n - 1).succ = n by omega]
  unfold M.nx
  rw [Nat.testBit_lt_two_pow h, Bool.xor_false, if_neg (by decide), Nat.xor_zero, Nat.mod_eq_of_lt (by omega), Nat.mul_comm]
theorem cut_xor (x k : Nat) : x ^^^ (x % 2 ^ k) = x / 2 ^ k * 2 ^ k := by
  refine Nat.eq_of_testBit_eq fun i => ?_
  rw [Nat.testBit_xor, Nat.testBit_mod_two_pow, Nat.mul_comm, Nat.testBit_two_pow_mul]
  by_cases h : i < k
  · rw [decide_eq_true h, decide_eq_false (show ¬ i ≥ k by omega)]; simp
  · rw [decide_eq_false h, decide_eq_true (show i ≥ k by omega), Nat.testBit_div_two_pow, show i - k + k = i by omega]; simp
theorem xor_mul (a b k : Nat) : (a ^^^ b) * 2 ^ k = (a * 2 ^ k) ^^^ (b * 2 ^ k) := by
  refine Nat.eq_of_testBit_eq fun i => ?_
  rw [Nat.testBit_xor, Nat.mul_comm, Nat.mul_comm a, Nat.mul_comm b, Nat.testBit_two_pow_mul, Nat.testBit_two_pow_mul, Nat.testBit_two_pow_mul, Nat.testBit_xor]
  cases decide (i ≥ k) <;> simp

theorem RKind_ok (n s p : Nat) (w : World) (hk : Knd n s p) :
    Calls Try.prog 8 #[.int .i64 n] w fun e w' => e = .returned (.tuple #[.int .u32 s, .int .u32 p, .bool true]) ∧ w' = w := by
  rcases hk with ⟨rfl, rfl, rfl⟩ | ⟨rfl, rfl, rfl⟩ | ⟨rfl, rfl, rfl⟩
  all_goals (
    go_enter Try.func8, Try.ntmps8
    go_wp2
    go_ret3
    exact ⟨rfl, rfl⟩)

theorem RKind_no (n : Int) (w : World) (h1 : n ≠ 8) (h2 : n ≠ 16) (h3 : n ≠ 24) :
    Calls Try.prog 8 #[.int .i64 n] w fun e w' => e = .returned (.tuple #[.int .u32 0, .int .u32 0, .bool false]) ∧ w' = w := by
  have e1 : (n == 8) = false := by simpa using h1
  have e2 : (n == 16) = false := by simpa using h2
  have e3 : (n == 24) = false := by simpa using h3
  go_enter Try.func8, Try.ntmps8
  go_wp2
  go_ret3
  exact ⟨rfl, rfl⟩

theorem xr1 {n S x : Nat} (hS : S < 2 ^ n) (hs : 2 ^ n ≤ 16777216) (h8 : 8 ≤ n) (hx : x < 256) : bits .xor .u32 (S : Int) ((x * 2 ^ (n - 8) : Nat) : Int) = ((S ^^^ (x * 2 ^ (n - 8)) : Nat) : Int) ∧ S ^^^ (x * 2 ^ (n - 8)) < 2 ^ n := by
  have hpw : 2 ^ (n - 8) * 256 = 2 ^ n := by rw [show (256 : Nat) = 2 ^ 8 from rfl, ← Nat.pow_add, show n - 8 + 8 = n by omega]
  have h : x * 2 ^ (n - 8) < 2 ^ n := by
    have : x * 2 ^ (n - 8) < 256 * 2 ^ (n - 8) := (Nat.mul_lt_mul_right (Nat.two_pow_pos _)).2 (by omega)
    rw [← hpw, Nat.mul_comm (2 ^ (n - 8)) 256]; exact this
  exact ⟨u32_xor_nat _ _ (by omega) (by omega), Nat.xor_lt_two_pow hS h⟩
theorem xr2 {n p z : Nat} (hz : z < 2 ^ n) (hs : 2 ^ n ≤ 16777216) (hp : p < 2 ^ n) (hn : 0 < n) (ht : 2 ^ (n - 1) ≤ z) : bits .xor .u32 (((z : Int) - ((2 ^ (n - 1) : Nat) : Int)) * 2) (p : Int) = ((M.nx n p z false : Nat) : Int) := by
  have := Nat.two_pow_pos (n - 1)
  rw [nx_hi n p z hn hz ht, ← u32_xor_nat _ _ (by omega) (by omega)]
  congr 1
  omega

theorem xr3 {n S x k : Nat} (hS : S < 2 ^ n) (hs : 2 ^ n ≤ 16777216) (h8 : 8 ≤ n) (hx : x < 256) : bits .xor .u32 ((S ^^^ (x * 2 ^ (n - 8)) : Nat) : Int) ((x % 2 ^ k * 2 ^ (n - 8) : Nat) : Int) = ((S ^^^ (x / 2 ^ k * 2 ^ k * 2 ^ (n - 8)) : Nat) : Int) := by
  have hA := (xr1 hS hs h8 hx).2
  have he : x % 2 ^ k < 256 := Nat.lt_of_le_of_lt (Nat.mod_le _ _) hx
  rw [(xr1 hA hs h8 he).1, Nat.xor_assoc, ← xor_mul, cut_xor]
theorem ways {T z : Nat} {A B : Prop} (hi : T ≤ z → A) (lo : z < T → B) : ((z : Int) ≤ ((T - 1 : Nat) : Int) ∧ B) ∨ ((T : Int) ≤ (z : Int) ∧ A) := by
  rcases Nat.lt_or_ge z T with h | h
  · exact .inl ⟨Int.ofNat_le.2 (by omega), lo h⟩
  · exact .inr ⟨Int.ofNat_le.2 h, hi h⟩
/-- the zeros behind a byte -/
def Zs (n p b e : Nat) (Z : Nat → Nat) : Prop :=
  Z b = e ∧ (∀ k, Z k < 2 ^ n) ∧ (∀ k, 2 ^ (n - 1) ≤ Z k → bits .xor .u32 (((Z k : Int) - ((2 ^ (n - 1) : Nat) : Int)) * 2) (p : Int) = ((Z (k + 1) : Nat) : Int)) ∧ (∀ k, Z k < 2 ^ (n - 1) → Z (k + 1) = Z k * 2)
theorem zeros {n p S x j : Nat} {P : Nat → Nat} (hby : ∀ b, b ≤ 8 → M.run n p (fun _ => false) (S ^^^ (x / 2 ^ (8 - b) * 2 ^ (8 - b) * 2 ^ (n - 8))) b = P (8 * j + b)) (hpl : p < 2 ^ n) (hs : 2 ^ n ≤ 16777216) (hS : S < 2 ^ n) (h8 : 8 ≤ n) (hx : x < 256) (b : Nat) (hb : b ≤ 8) :
    ∃ Z : Nat → Nat, Z 0 = S ^^^ (x / 2 ^ (8 - b) * 2 ^ (8 - b) * 2 ^ (n - 8)) ∧ Zs n p b (P (8 * j + b)) Z := by
  have h0 : S ^^^ (x / 2 ^ (8 - b) * 2 ^ (8 - b) * 2 ^ (n - 8)) < 2 ^ n := (xr1 hS hs h8 (Nat.lt_of_le_of_lt (Nat.div_mul_le_self _ _) hx)).2
  have hlt : ∀ k, M.run n p (fun _ => false) (S ^^^ (x / 2 ^ (8 - b) * 2 ^ (8 - b) * 2 ^ (n - 8))) k < 2 ^ n := fun k => M.run_lt _ _ _ _ _ hpl h0
  exact ⟨M.run n p (fun _ => false) (S ^^^ (x / 2 ^ (8 - b) * 2 ^ (8 - b) * 2 ^ (n - 8))), rfl, hby b hb, hlt, fun k hk => xr2 (hlt k) hs hpl (by omega) hk, fun k hk => nx_lo n p _ (by omega) hk⟩
theorem whole {n p S x j : Nat} {P : Nat → Nat} (hby : ∀ b, b ≤ 8 → M.run n p (fun _ => false) (S ^^^ (x / 2 ^ (8 - b) * 2 ^ (8 - b) * 2 ^ (n - 8))) b = P (8 * j + b)) (hpl : p < 2 ^ n) (hs : 2 ^ n ≤ 16777216) (hS : S < 2 ^ n) (h8 : 8 ≤ n) (hx : x < 256) :
    ∃ (Z : Nat → Nat) (z0 : Nat), bits .xor .u32 (S : Int) ((x : Int) * ((2 ^ (n - 8) : Nat) : Int)) = (z0 : Int) ∧ z0 < 2 ^ n ∧ Hid (z0 = Z 0) ∧ Hid (Zs n p 8 (P (8 * j + 8)) Z) := by
  obtain ⟨Z, h0, hZ⟩ := zeros hby hpl hs hS h8 hx 8 (by omega)
  refine ⟨Z, _, ?_, (xr1 hS hs h8 hx).2, ?_, hZ⟩
  · rw [← (xr1 hS hs h8 hx).1]; rfl
  · show _ = Z 0
    rw [h0, show 8 - 8 = 0 from rfl, Nat.pow_zero, Nat.div_one, Nat.mul_one]
theorem part {n p S x j : Nat} {P : Nat → Nat} (hby : ∀ b, b ≤ 8 → M.run n p (fun _ => false) (S ^^^ (x / 2 ^ (8 - b) * 2 ^ (8 - b) * 2 ^ (n - 8))) b = P (8 * j + b)) (hpl : p < 2 ^ n) (hs : 2 ^ n ≤ 16777216) (hS : S < 2 ^ n) (h8 : 8 ≤ n) (hx : x < 256) (b : Nat) (hb : b ≤ 8) :
    ∃ (Z : Nat → Nat) (A z0 : Nat), bits .xor .u32 (S : Int) ((x : Int) * ((2 ^ (n - 8) : Nat) : Int)) = (A : Int) ∧ A < 2 ^ n ∧ bits .xor .u32 (A : Int) (((x % 2 ^ (8 - b) : Nat) : Int) * ((2 ^ (n - 8) : Nat) : Int)) = (z0 : Int) ∧ z0 < 2 ^ n ∧ Hid (z0 = Z 0) ∧ Hid (Zs n p b (P (8 * j + b)) Z) := by
  obtain ⟨Z, h0, hZ⟩ := zeros hby hpl hs hS h8 hx b hb
  refine ⟨Z, _, Z 0, ?_, (xr1 hS hs h8 hx).2, ?_, hZ.2.1 0, rfl, hZ⟩
  · rw [← (xr1 hS hs h8 hx).1]; rfl
  · rw [h0, ← xr3 hS hs h8 hx]; rfl

set_option maxRecDepth 100000 in
set_option maxHeartbeats 8000000 in
theorem RSum_any (n s p : Nat) (v : Value) (xs : List Nat) (N : Nat) (w : World) (hk : Knd n s p) (hv : Given w v xs) (hl : xs.length ≤ 65536) (hN : N ≤ 8 * xs.length) :
    Calls Try.prog 11 #[.int .i64 n, v, .int .i64 N] w fun e w' => e = .returned (.int .u32 (M.run n p (M.bitL xs) s N : Nat)) ∧ w' = w := by
  have hkd := RKind_ok n s p w hk
  have hs := hk.small
  have hpl := hk.p_lt
  have hsl := hk.s_lt
  have hn0 := hk.pos
  have h8 : 8 ≤ n := by obtain ⟨q, hq, _⟩ := hk.eight; omega
  obtain ⟨a, c, rfl, hc⟩ := hv.form
  have hxl := hv.lt
  have hNl : N ≤ 600000 := by omega
  obtain ⟨P, hP⟩ : ∃ P, P = M.run n p (M.bitL xs) s := ⟨_, rfl⟩
  have hPlt : ∀ m, P m < 2 ^ n := fun m => by rw [hP]; exact M.run_lt n p s m (M.bitL xs) hpl hsl
  have hP0 : Hid (P 0 = s) := by rw [hP]; rfl
  have hbyte : ∀ j b, b ≤ 8 → M.run n p (fun _ => false) (P (8 * j) ^^^ (xs.getD j 0 / 2 ^ (8 - b) * 2 ^ (8 - b) * 2 ^ (n - 8))) b = P (8 * j + b) := fun j b hb => by
    rw [run_ref n p _ _ b h8 (getD_lt hxl j) hb, hP]; exact run_byte n p s xs j b hb
  rw [← hP]
  clear hP
  rcases hk with ⟨rfl, rfl, rfl⟩ | ⟨rfl, rfl, rfl⟩ | ⟨rfl, rfl, rfl⟩
  all_goals (
    go_enter Try.func11, Try.ntmps11
    go_wp2_with (go_at_call 8; refine hkd.mono ?_; clear hkd; rintro e w1 ⟨rfl, rfl⟩)
    go_loopw [7, 11] (fun t i wr => ∃ j : Nat, 8 * j < N + 8 ∧ t = .int .u32 (P (min (8 * j) N) : Nat) ∧ i = .int .i64 j ∧ wr = w1) (fun _ i _ => N - (intOf i).toNat)
    case atStart => exact ⟨0, by omega, by rw [show min (8 * 0) N = 0 by omega, show P 0 = _ from hP0]; rfl, rfl, rfl⟩
    case round =>
      obtain ⟨j, hj, rfl, rfl, rfl⟩ := hrel
      clear hP0
      by_cases hlt : 8 * j < N
      · obtain ⟨b0, off, rfl, hb0, hcell⟩ := hv.cell (i := j) (by omega)
        have hx := getD_lt hxl j
        have hby := hbyte j
        clear hbyte
        obtain ⟨x, hxe⟩ : ∃ x, x = xs.getD j 0 := ⟨_, rfl⟩
        rw [← hxe] at hcell hx hby
        rw [show min (8 * j) N = 8 * j by omega]
        have hS := hPlt (8 * j)
        obtain ⟨S, hSe⟩ : ∃ S, S = P (8 * j) := ⟨_, rfl⟩
        rw [← hSe] at hS hby ⊢
        clear hxe hSe hv
        have i1 : (0 : Int) ≤ j := by omega
        have i2 : (j : Int) < xs.length := by omega
        have i3 : (8 : Int) * j < N := by omega
        by_cases hb : 8 * j + 8 ≤ N
        · obtain ⟨Z, z0, hx1, hz0, hZ0, hZ⟩ := whole hby hpl hs hS h8 hx
          simp only [Nat.reduceSub, Nat.reducePow, Int.mul_one, Int.cast_ofNat_Int] at hx1 hS hz0
          have i4 : (if (8 : Int) < (N : Int) - 8 * j then (8 : Int) else (N : Int) - 8 * j) = 8 := by split <;> omega
          clear hby hPlt
          go_wp2
          go_loopw [7, 13] (fun t k wy => ∃ m : Nat, m ≤ 8 ∧ t = .int .u32 (Z m : Nat) ∧ k = .int .i64 m ∧ wy = wr) (fun _ k _ => 8 - (intOf k).toNat)
          case atStart => exact ⟨0, by omega, by rw [show z0 = Z 0 from hZ0], rfl, rfl⟩
          case round =>
            obtain ⟨m, hm, rfl, rfl, rfl⟩ := hrel
            by_cases hlt2 : m < 8
            · obtain ⟨_, hZlt, hZhi, hZlo⟩ := show Zs _ _ _ _ _ from hZ
              have hzl := hZlt m
              have hhi := hZhi m
              have hlo := hZlo m
              replace hzl := Int.ofNat_le.2 (Nat.le_sub_one_of_lt hzl)
              clear hZlt hZhi hZlo hx1 hS hz0
              obtain ⟨z, hz⟩ : ∃ z, z = Z m := ⟨_, rfl⟩
              obtain ⟨z', hz'⟩ : ∃ z', z' = Z (m + 1) := ⟨_, rfl⟩
              rw [← hz] at hzl hhi hlo ⊢
              rw [← hz'] at hhi hlo
              replace hz' : Hid (z' = Z (m + 1)) := hz'
              clear hz hZ hZ0
              have i5 : (m : Int) < 8 := by omega
              have hways := ways hhi hlo
              clear hhi hlo
              simp only [Nat.reduceSub, Nat.reducePow, Int.cast_ofNat_Int] at hzl hways
              obtain ⟨y, hy⟩ : ∃ y : Int, y = (z : Int) := ⟨_, rfl⟩
              have hy0 : 0 ≤ y := by omega
              have hyz : Hid (y = (z : Int)) := hy
              rw [← hy] at hzl hways ⊢
              clear hy
              have i5 : (m : Int) < 8 := by omega
              rcases hways with ⟨ht, hlo⟩ | ⟨ht, hhi⟩
              · replace hlo : Hid (z' = z * 2) := hlo
                go_wp2
                go_roundw
                case rel => exact ⟨m + 1, by omega, by rw [← show z' = _ from hz', show z' = z * 2 from hlo, show y = _ from hyz]; go_num, by go_num, by first | rfl | trivial⟩
                case measure => simp [intOf]; omega
              · go_wp2
                go_roundw
                case rel => exact ⟨m + 1, by omega, by rw [← show z' = _ from hz'], by go_num, by first | rfl | trivial⟩
                case measure => simp [intOf]; omega
            · obtain rfl : m = 8 := by omega
              have hZe : Z 8 = P (8 * j + 8) := (show Zs _ _ _ _ _ from hZ).1
              rw [hZe]
              clear hZe hZ hZ0 hx1
              go_wp2
              go_roundw
              case rel => exact ⟨j + 1, by omega, by rw [show min (8 * (j + 1)) N = 8 * j + 8 by omega], by go_num, by first | rfl | trivial⟩
              case measure => simp [intOf]; omega
        · obtain ⟨b, hb8, hb1, hbN⟩ : ∃ b, b < 8 ∧ 1 ≤ b ∧ N = 8 * j + b := ⟨N - 8 * j, by omega, by omega, by omega⟩
          obtain ⟨Z, A, z0, hx1, hA, hx2, hz0, hZ0, hZ⟩ := part hby hpl hs hS h8 hx b (by omega)
          have hq1 : 2 ^ (8 - b) ≤ 128 := Nat.pow_le_pow_right (n := 2) (by decide) (show 8 - b ≤ 7 by omega)
          have hq2 : 0 < 2 ^ (8 - b) := Nat.two_pow_pos _
          have i4 : (N : Int) - 8 * j = b := by omega
          have i5 : ((8 : Int) - b).toNat = 8 - b := by omega
          have i6 : (0 : Int) ≤ 8 - b := by omega
          have i7 : (8 : Int) - b ≤ 8 := by omega
          obtain ⟨t, ht, hte⟩ : ∃ t : Nat, (2 : Int) ^ (8 - b) = t ∧ t = 2 ^ (8 - b) := ⟨2 ^ (8 - b), by simp, rfl⟩
          rw [← hte] at hq1 hq2 hx2
          obtain ⟨e, he, hee⟩ : ∃ e : Nat, (x : Int) % (t : Int) = e ∧ e = x % t := ⟨x % t, by omega, rfl⟩
          have he1 : e < 256 := by rw [hee]; exact Nat.lt_of_le_of_lt (Nat.mod_le _ _) hx
          rw [← hee] at hx2
          have i8 : ((t : Int) == 0) = false := by simp; omega
          simp only [Nat.reduceSub, Nat.reducePow, Int.mul_one, Int.cast_ofNat_Int] at hx1 hx2 hS hz0 hA
          have hbN' : Hid (N = 8 * j + b) := hbN
          have hb3 : ¬ 8 * j + 8 ≤ N := hb
          clear hby hPlt hte hee hbN
          go_wp2
          go_loopw [7, 13] (fun t k wy => ∃ m : Nat, m ≤ b ∧ t = .int .u32 (Z m : Nat) ∧ k = .int .i64 m ∧ wy = wr) (fun _ k _ => b - (intOf k).toNat)
          case atStart => exact ⟨0, by omega, by rw [show z0 = Z 0 from hZ0], rfl, rfl⟩
          case round =>
            obtain ⟨m, hm, rfl, rfl, rfl⟩ := hrel
            by_cases hlt2 : m < b
            · obtain ⟨_, hZlt, hZhi, hZlo⟩ := show Zs _ _ _ _ _ from hZ
              have hzl := hZlt m
              have hhi := hZhi m
              have hlo := hZlo m
              replace hzl := Int.ofNat_le.2 (Nat.le_sub_one_of_lt hzl)
              clear hZlt hZhi hZlo hx1 hS hz0 hx2 hA ht he
              obtain ⟨z, hz⟩ : ∃ z, z = Z m := ⟨_, rfl⟩
              obtain ⟨z', hz'⟩ : ∃ z', z' = Z (m + 1) := ⟨_, rfl⟩
              rw [← hz] at hzl hhi hlo ⊢
              rw [← hz'] at hhi hlo
              replace hz' : Hid (z' = Z (m + 1)) := hz'
              clear hz hZ hZ0
              have i5 : (m : Int) < b := by omega
              have hways := ways hhi hlo
              clear hhi hlo
              simp only [Nat.reduceSub, Nat.reducePow, Int.cast_ofNat_Int] at hzl hways
              obtain ⟨y, hy⟩ : ∃ y : Int, y = (z : Int) := ⟨_, rfl⟩
              have hy0 : 0 ≤ y := by omega
              have hyz : Hid (y = (z : Int)) := hy
              rw [← hy] at hzl hways ⊢
              clear hy
              have i5 : (m : Int) < b := by omega
              rcases hways with ⟨ht, hlo⟩ | ⟨ht, hhi⟩
              · replace hlo : Hid (z' = z * 2) := hlo
                go_wp2
                go_roundw
                case rel => exact ⟨m + 1, by omega, by rw [← show z' = _ from hz', show z' = z * 2 from hlo, show y = _ from hyz]; go_num, by go_num, by first | rfl | trivial⟩
                case measure => simp [intOf]; omega
              · go_wp2
                go_roundw
                case rel => exact ⟨m + 1, by omega, by rw [← show z' = _ from hz'], by go_num, by first | rfl | trivial⟩
                case measure => simp [intOf]; omega
            · obtain rfl : m = b := by omega
              have hZe : Z m = P (8 * j + m) := (show Zs _ _ _ _ _ from hZ).1
              rw [hZe]
              clear hZe hZ hZ0 hx1 hx2 ht he
              go_wp2
              go_roundw
              case rel => exact ⟨j + 1, by omega, by rw [show min (8 * (j + 1)) N = 8 * j + m by have : N = 8 * j + m := hbN'; omega], by go_num, by first | rfl | trivial⟩
              case measure => simp [intOf]; omega
      · obtain hje : min (8 * j) N = N := by omega
        rw [hje]
        clear hje
        go_wp2
        go_ret
        exact ⟨rfl, rfl⟩)

end Chk
end Go.Proofs.Ytifafoecejnhkaa
