/-
  Contracts of the document's own answer for layer 3 (wave). Conditions: each number fits its kind.
-/
import Derived.Test.YtjfhlaahgfdmnaaDoorWaveWalks
import Derived.Test.YtjfhlaahgfdmnaaDoorFixRef
namespace Go.Proofs.YtjfhlaahgfdmnaaDoor
open Go.RowKit
namespace Wave

theorem part_any (a b : Int) (w : World) (h0 : 0 ≤ a * b) (h1 : a * b ≤ 9223372036854775807) :
    Calls Tryd.prog 68 #[.int .i64 a, .int .i64 b] w fun e w' => e = .returned (.int .i64 (M.part a b)) ∧ w' = w := by
  go_enter Tryd.func68, Tryd.ntmps68
  go_wp2
  go_ret
  exact ⟨rfl, rfl⟩

/-- less than half a turn: up to a quarter, and back -/
def sg (n d : Int) : Int := M.qs ((if d ≤ 4 * n then 2 * d - 4 * n else 4 * n) * 1073741824 / d)

set_option maxRecDepth 100000 in
theorem signed_any (n d : Int) (b : Bool) (w : World) (n0 : 0 ≤ n) (n1 : 2 * n ≤ d) (d0 : 1 ≤ d) (d1 : d ≤ 8388608) :
    Calls Tryd.prog 60 #[.int .i64 n, .int .i64 d, .bool b] w fun e w' => e = .returned (.int .i16 (if b then -sg n d else sg n d)) ∧ w' = w := by
  have hd0 : ¬ d = 0 := by omega
  obtain ⟨x, hx⟩ : ∃ x : Int, (if d ≤ 4 * n then 2 * d - 4 * n else 4 * n) = x := ⟨_, rfl⟩
  have hx0 : 0 ≤ x := by rw [← hx]; split <;> omega
  have hx1 : x ≤ d := by rw [← hx]; split <;> omega
  obtain ⟨t, ht⟩ : ∃ t : Int, x * 1073741824 / d = t := ⟨_, rfl⟩
  have hh := M.hgt_of d0 hx0 hx1
  rw [ht] at hh
  obtain ⟨t0, t1⟩ := hh
  have hs : sg n d = M.qs t := by unfold sg; rw [hx, ht]
  rw [hs]
  have qb := M.qs_bd t0 t1
  have hu := M.part_bd t0 t1 t0 t1
  have HQ : Hid (M.qs t = M.sat16 (M.rnd (M.part (M.pk (M.part t t) 5) t) 15)) := hid rfl
  generalize hU : M.part t t = u at *
  obtain ⟨u0, u1, tt0, tt1⟩ := hu
  have e0 : M.part 0 u = 0 := by unfold M.part; simp
  have e1 : M.pk u 1 = 172272 := by show 172272 - M.part 0 u = 172272; omega
  have e2 : M.pk u 2 = 5026995 - M.part 172272 u := by rw [← e1]; rfl
  have e3 : M.pk u 3 = 85569306 - M.part (5026995 - M.part 172272 u) u := by rw [← e2]; rfl
  have e4 : M.pk u 4 = 693598668 - M.part (85569306 - M.part (5026995 - M.part 172272 u) u) u := by rw [← e3]; rfl
  have e5 : M.pk u 5 = 1686629713 - M.part (693598668 - M.part (85569306 - M.part (5026995 - M.part 172272 u) u) u) u := by rw [← e4]; rfl
  have b1 := M.part_bd (a := 172272) (A := 172272) (by omega) (by omega) u0 u1
  generalize hf1 : M.part 172272 u = f1 at *
  have b2 := M.part_bd (a := 5026995 - f1) (A := 5026995) (by omega) (by omega) u0 u1
  generalize hf2 : M.part (5026995 - f1) u = f2 at *
  have b3 := M.part_bd (a := 85569306 - f2) (A := 85569306) (by omega) (by omega) u0 u1
  generalize hf3 : M.part (85569306 - f2) u = f3 at *
  have b4 := M.part_bd (a := 693598668 - f3) (A := 693598668) (by omega) (by omega) u0 u1
  generalize hf4 : M.part (693598668 - f3) u = f4 at *
  have b5 := M.part_bd (a := 1686629713 - f4) (A := 1686629713) (by omega) (by omega) t0 t1
  rw [e5] at HQ
  generalize hf5 : M.part (1686629713 - f4) t = f5 at *
  obtain ⟨g1, g2, -, -⟩ := b1
  obtain ⟨g3, g4, p20, p21⟩ := b2
  obtain ⟨g5, g6, p30, p31⟩ := b3
  obtain ⟨g7, g8, p40, p41⟩ := b4
  obtain ⟨g9, g10, p50, p51⟩ := b5
  have r0 := M.rnd15_nonneg g9
  have r1 := M.rnd_bd f5 15 (by omega) (by omega)
  obtain ⟨y, hy⟩ : ∃ y, M.rnd f5 15 = y := ⟨_, rfl⟩
  rw [hy] at r0 r1 HQ
  have HY : Hid (M.qs t = if 32767 < y then 32767 else y) := hid (by rw [HQ.out]; unfold M.sat16 M.clip; (repeat' split) <;> omega)
  clear HQ hs e0 e1 e2 e3 e4 e5
  by_cases hq : d ≤ 4 * n
  · rw [if_pos hq] at hx
    by_cases hz : 32767 < y
    · rw [HY.out, if_pos hz]
      go_enter Tryd.func60, Tryd.ntmps60
      go_wp2_with (first
        | (go_at_call 68; refine (part_any _ _ _ (by first | assumption | omega) (by first | assumption | omega)).mono ?_; rintro e w' ⟨rfl, rfl⟩)
        | (go_at_call 35; refine (Ref.Round_any _ _ _ (by omega) (by omega)).mono ?_; rintro e w' ⟨rfl, rfl⟩))
      all_goals (go_ret; exact ⟨by simp [*], rfl⟩)
    · rw [HY.out, if_neg hz]
      go_enter Tryd.func60, Tryd.ntmps60
      go_wp2_with (first
        | (go_at_call 68; refine (part_any _ _ _ (by first | assumption | omega) (by first | assumption | omega)).mono ?_; rintro e w' ⟨rfl, rfl⟩)
        | (go_at_call 35; refine (Ref.Round_any _ _ _ (by omega) (by omega)).mono ?_; rintro e w' ⟨rfl, rfl⟩))
      all_goals (go_ret; exact ⟨by simp [*], rfl⟩)
  · rw [if_neg hq] at hx
    by_cases hz : 32767 < y
    · rw [HY.out, if_pos hz]
      go_enter Tryd.func60, Tryd.ntmps60
      go_wp2_with (first
        | (go_at_call 68; refine (part_any _ _ _ (by first | assumption | omega) (by first | assumption | omega)).mono ?_; rintro e w' ⟨rfl, rfl⟩)
        | (go_at_call 35; refine (Ref.Round_any _ _ _ (by omega) (by omega)).mono ?_; rintro e w' ⟨rfl, rfl⟩))
      all_goals (go_ret; exact ⟨by simp [*], rfl⟩)
    · rw [HY.out, if_neg hz]
      go_enter Tryd.func60, Tryd.ntmps60
      go_wp2_with (first
        | (go_at_call 68; refine (part_any _ _ _ (by first | assumption | omega) (by first | assumption | omega)).mono ?_; rintro e w' ⟨rfl, rfl⟩)
        | (go_at_call 35; refine (Ref.Round_any _ _ _ (by omega) (by omega)).mono ?_; rintro e w' ⟨rfl, rfl⟩))
      all_goals (go_ret; exact ⟨by simp [*], rfl⟩)

theorem sg_lo {d m : Int} (d0 : 1 ≤ d) (m0 : 0 ≤ m) (h : 2 * m < d) : sg m d = M.sn d m := by
  unfold sg
  split
  · rw [M.sn_q1 d0 (by omega) (by omega)]
  · rw [M.sn_q0 d0 (by omega) (by omega)]
theorem sg_hi {d m h : Int} (d0 : 1 ≤ d) (hd : d = 2 * h) (m0 : d ≤ 2 * m) (m1 : m < d) : -sg (m - h) d = M.sn d m := by
  unfold sg
  split
  · rw [M.sn_q3 d0 (by omega) (by omega)]
    congr 4; omega
  · rw [M.sn_q2 d0 (by omega) (by omega)]
    congr 4; omega

theorem of_any (n d h : Int) (w : World) (hd : d = 2 * h) (n0 : -d < n) (n1 : n < d) (d0 : 1 ≤ d) (d1 : d ≤ 8388608) :
    Calls Tryd.prog 59 #[.int .i64 n, .int .i64 d] w fun e w' => e = .returned (.int .i16 (M.sn d (if n < 0 then n + d else n))) ∧ w' = w := by
  have hh : d / 2 = h := by omega
  have Hd : Hid (d = 2 * h) := hd
  clear hd
  by_cases hn : n < 0
  · rw [if_pos hn]
    by_cases h2 : d ≤ 2 * (n + d)
    · rw [← sg_hi (h := h) d0 Hd.out h2 (by omega)]
      go_enter Tryd.func59, Tryd.ntmps59
      go_wp2_with (go_at_call 60; refine (signed_any _ _ _ _ (by omega) (by omega) (by omega) (by omega)).mono ?_; rintro e w' ⟨rfl, rfl⟩)
      go_ret
      exact ⟨by simp, rfl⟩
    · rw [← sg_lo d0 (by omega) (by omega)]
      go_enter Tryd.func59, Tryd.ntmps59
      go_wp2_with (go_at_call 60; refine (signed_any _ _ _ _ (by omega) (by omega) (by omega) (by omega)).mono ?_; rintro e w' ⟨rfl, rfl⟩)
      go_ret
      exact ⟨by simp, rfl⟩
  · rw [if_neg hn]
    by_cases h2 : d ≤ 2 * n
    · rw [← sg_hi (h := h) d0 Hd.out h2 (by omega)]
      go_enter Tryd.func59, Tryd.ntmps59
      go_wp2_with (go_at_call 60; refine (signed_any _ _ _ _ (by omega) (by omega) (by omega) (by omega)).mono ?_; rintro e w' ⟨rfl, rfl⟩)
      go_ret
      exact ⟨by simp, rfl⟩
    · rw [← sg_lo d0 (by omega) (by omega)]
      go_enter Tryd.func59, Tryd.ntmps59
      go_wp2_with (go_at_call 60; refine (signed_any _ _ _ _ (by omega) (by omega) (by omega) (by omega)).mono ?_; rintro e w' ⟨rfl, rfl⟩)
      go_ret
      exact ⟨by simp, rfl⟩

theorem tmod_cases (n : Int) {d : Int} (d0 : 1 ≤ d) : (0 ≤ n.tmod d ∧ n.tmod d = n % d) ∨ (n.tmod d < 0 ∧ n.tmod d + d = n % d) := by
  have hb := M.mod_bd n d0
  rcases Int.lt_or_le n 0 with h | h
  · have e : n.tmod d = -((-n) % d) := by
      rw [← Int.tmod_eq_emod_of_nonneg (a := -n) (by omega), Int.neg_tmod, Int.neg_neg]
    rw [M.neg_mod d0] at e
    split at e <;> omega
  · rw [Int.tmod_eq_emod_of_nonneg h]
    exact .inl ⟨hb.1, rfl⟩

theorem Of_any (n d : Int) (w : World) (d0 : 1 ≤ d) (d1 : d ≤ 4194304) :
    Calls Tryd.prog 44 #[.int .i64 n, .int .i64 d] w fun e w' => e = .returned (.int .i16 (M.sine n d)) ∧ w' = w := by
  have hb := M.mod_bd n d0
  have hc := tmod_cases n d0
  have hd0 : ¬ d = 0 := by omega
  have HS : Hid (M.sine n d = M.sn d (n % d)) := hid rfl
  have HF : Hid (M.sn (d * 2) (n % d * 2) = M.sn d (n % d)) := hid (M.sn_finer _ (by omega))
  rw [HS.out]
  generalize n % d = m at *
  generalize hC : n.tmod d = c at *
  have hC1 : -4194304 ≤ c := by omega
  have hC2 : c < 4194304 := by omega
  obtain ⟨m0, m1⟩ := hb
  by_cases h2 : d ≤ 2 * m
  · by_cases ho : d % 2 = 1
    · have e : M.sn d m = M.sn (2 * d) (if 2 * c < 0 then 2 * c + 2 * d else 2 * c) := by
        rw [← HF.out, Int.mul_comm d 2]; congr 1; split <;> omega
      rw [e]
      rcases hc with ⟨c0, c1⟩ | ⟨c0, c1⟩
      all_goals
        go_enter Tryd.func44, Tryd.ntmps44
        go_wp2_with (go_at_call 59; refine (of_any _ _ d _ (by omega) (by omega) (by omega) (by omega) (by omega)).mono ?_; rintro e w' ⟨rfl, rfl⟩)
        go_ret
        exact ⟨rfl, rfl⟩
    · rw [← sg_hi (h := d / 2) d0 (by omega) h2 m1]
      rcases hc with ⟨c0, c1⟩ | ⟨c0, c1⟩
      all_goals
        go_enter Tryd.func44, Tryd.ntmps44
        go_wp2_with (go_at_call 60; refine (signed_any _ _ _ _ (by omega) (by omega) (by omega) (by omega)).mono ?_; rintro e w' ⟨rfl, rfl⟩)
        go_ret
        exact ⟨by simp [*], rfl⟩
  · rw [← sg_lo d0 m0 (by omega)]
    rcases hc with ⟨c0, c1⟩ | ⟨c0, c1⟩
    all_goals
      go_enter Tryd.func44, Tryd.ntmps44
      go_wp2_with (go_at_call 60; refine (signed_any _ _ _ _ (by omega) (by omega) (by omega) (by omega)).mono ?_; rintro e w' ⟨rfl, rfl⟩)
      go_ret
      exact ⟨by simp [*], rfl⟩

end Wave
end Go.Proofs.YtjfhlaahgfdmnaaDoor
