import Derived.Laws.Rows
import Derived.Test.YtcaifpjbjghhaaaGreatDoorSubP03
import Derived.Test.YtcaifpjbjghhaaaGreatDoorSubP00
/-
  Contracts of layer 3 (wave): the sine of a part of a turn. Conditions: each number fits its kind; the polynomial's numbers stand as their initialiser lays them.
-/
namespace Go.Proofs.YtcaifpjbjghhaaaGreatDoor
open Go.RowKit
namespace Wave

theorem hid {p : Prop} (h : p) : Hid p := h

abbrev polyArr : Array Value := #[.int .i64 172272, .int .i64 5026995, .int .i64 85569306, .int .i64 693598668, .int .i64 1686629713]
def Tab (w : World) : Prop := ∃ t fr, w.heap[2]? = some (.cells polyArr t fr)
theorem Tab.drewN {w : World} (h : Tab w) (m : Nat) : Tab (w.drewN m) := h

theorem index_poly (k : Nat) (hk : k < 5) (w : World) : (Instr.index 336 (.agg polyArr) (.int .i64 k)).run Tryz.prog w = .ok (.int .i64 (M.coef k)) w := by
  rcases (by omega : k = 0 ∨ k = 1 ∨ k = 2 ∨ k = 3 ∨ k = 4) with rfl | rfl | rfl | rfl | rfl
  all_goals kernel_rfl
theorem coef_bd (k : Nat) : 0 ≤ M.coef k ∧ M.coef k ≤ 1686629713 := by
  unfold M.coef; split <;> omega

set_option maxRecDepth 100000 in
theorem quarterSine_any (t : Int) (w : World) (hT : Tab w) (t0 : 0 ≤ t) (t1 : t ≤ 1073741824) :
    Calls Tryz.prog 266 #[.int .i64 t] w fun e w' => e = .returned (.int .i16 (M.qs t)) ∧ ∃ m, w' = w.drewN m := by
  obtain ⟨ty, fr, hg⟩ := hT
  have hu := M.part_bd t0 t1 t0 t1
  obtain ⟨u, hU⟩ : ∃ u : Int, t * t / 1073741824 = u := ⟨_, rfl⟩
  have u0 : 0 ≤ u := by rw [← hU]; exact hu.1
  have u1 : u ≤ 1073741824 := by rw [← hU]; exact hu.2.1
  have q0 : 0 ≤ t * t := hu.2.2.1
  have q1 : t * t ≤ 1152921504606846976 := by omega
  have HQ : Hid (M.qs t = M.sat16 (M.rnd (M.part (M.pk u 5) t) 15)) := hid (by rw [← hU]; rfl)
  clear hu
  go_enter Tryz.func266, Tryz.ntmps266
  go_wp2_with (refine wpList_load_row rfl 336 _ rfl 2 rfl ty _ fr _ hg Tryz.underlying336 rfl (by kernel_rfl) ?_)
  go_loop [4, 12] (fun p i => ∃ k : Nat, k ≤ 5 ∧ i = .int .i64 k ∧ p = .int .i64 (M.pk u k)) (fun _ i => 5 - (intOf i).toNat)
  case atStart => exact ⟨0, by omega, rfl, rfl⟩
  case round =>
    obtain ⟨k, hk, rfl, rfl⟩ := hrel
    have pb := M.pk_bd u0 u1 k hk
    by_cases hlt : k < 5
    · have hi := index_poly k hlt
      have cb := coef_bd k
      have EP : Hid (M.pk u (k + 1) = M.coef k - M.pk u k * u / 1073741824) := hid rfl
      have mb := M.part_bd pb.1 pb.2 u0 u1
      generalize M.pk u k = P at *
      generalize M.coef k = C at *
      obtain ⟨p0, p1⟩ := pb
      obtain ⟨c0, c1⟩ := cb
      obtain ⟨-, -, m0, m1⟩ := mb
      have m2 : P * u ≤ 1811004864449216512 := by omega
      clear m1
      go_wp2
      go_round
      case rel => exact ⟨k + 1, by omega, by go_num, by rw [EP.out]⟩
      case measure => simp [intOf]; omega
    · obtain rfl : k = 5 := by omega
      have mb := M.part_bd pb.1 pb.2 t0 t1
      have HP : Hid (M.part (M.pk u 5) t = M.pk u 5 * t / 1073741824) := hid rfl
      generalize M.pk u 5 = P at *
      obtain ⟨p0, p1⟩ := pb
      obtain ⟨-, -, m0, m1⟩ := mb
      have m2 : P * t ≤ 1811004864449216512 := by omega
      have r := M.rnd_bd (P * t / 1073741824) 15 (by omega) (by omega)
      clear m1
      go_wp2_with (first
        | (go_at_call 220; refine (Round_any _ _ _ (by omega) (by omega)).mono ?_; rintro e w' ⟨rfl, m, rfl⟩)
        | (go_at_call 223; refine (Sat16_any _ _ (by omega) (by omega)).mono ?_; rintro e w' ⟨rfl, rfl⟩))
      go_ret
      refine ⟨ret_int ?_, _, rfl⟩
      rw [HQ.out, HP.out]

set_option maxRecDepth 100000 in
theorem sine_any (n d : Int) (w : World) (hT : Tab w) (n0 : 0 ≤ n) (n1 : n ≤ 9223372036854775807) (d0 : 1 ≤ d) (d1 : d ≤ 4194304) :
    Calls Tryz.prog 259 #[.int .u64 n, .int .u64 d] w fun e w' => e = .returned (.int .i16 (M.sine n d)) ∧ ∃ m, w' = w.drewN m := by
  obtain ⟨m, hm⟩ : ∃ m : Int, n % d = m := ⟨_, rfl⟩
  have hmb := M.mod_bd n d0
  rw [hm] at hmb
  obtain ⟨m0, m1⟩ := hmb
  have hq := M.quart d0 m0 m1
  have HS : Hid (M.sine n d = if 2 ≤ 4 * m / d then -M.qs (M.rest d (4 * m / d) (4 * m % d) * 1073741824 / d) else M.qs (M.rest d (4 * m / d) (4 * m % d) * 1073741824 / d)) := hid (by rw [← hm]; rfl)
  obtain ⟨q, hQ⟩ : ∃ q : Int, 4 * m / d = q := ⟨_, rfl⟩
  obtain ⟨r, hR⟩ : ∃ r : Int, 4 * m % d = r := ⟨_, rfl⟩
  rw [hQ, hR] at hq HS
  obtain ⟨q0, q1, r0, r1, -⟩ := hq
  have hd0 : ¬ d = 0 := by omega
  by_cases hodd : q % 2 = 1
  · obtain ⟨t, ht⟩ : ∃ t : Int, (d - r) * 1073741824 / d = t := ⟨_, rfl⟩
    have hh := M.hgt_of d0 (x := d - r) (by omega) (by omega)
    rw [ht] at hh
    obtain ⟨t0, t1⟩ := hh
    have qb := M.qs_bd t0 t1
    have HX : Hid (M.sine n d = if 2 ≤ q then -M.qs t else M.qs t) := hid (by rw [HS.out]; unfold M.rest; rw [if_pos hodd, ht])
    clear HS
    by_cases h2 : 2 ≤ q
    · go_enter Tryz.func259, Tryz.ntmps259
      go_wp2
      go_quiet (fail)
      go_wp2_with (go_at_call 266; refine (quarterSine_any _ _ (Tab.drewN hT _) t0 t1).mono ?_; rintro e w' ⟨rfl, m, rfl⟩)
      go_ret
      refine ⟨ret_int ?_, _, rfl⟩
      rw [HX.out, if_pos h2]
    · go_enter Tryz.func259, Tryz.ntmps259
      go_wp2
      go_quiet (fail)
      go_wp2_with (go_at_call 266; refine (quarterSine_any _ _ (Tab.drewN hT _) t0 t1).mono ?_; rintro e w' ⟨rfl, m, rfl⟩)
      go_ret
      refine ⟨ret_int ?_, _, rfl⟩
      rw [HX.out, if_neg (by omega)]
  · obtain ⟨t, ht⟩ : ∃ t : Int, r * 1073741824 / d = t := ⟨_, rfl⟩
    have hh := M.hgt_of d0 (x := r) (by omega) (by omega)
    rw [ht] at hh
    obtain ⟨t0, t1⟩ := hh
    have qb := M.qs_bd t0 t1
    have HX : Hid (M.sine n d = if 2 ≤ q then -M.qs t else M.qs t) := hid (by rw [HS.out]; unfold M.rest; rw [if_neg hodd, ht])
    clear HS
    by_cases h2 : 2 ≤ q
    · go_enter Tryz.func259, Tryz.ntmps259
      go_wp2
      go_quiet (fail)
      go_wp2_with (go_at_call 266; refine (quarterSine_any _ _ (Tab.drewN hT _) t0 t1).mono ?_; rintro e w' ⟨rfl, m, rfl⟩)
      go_ret
      refine ⟨ret_int ?_, _, rfl⟩
      rw [HX.out, if_pos h2]
    · go_enter Tryz.func259, Tryz.ntmps259
      go_wp2
      go_quiet (fail)
      go_wp2_with (go_at_call 266; refine (quarterSine_any _ _ (Tab.drewN hT _) t0 t1).mono ?_; rintro e w' ⟨rfl, m, rfl⟩)
      go_ret
      refine ⟨ret_int ?_, _, rfl⟩
      rw [HX.out, if_neg (by omega)]

theorem back_eq {n d : Int} (n0 : -9223372036854775808 ≤ n) (h : n < 0) (d0 : 1 ≤ d) (d1 : d ≤ 4194304) :
    (IntKind.u64.wrap (d - (IntKind.u64.wrap (-IntKind.u64.wrap n)).tmod d)).tmod d = n % d := by
  have e1 : IntKind.u64.wrap (-IntKind.u64.wrap n) = -n := by rw [IntKind.wrap_u64, IntKind.wrap_u64]; omega
  have hb := M.mod_bd n d0
  rw [e1, Int.tmod_eq_emod_of_nonneg (a := -n) (by omega), M.neg_mod d0]
  split
  · rename_i h0
    have e2 : IntKind.u64.wrap (d - 0) = d := by rw [IntKind.wrap_u64]; omega
    rw [e2, Int.tmod_eq_emod_of_nonneg (by omega), Int.emod_self, h0]
  · have e2 : IntKind.u64.wrap (d - (d - n % d)) = n % d := by
      generalize n % d = m at *
      rw [IntKind.wrap_u64]; omega
    rw [e2, Int.tmod_eq_emod_of_nonneg hb.1, Int.emod_emod]

theorem withinTurn_any (n d : Int) (w : World) (n0 : -9223372036854775808 ≤ n) (n1 : n ≤ 9223372036854775807) (d0 : 1 ≤ d) (d1 : d ≤ 4194304) :
    Calls Tryz.prog 260 #[.int .i64 n, .int .i64 d] w fun e w' => e = .returned (.int .u64 (n % d)) ∧ w' = w := by
  have hmb := M.mod_bd n d0
  have hnb := M.mod_bd (-n) d0
  have hd0 : ¬ d = 0 := by omega
  by_cases h : 0 ≤ n
  · go_enter Tryz.func260, Tryz.ntmps260
    go_wp2
    go_ret
    exact ⟨rfl, rfl⟩
  · go_enter Tryz.func260, Tryz.ntmps260
    go_wp2
    go_ret
    refine ⟨ret_int ?_, rfl⟩
    exact back_eq n0 h d0 d1

theorem Sine_all (n d : Int) (w : World) (hT : Tab w) (n0 : -9223372036854775808 ≤ n) (n1 : n ≤ 9223372036854775807) :
    Calls Tryz.prog 261 #[.int .i64 n, .int .i64 d] w fun e w' => e = .returned (.tuple #[.int .i16 (M.sineI n d), .int .i64 (M.waveE d)]) ∧ ∃ m, w' = w.drewN m := by
  rcases (by omega : d < 1 ∨ 1048576 < d ∨ (1 ≤ d ∧ d ≤ 1048576)) with h | h | ⟨d0, d1⟩
  · have e1 : M.sineI n d = 0 := if_neg (by omega)
    have e2 : M.waveE d = 1 := if_neg (by omega)
    rw [e1, e2]
    go_enter Tryz.func261, Tryz.ntmps261
    go_wp2
    go_ret2
    exact ⟨rfl, 0, rfl⟩
  · have e1 : M.sineI n d = 0 := if_neg (by omega)
    have e2 : M.waveE d = 1 := if_neg (by omega)
    have h' : ¬ d < 1 := by omega
    rw [e1, e2]
    go_enter Tryz.func261, Tryz.ntmps261
    go_wp2
    go_ret2
    exact ⟨rfl, 0, rfl⟩
  · have e1 : M.sineI n d = M.sine (n % d) d := by unfold M.sineI; rw [if_pos ⟨d0, d1⟩, M.sine_emod]
    have e2 : M.waveE d = 0 := if_pos ⟨d0, d1⟩
    rw [e1, e2]
    have hb := M.mod_bd n d0
    go_enter Tryz.func261, Tryz.ntmps261
    go_wp2_with (first
      | (go_at_call 260; refine (withinTurn_any _ _ _ n0 n1 d0 (by omega)).mono ?_; rintro e w' ⟨rfl, rfl⟩)
      | (go_at_call 259; refine (sine_any _ _ _ hT (by omega) (by omega) d0 (by omega)).mono ?_; rintro e w' ⟨rfl, m, rfl⟩))
    go_ret2
    exact ⟨rfl, _, rfl⟩

theorem Cosine_all (n d : Int) (w : World) (hT : Tab w) (n0 : -9223372036854775808 ≤ n) (n1 : n ≤ 9223372036854775807) :
    Calls Tryz.prog 251 #[.int .i64 n, .int .i64 d] w fun e w' => e = .returned (.tuple #[.int .i16 (M.cosineI n d), .int .i64 (M.waveE d)]) ∧ ∃ m, w' = w.drewN m := by
  rcases (by omega : d < 1 ∨ 1048576 < d ∨ (1 ≤ d ∧ d ≤ 1048576)) with h | h | ⟨d0, d1⟩
  · have e1 : M.cosineI n d = 0 := if_neg (by omega)
    have e2 : M.waveE d = 1 := if_neg (by omega)
    rw [e1, e2]
    go_enter Tryz.func251, Tryz.ntmps251
    go_wp2
    go_ret2
    exact ⟨rfl, 0, rfl⟩
  · have e1 : M.cosineI n d = 0 := if_neg (by omega)
    have e2 : M.waveE d = 1 := if_neg (by omega)
    have h' : ¬ d < 1 := by omega
    rw [e1, e2]
    go_enter Tryz.func251, Tryz.ntmps251
    go_wp2
    go_ret2
    exact ⟨rfl, 0, rfl⟩
  · have e1 : M.cosineI n d = M.sine (4 * (n % d) + d) (4 * d) := by unfold M.cosineI; rw [if_pos ⟨d0, d1⟩]; rfl
    have e2 : M.waveE d = 0 := if_pos ⟨d0, d1⟩
    rw [e1, e2]
    have hb := M.mod_bd n d0
    go_enter Tryz.func251, Tryz.ntmps251
    go_wp2_with (first
      | (go_at_call 260; refine (withinTurn_any _ _ _ n0 n1 d0 (by omega)).mono ?_; rintro e w' ⟨rfl, rfl⟩)
      | (go_at_call 259; refine (sine_any _ _ _ hT (by omega) (by omega) (by omega) (by omega)).mono ?_; rintro e w' ⟨rfl, m, rfl⟩))
    go_ret2
    exact ⟨rfl, _, rfl⟩

end Wave
end Go.Proofs.YtcaifpjbjghhaaaGreatDoor

/-
  Contracts of the document's own answer for layer 3 (wave). Conditions: each number fits its kind.
-/
namespace Go.Proofs.YtcaifpjbjghhaaaGreatDoor
open Go.RowKit
namespace Wave

theorem part_any (a b : Int) (w : World) (h0 : 0 ≤ a * b) (h1 : a * b ≤ 9223372036854775807) :
    Calls Tryz.prog 252 #[.int .i64 a, .int .i64 b] w fun e w' => e = .returned (.int .i64 (M.part a b)) ∧ w' = w := by
  go_enter Tryz.func252, Tryz.ntmps252
  go_wp2
  go_ret
  exact ⟨rfl, rfl⟩

def sg (n d : Int) : Int := M.qs ((if d ≤ 4 * n then 2 * d - 4 * n else 4 * n) * 1073741824 / d)

set_option maxRecDepth 100000 in
theorem signed_any (n d : Int) (b : Bool) (w : World) (n0 : 0 ≤ n) (n1 : 2 * n ≤ d) (d0 : 1 ≤ d) (d1 : d ≤ 8388608) :
    Calls Tryz.prog 222 #[.int .i64 n, .int .i64 d, .bool b] w fun e w' => e = .returned (.int .i16 (if b then -sg n d else sg n d)) ∧ w' = w := by
  have hd0 : ¬ d = 0 := by omega
  obtain ⟨x, hx⟩ : ∃ x : Int, (if d ≤ 4 * n then 2 * d - 4 * n else 4 * n) = x := ⟨_, rfl⟩
  have hx0 : 0 ≤ x := by rw [← hx]; split <;> omega
  have hx1 : x ≤ d := by rw [← hx]; split <;> omega
  obtain ⟨t, ht⟩ : ∃ t : Int, x * 1073741824 / d = t := ⟨_, rfl⟩
  have hh := M.hgt_of d0 hx0 hx1
  rw [ht] at hh
  obtain ⟨t0, t1⟩ := hh
  have hs : sg n d = M.qs t := by unfold sg; rw [hx, ht]
  rw [hs]
  have qb := M.qs_bd t0 t1
  have hu := M.part_bd t0 t1 t0 t1
  have HQ : Hid (M.qs t = M.sat16 (M.rnd (M.part (M.pk (M.part t t) 5) t) 15)) := hid rfl
  generalize hU : M.part t t = u at *
  obtain ⟨u0, u1, tt0, tt1⟩ := hu
  have e0 : M.part 0 u = 0 := by unfold M.part; simp
  have e1 : M.pk u 1 = 172272 := by show 172272 - M.part 0 u = 172272; omega
  have e2 : M.pk u 2 = 5026995 - M.part 172272 u := by rw [← e1]; rfl
  have e3 : M.pk u 3 = 85569306 - M.part (5026995 - M.part 172272 u) u := by rw [← e2]; rfl
  have e4 : M.pk u 4 = 693598668 - M.part (85569306 - M.part (5026995 - M.part 172272 u) u) u := by rw [← e3]; rfl
  have e5 : M.pk u 5 = 1686629713 - M.part (693598668 - M.part (85569306 - M.part (5026995 - M.part 172272 u) u) u) u := by rw [← e4]; rfl
  have b1 := M.part_bd (a := 172272) (A := 172272) (by omega) (by omega) u0 u1
  generalize hf1 : M.part 172272 u = f1 at *
  have b2 := M.part_bd (a := 5026995 - f1) (A := 5026995) (by omega) (by omega) u0 u1
  generalize hf2 : M.part (5026995 - f1) u = f2 at *
  have b3 := M.part_bd (a := 85569306 - f2) (A := 85569306) (by omega) (by omega) u0 u1
  generalize hf3 : M.part (85569306 - f2) u = f3 at *
  have b4 := M.part_bd (a := 693598668 - f3) (A := 693598668) (by omega) (by omega) u0 u1
  generalize hf4 : M.part (693598668 - f3) u = f4 at *
  have b5 := M.part_bd (a := 1686629713 - f4) (A := 1686629713) (by omega) (by omega) t0 t1
  rw [e5] at HQ
  generalize hf5 : M.part (1686629713 - f4) t = f5 at *
  obtain ⟨g1, g2, -, -⟩ := b1
  obtain ⟨g3, g4, p20, p21⟩ := b2
  obtain ⟨g5, g6, p30, p31⟩ := b3
  obtain ⟨g7, g8, p40, p41⟩ := b4
  obtain ⟨g9, g10, p50, p51⟩ := b5
  have r0 := M.rnd15_nonneg g9
  have r1 := M.rnd_bd f5 15 (by omega) (by omega)
  obtain ⟨y, hy⟩ : ∃ y, M.rnd f5 15 = y := ⟨_, rfl⟩
  rw [hy] at r0 r1 HQ
  have HY : Hid (M.qs t = if 32767 < y then 32767 else y) := hid (by rw [HQ.out]; unfold M.sat16 M.clip; (repeat' split) <;> omega)
  clear HQ hs e0 e1 e2 e3 e4 e5
  by_cases hq : d ≤ 4 * n
  · rw [if_pos hq] at hx
    by_cases hz : 32767 < y
    · rw [HY.out, if_pos hz]
      go_enter Tryz.func222, Tryz.ntmps222
      go_wp2_with (first
        | (go_at_call 252; refine (part_any _ _ _ (by first | assumption | omega) (by first | assumption | omega)).mono ?_; rintro e w' ⟨rfl, rfl⟩)
        | (go_at_call 154; refine (Ref.Round_any _ _ _ (by omega) (by omega)).mono ?_; rintro e w' ⟨rfl, rfl⟩))
      all_goals (go_ret; exact ⟨by simp [*], rfl⟩)
    · rw [HY.out, if_neg hz]
      go_enter Tryz.func222, Tryz.ntmps222
      go_wp2_with (first
        | (go_at_call 252; refine (part_any _ _ _ (by first | assumption | omega) (by first | assumption | omega)).mono ?_; rintro e w' ⟨rfl, rfl⟩)
        | (go_at_call 154; refine (Ref.Round_any _ _ _ (by omega) (by omega)).mono ?_; rintro e w' ⟨rfl, rfl⟩))
      all_goals (go_ret; exact ⟨by simp [*], rfl⟩)
  · rw [if_neg hq] at hx
    by_cases hz : 32767 < y
    · rw [HY.out, if_pos hz]
      go_enter Tryz.func222, Tryz.ntmps222
      go_wp2_with (first
        | (go_at_call 252; refine (part_any _ _ _ (by first | assumption | omega) (by first | assumption | omega)).mono ?_; rintro e w' ⟨rfl, rfl⟩)
        | (go_at_call 154; refine (Ref.Round_any _ _ _ (by omega) (by omega)).mono ?_; rintro e w' ⟨rfl, rfl⟩))
      all_goals (go_ret; exact ⟨by simp [*], rfl⟩)
    · rw [HY.out, if_neg hz]
      go_enter Tryz.func222, Tryz.ntmps222
      go_wp2_with (first
        | (go_at_call 252; refine (part_any _ _ _ (by first | assumption | omega) (by first | assumption | omega)).mono ?_; rintro e w' ⟨rfl, rfl⟩)
        | (go_at_call 154; refine (Ref.Round_any _ _ _ (by omega) (by omega)).mono ?_; rintro e w' ⟨rfl, rfl⟩))
      all_goals (go_ret; exact ⟨by simp [*], rfl⟩)

theorem sg_lo {d m : Int} (d0 : 1 ≤ d) (m0 : 0 ≤ m) (h : 2 * m < d) : sg m d = M.sn d m := by
  unfold sg
  split
  · rw [M.sn_q1 d0 (by omega) (by omega)]
  · rw [M.sn_q0 d0 (by omega) (by omega)]
theorem sg_hi {d m h : Int} (d0 : 1 ≤ d) (hd : d = 2 * h) (m0 : d ≤ 2 * m) (m1 : m < d) : -sg (m - h) d = M.sn d m := by
  unfold sg
  split
  · rw [M.sn_q3 d0 (by omega) (by omega)]
    congr 4; omega
  · rw [M.sn_q2 d0 (by omega) (by omega)]
    congr 4; omega

theorem of_any (n d h : Int) (w : World) (hd : d = 2 * h) (n0 : -d < n) (n1 : n < d) (d0 : 1 ≤ d) (d1 : d ≤ 8388608) :
    Calls Tryz.prog 221 #[.int .i64 n, .int .i64 d] w fun e w' => e = .returned (.int .i16 (M.sn d (if n < 0 then n + d else n))) ∧ w' = w := by
  have hh : d / 2 = h := by omega
  have Hd : Hid (d = 2 * h) := hd
  clear hd
  by_cases hn : n < 0
  · rw [if_pos hn]
    by_cases h2 : d ≤ 2 * (n + d)
    · rw [← sg_hi (h := h) d0 Hd.out h2 (by omega)]
      go_enter Tryz.func221, Tryz.ntmps221
      go_wp2_with (go_at_call 222; refine (signed_any _ _ _ _ (by omega) (by omega) (by omega) (by omega)).mono ?_; rintro e w' ⟨rfl, rfl⟩)
      go_ret
      exact ⟨by simp, rfl⟩
    · rw [← sg_lo d0 (by omega) (by omega)]
      go_enter Tryz.func221, Tryz.ntmps221
      go_wp2_with (go_at_call 222; refine (signed_any _ _ _ _ (by omega) (by omega) (by omega) (by omega)).mono ?_; rintro e w' ⟨rfl, rfl⟩)
      go_ret
      exact ⟨by simp, rfl⟩
  · rw [if_neg hn]
    by_cases h2 : d ≤ 2 * n
    · rw [← sg_hi (h := h) d0 Hd.out h2 (by omega)]
      go_enter Tryz.func221, Tryz.ntmps221
      go_wp2_with (go_at_call 222; refine (signed_any _ _ _ _ (by omega) (by omega) (by omega) (by omega)).mono ?_; rintro e w' ⟨rfl, rfl⟩)
      go_ret
      exact ⟨by simp, rfl⟩
    · rw [← sg_lo d0 (by omega) (by omega)]
      go_enter Tryz.func221, Tryz.ntmps221
      go_wp2_with (go_at_call 222; refine (signed_any _ _ _ _ (by omega) (by omega) (by omega) (by omega)).mono ?_; rintro e w' ⟨rfl, rfl⟩)
      go_ret
      exact ⟨by simp, rfl⟩

theorem tmod_cases (n : Int) {d : Int} (d0 : 1 ≤ d) : (0 ≤ n.tmod d ∧ n.tmod d = n % d) ∨ (n.tmod d < 0 ∧ n.tmod d + d = n % d) := by
  have hb := M.mod_bd n d0
  rcases Int.lt_or_le n 0 with h | h
  · have e : n.tmod d = -((-n) % d) := by
      rw [← Int.tmod_eq_emod_of_nonneg (a := -n) (by omega), Int.neg_tmod, Int.neg_neg]
    rw [M.neg_mod d0] at e
    split at e <;> omega
  · rw [Int.tmod_eq_emod_of_nonneg h]
    exact .inl ⟨hb.1, rfl⟩

theorem Of_any (n d : Int) (w : World) (d0 : 1 ≤ d) (d1 : d ≤ 4194304) :
    Calls Tryz.prog 193 #[.int .i64 n, .int .i64 d] w fun e w' => e = .returned (.int .i16 (M.sine n d)) ∧ w' = w := by
  have hb := M.mod_bd n d0
  have hc := tmod_cases n d0
  have hd0 : ¬ d = 0 := by omega
  have HS : Hid (M.sine n d = M.sn d (n % d)) := hid rfl
  have HF : Hid (M.sn (d * 2) (n % d * 2) = M.sn d (n % d)) := hid (M.sn_finer _ (by omega))
  rw [HS.out]
  generalize n % d = m at *
  generalize hC : n.tmod d = c at *
  have hC1 : -4194304 ≤ c := by omega
  have hC2 : c < 4194304 := by omega
  obtain ⟨m0, m1⟩ := hb
  by_cases h2 : d ≤ 2 * m
  · by_cases ho : d % 2 = 1
    · have e : M.sn d m = M.sn (2 * d) (if 2 * c < 0 then 2 * c + 2 * d else 2 * c) := by
        rw [← HF.out, Int.mul_comm d 2]; congr 1; split <;> omega
      rw [e]
      rcases hc with ⟨c0, c1⟩ | ⟨c0, c1⟩
      all_goals
        go_enter Tryz.func193, Tryz.ntmps193
        go_wp2_with (go_at_call 221; refine (of_any _ _ d _ (by omega) (by omega) (by omega) (by omega) (by omega)).mono ?_; rintro e w' ⟨rfl, rfl⟩)
        go_ret
        exact ⟨rfl, rfl⟩
    · rw [← sg_hi (h := d / 2) d0 (by omega) h2 m1]
      rcases hc with ⟨c0, c1⟩ | ⟨c0, c1⟩
      all_goals
        go_enter Tryz.func193, Tryz.ntmps193
        go_wp2_with (go_at_call 222; refine (signed_any _ _ _ _ (by omega) (by omega) (by omega) (by omega)).mono ?_; rintro e w' ⟨rfl, rfl⟩)
        go_ret
        exact ⟨by simp [*], rfl⟩
  · rw [← sg_lo d0 m0 (by omega)]
    rcases hc with ⟨c0, c1⟩ | ⟨c0, c1⟩
    all_goals
      go_enter Tryz.func193, Tryz.ntmps193
      go_wp2_with (go_at_call 222; refine (signed_any _ _ _ _ (by omega) (by omega) (by omega) (by omega)).mono ?_; rintro e w' ⟨rfl, rfl⟩)
      go_ret
      exact ⟨by simp [*], rfl⟩

end Wave
end Go.Proofs.YtcaifpjbjghhaaaGreatDoor

/-
  Walks of the laws of layer 3 (wave): sines of any angle, and their turns. Conditions: each number fits its kind; the polynomial's numbers stand as their initialiser lays them.
-/
namespace Go.Proofs.YtcaifpjbjghhaaaGreatDoor
open Go.RowKit
namespace Wave

theorem cos_tmod (n : Int) {d : Int} (d0 : 1 ≤ d) : M.sine (4 * n.tmod d + d) (4 * d) = M.cosine n d := by
  unfold M.cosine
  rcases tmod_cases n d0 with ⟨_, h⟩ | ⟨_, h⟩
  · rw [h]
  · rw [← h, ← M.sine_turns (4 * n.tmod d + d) 1]
    congr 1; omega

theorem refCosine_all (n d : Int) (w : World) :
    Calls Tryz.prog 194 #[.int .i64 n, .int .i64 d] w fun e w' => e = .returned (.tuple #[.int .i16 (M.cosineI n d), .int .i64 (M.waveE d)]) ∧ w' = w := by
  rcases (by omega : d < 1 ∨ 1048576 < d ∨ (1 ≤ d ∧ d ≤ 1048576)) with h | h | ⟨d0, d1⟩
  · have e1 : M.cosineI n d = 0 := if_neg (by omega)
    have e2 : M.waveE d = 1 := if_neg (by omega)
    rw [e1, e2]
    go_enter Tryz.func194, Tryz.ntmps194
    go_wp2
    go_ret2
    exact ⟨rfl, rfl⟩
  · have e1 : M.cosineI n d = 0 := if_neg (by omega)
    have e2 : M.waveE d = 1 := if_neg (by omega)
    have h' : ¬ d < 1 := by omega
    rw [e1, e2]
    go_enter Tryz.func194, Tryz.ntmps194
    go_wp2
    go_ret2
    exact ⟨rfl, rfl⟩
  · have e1 : M.cosineI n d = M.sine (4 * n.tmod d + d) (4 * d) := by rw [cos_tmod n d0]; exact if_pos ⟨d0, d1⟩
    have e2 : M.waveE d = 0 := if_pos ⟨d0, d1⟩
    rw [e1, e2]
    have hd0 : ¬ d = 0 := by omega
    have hc := tmod_cases n d0
    have hb := M.mod_bd n d0
    generalize hC : n.tmod d = c at *
    generalize n % d = m at *
    have c0 : -1048576 ≤ c := by omega
    have c1 : c ≤ 1048576 := by omega
    clear hc hb e1
    go_enter Tryz.func194, Tryz.ntmps194
    go_wp2_with (go_at_call 193; refine (Of_any _ _ _ (by omega) (by omega)).mono ?_; rintro e w' ⟨rfl, rfl⟩)
    go_ret2
    exact ⟨rfl, rfl⟩

end Wave
end Go.Proofs.YtcaifpjbjghhaaaGreatDoor

