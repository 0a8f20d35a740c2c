/-
  Contracts of a pad's writing calls (package bits). Conditions: the object stands in memory as New and Open make it.
-/
import Derived.Test.YtafjepneekomiaaBitsWalks
namespace Go.Proofs.Ytafjepneekomiaa
set_option linter.unusedVariables false
open Go.RowKit
namespace Bits

/-- an object in block p: a pad (type 62) or an eye (type 67) -/
def Own (ty : TypeId) (w : World) (p b c d n : Nat) (B : Nat → Bool) (h t : Nat) : Prop :=
  Blk w p #[.pointer (some ⟨b, 0, none⟩), .func (.func 35) #[] #[.pointer (some ⟨c, 0, none⟩)], .func (.func 36) #[] #[.pointer (some ⟨c, 0, none⟩)]] ty ∧
  Blk w c #[.pointer (some ⟨b, 0, none⟩)] 56 ∧ Core w b d n B h t

theorem Own.drewN {ty : TypeId} {w : World} {p b c d n : Nat} {B : Nat → Bool} {h t : Nat} (k : Own ty w p b c d n B h t) (m : Nat) : Own ty (w.drewN m) p b c d n B h t := k
theorem Own.ne {ty : TypeId} {w : World} {p b c d n : Nat} {B : Nat → Bool} {h t : Nat} (k : Own ty w p b c d n B h t) (h1 : ty ≠ 58) (h2 : ty ≠ 5) : p ≠ b ∧ c ≠ b ∧ (0 < n → p ≠ d ∧ c ≠ d ∧ b ≠ d) := by
  obtain ⟨h3, h4, s, h5, a, cap, _, hd, _⟩ := k
  refine ⟨h3.ne h5 h1, h4.ne h5 (by decide), fun hn => ?_⟩
  obtain ⟨_, cur, hb, _⟩ := hd hn
  exact ⟨h3.ne hb h2, h4.ne hb (by decide), h5.ne hb (by decide)⟩
theorem Own.but {ty : TypeId} {w w' : World} {p b c d n x y : Nat} {B : Nat → Bool} {h t : Nat} (k : Own ty w p b c d n B h t) (u : But x y w w') (hx : p ≠ x ∧ b ≠ x ∧ c ≠ x ∧ d ≠ x) (hy : p ≠ y ∧ b ≠ y ∧ c ≠ y ∧ d ≠ y) : Own ty w' p b c d n B h t :=
  ⟨u.blk k.1 hx.1 hy.1, u.blk k.2.1 hx.2.2.1 hy.2.2.1, k.2.2.but u hx.2.1 hy.2.1 hx.2.2.2 hy.2.2.2⟩

theorem refusalP (p b c d n h t v : Nat) (k : Int) (B : Nat → Bool) (w : World) (ho : Own 62 w p b c d n B h t) (hn : n ≤ 512) (hl : h + t ≤ 8 * n) (hv : v < 4294967296) :
    Calls Try.prog 26 #[.pointer (some ⟨p, 0, none⟩), .int .u32 v, .int .i64 k] w fun e w' => e = .returned (.int .i64 (M.mayv (8 * n) h t v k)) ∧ ∃ m, w' = w.drewN m := by
  obtain ⟨h1, h2, h3⟩ := ho
  have c0 : w.cell? ⟨p, 0, none⟩ = some (.pointer (some ⟨b, 0, none⟩)) := h1.cell rfl
  unfold M.mayv
  by_cases hk : 0 ≤ k ∧ k ≤ 32
  · have hd : decide (0 ≤ k ∧ k ≤ 32) = true := decide_eq_true hk
    obtain ⟨k0, k1⟩ := hk
    obtain ⟨κ, rfl⟩ := Int.eq_ofNat_of_zero_le k0
    obtain ⟨z, e1, hze⟩ : ∃ z : Nat, (v : Int) / 2 ^ κ = z ∧ z = v / 2 ^ κ := ⟨v / 2 ^ κ, by simp, rfl⟩
    by_cases hz : 2 ^ κ ≤ v
    · rw [if_pos (by simp; omega)]
      have hq : z ≠ 0 := by
        have := Nat.div_pos hz (Nat.two_pow_pos κ); omega
      clear hze hz
      go_enter Try.func26, Try.ntmps26
      go_wp2_with (go_at_call 37; refine (isCount_any _ _).mono ?_; rintro e w' ⟨rfl, rfl⟩; rw [hd])
      go_ret
      exact ⟨rfl, 0, rfl⟩
    · rw [if_neg (by simp; omega)]
      have hq : z = 0 := hze.trans (Nat.div_eq_of_lt (by omega))
      subst hq
      clear hze hz
      obtain ⟨x, hx⟩ : ∃ x, x = (if ((8 * n : Nat) : Int) - h - t < κ then (50 : Int) else 0) := ⟨_, rfl⟩
      rw [← hx]
      go_enter Try.func26, Try.ntmps26
      go_wp2_with (first
        | (go_at_call 37; refine (isCount_any _ _).mono ?_; rintro e w' ⟨rfl, rfl⟩; rw [hd])
        | (go_at_call 38; refine (room_any b d n h t B _ _ h3 hn hl).mono ?_; rw [← hx]; clear hx; rintro e w' ⟨rfl, m, rfl⟩))
      go_ret
      exact ⟨rfl, _, rfl⟩
  · have hd : decide (0 ≤ k ∧ k ≤ 32) = false := decide_eq_false hk
    rw [if_pos (by omega)]
    go_enter Try.func26, Try.ntmps26
    go_wp2_with (go_at_call 37; refine (isCount_any _ _).mono ?_; rintro e w' ⟨rfl, rfl⟩; rw [hd])
    go_ret
    exact ⟨rfl, 0, rfl⟩

theorem refusalE (p b c d n h t : Nat) (k : Int) (B : Nat → Bool) (w : World) (ho : Own 67 w p b c d n B h t) (hn : n ≤ 512) (hl : h + t ≤ 8 * n) :
    Calls Try.prog 32 #[.pointer (some ⟨p, 0, none⟩), .int .i64 k] w fun e w' => e = .returned (.int .i64 (M.may (8 * n) h t k)) ∧ ∃ m, w' = w.drewN m := by
  obtain ⟨h1, h2, h3⟩ := ho
  have c0 : w.cell? ⟨p, 0, none⟩ = some (.pointer (some ⟨b, 0, none⟩)) := h1.cell rfl
  unfold M.may
  by_cases hk : 0 ≤ k ∧ k ≤ 32
  · have hd : decide (0 ≤ k ∧ k ≤ 32) = true := decide_eq_true hk
    rw [if_neg (by omega)]
    obtain ⟨x, hx⟩ : ∃ x, x = (if ((8 * n : Nat) : Int) - h - t < k then (50 : Int) else 0) := ⟨_, rfl⟩
    rw [← hx]
    go_enter Try.func32, Try.ntmps32
    go_wp2_with (first
      | (go_at_call 37; refine (isCount_any _ _).mono ?_; rintro e w' ⟨rfl, rfl⟩; rw [hd])
      | (go_at_call 38; refine (room_any b d n h t B _ _ h3 hn hl).mono ?_; rw [← hx]; clear hx; rintro e w' ⟨rfl, m, rfl⟩))
    go_ret
    exact ⟨rfl, _, rfl⟩
  · have hd : decide (0 ≤ k ∧ k ≤ 32) = false := decide_eq_false hk
    rw [if_pos (by omega)]
    go_enter Try.func32, Try.ntmps32
    go_wp2_with (go_at_call 37; refine (isCount_any _ _).mono ?_; rintro e w' ⟨rfl, rfl⟩; rw [hd])
    go_ret
    exact ⟨rfl, 0, rfl⟩

theorem mayv_ok {N h t v : Nat} {k : Int} (e : M.mayv N h t v k = 0) : ∃ κ : Nat, k = κ ∧ κ ≤ 32 ∧ v < 2 ^ κ ∧ h + t + κ ≤ N := by
  unfold M.mayv at e
  split at e
  · cases e
  · split at e
    · cases e
    · next h1 h2 =>
      refine ⟨k.toNat, by omega, by omega, ?_, by omega⟩
      simp only [not_or] at h1
      omega
theorem may_ok {N h t : Nat} {k : Int} (e : M.may N h t k = 0) : ∃ κ : Nat, k = κ ∧ κ ≤ 32 ∧ h + t + κ ≤ N := by
  unfold M.may at e
  split at e
  · cases e
  · split at e
    · cases e
    · exact ⟨k.toNat, by omega, by omega, by omega⟩
theorem shr_lt {v : Nat} (hv : v < 4294967296) (j : Nat) : v / 2 ^ j < 4294967296 := Nat.lt_of_le_of_lt (Nat.div_le_self _ _) hv
theorem shr_bit (v j : Nat) : (v / 2 ^ j).testBit 0 = v.testBit j := by rw [Nat.testBit_div_two_pow, Nat.zero_add]

set_option maxRecDepth 100000 in
theorem FrontP_err (p b c d n h t v : Nat) (k : Int) (B : Nat → Bool) (w : World) (ho : Own 62 w p b c d n B h t) (hn : n ≤ 512) (hl : h + t ≤ 8 * n) (hv : v < 4294967296) (he : M.mayv (8 * n) h t v k ≠ 0) :
    Calls Try.prog 11 #[.pointer (some ⟨p, 0, none⟩), .int .u32 v, .int .i64 k] w fun e w' => e = .returned (.int .i64 (M.mayv (8 * n) h t v k)) ∧ ∃ m, w' = w.drewN m := by
  go_enter Try.func11, Try.ntmps11
  go_wp2_with (go_at_call 26; refine (refusalP p b c d n h t v k B _ ho hn hl hv).mono ?_; rintro e w' ⟨rfl, m, rfl⟩)
  go_ret
  exact ⟨rfl, _, rfl⟩

set_option maxRecDepth 100000 in
theorem BackP_err (p b c d n h t v : Nat) (k : Int) (B : Nat → Bool) (w : World) (ho : Own 62 w p b c d n B h t) (hn : n ≤ 512) (hl : h + t ≤ 8 * n) (hv : v < 4294967296) (he : M.mayv (8 * n) h t v k ≠ 0) :
    Calls Try.prog 10 #[.pointer (some ⟨p, 0, none⟩), .int .u32 v, .int .i64 k] w fun e w' => e = .returned (.int .i64 (M.mayv (8 * n) h t v k)) ∧ ∃ m, w' = w.drewN m := by
  go_enter Try.func10, Try.ntmps10
  go_wp2_with (go_at_call 26; refine (refusalP p b c d n h t v k B _ ho hn hl hv).mono ?_; rintro e w' ⟨rfl, m, rfl⟩)
  go_ret
  exact ⟨rfl, _, rfl⟩

set_option maxRecDepth 100000 in
theorem FrontP_ok (p b c d n h t v k : Nat) (B : Nat → Bool) (w : World) (ho : Own 62 w p b c d n B h t) (hn : n ≤ 512) (hl : h + t + k ≤ 8 * n) (hv : v < 4294967296) (he : M.mayv (8 * n) h t v k = 0)
    (hk : k ≤ 32) (hz : ∀ j, h ≤ j → j < 8 * n - t → B j = false) :
    Calls Try.prog 11 #[.pointer (some ⟨p, 0, none⟩), .int .u32 v, .int .i64 k] w fun e w' => e = .returned (.int .i64 0) ∧ But b d w w' ∧ Own 62 w' p b c d n (M.pf B h v k k) (h + k) t := by
  go_enter Try.func11, Try.ntmps11
  go_wp2_with (go_at_call 26; refine (refusalP p b c d n h t v k B _ ho hn (by omega) hv).mono ?_; rintro e w' ⟨rfl, m, rfl⟩; rw [he])
  go_loopw [8] (fun j wr => ∃ m : Nat, m ≤ k ∧ j = .int .i64 ((k : Int) - 1 - m) ∧ But b d w wr ∧ Own 62 wr p b c d n (M.pf B h v k m) (h + m) t) (fun j _ => (intOf j + 1).toNat)
  case atStart => exact ⟨0, by omega, by go_num, (But.refl b d w).drewN _, ho.drewN _⟩
  case round =>
    obtain ⟨m, hm, rfl, hbut, hO⟩ := hrel
    by_cases hlt : m < k
    · obtain ⟨g1, g2, g3⟩ := hO
      obtain ⟨pb, cb, hd0⟩ := Own.ne (ty := 62) ⟨g1, g2, g3⟩ (by decide) (by decide)
      obtain ⟨pd, cd, bd⟩ := hd0 (by omega)
      have k0 : wr.cell? ⟨p, 0, none⟩ = some (.pointer (some ⟨b, 0, none⟩)) := g1.cell rfl
      have k1 : wr.cell? ⟨p, 1, none⟩ = some (.func (.func 35) #[] #[.pointer (some ⟨c, 0, none⟩)]) := g1.cell rfl
      have hj : ((k : Int) - 1 - m).toNat = k - 1 - m := by omega
      have j0 : 0 ≤ (k : Int) - 1 - m := by omega
      have j1 : (k : Int) - 1 - m ≤ 32 := by omega
      obtain ⟨z, e1, hze⟩ : ∃ z : Nat, (v : Int) / 2 ^ (k - 1 - m) = z ∧ z = v / 2 ^ (k - 1 - m) := ⟨_, by simp, rfl⟩
      have zl : z < 4294967296 := by rw [hze]; exact shr_lt hv _
      have zb : z.testBit 0 = v.testBit (k - 1 - m) := by rw [hze, shr_bit]
      clear hze
      have hz' : M.pf B h v k m (h + m) = false := by rw [M.pf_at, if_neg (by omega)]; exact hz _ (by omega) (by omega)
      go_wp2
      go_region_held3 (fun w' => w'.cell? ⟨p, 0, none⟩ = some (.pointer (some ⟨b, 0, none⟩)) ∧ w'.cell? ⟨p, 1, none⟩ = some (.func (.func 35) #[] #[.pointer (some ⟨c, 0, none⟩)]))
        (first | exact ⟨k0, k1⟩ | exact ⟨k0', k1'⟩ | exact ⟨k0'', k1''⟩)
        (first
          | (go_at_call 35; refine (front_any b c d n (h + m) t _ _ (by exact g2) (by exact g3) hn (by omega)).mono ?_; rintro e w1 ⟨rfl, hb1, hc1⟩
             have k0' : w1.cell? ⟨p, 0, none⟩ = some (.pointer (some ⟨b, 0, none⟩)) := (hb1.blk g1 pb pb).cell rfl
             have k1' : w1.cell? ⟨p, 1, none⟩ = some (.func (.func 35) #[] #[.pointer (some ⟨c, 0, none⟩)]) := (hb1.blk g1 pb pb).cell rfl)
          | (go_at_call 27; refine (set_any b d n (h + m + 1) t (h + m) z _ _ hc1 hn (by omega) zl hz').mono ?_; rintro e w2 ⟨rfl, hb2, hc2⟩
             have k0'' : w2.cell? ⟨p, 0, none⟩ = some (.pointer (some ⟨b, 0, none⟩)) := (hb2.blk (hb1.blk g1 pb pb) pd pd).cell rfl
             have k1'' : w2.cell? ⟨p, 1, none⟩ = some (.func (.func 35) #[] #[.pointer (some ⟨c, 0, none⟩)]) := (hb2.blk (hb1.blk g1 pb pb) pd pd).cell rfl))
      go_wp2
      go_roundw
      case rel =>
        refine ⟨m + 1, by omega, by go_num, (hbut.drew.trans (hb1.mono (.inl rfl) (.inl rfl))).trans (hb2.mono (.inr rfl) (.inr rfl)), hb2.blk (hb1.blk g1 pb pb) pd pd, hb2.blk (hb1.blk g2 cb cb) cd cd, ?_⟩
        rw [zb] at hc2
        exact hc2
      case measure => simp [intOf]; omega
    · obtain rfl : m = k := by omega
      go_wp2
      go_ret
      exact ⟨rfl, hbut, hO⟩

set_option maxRecDepth 100000 in
theorem BackP_ok (p b c d n h t v k : Nat) (B : Nat → Bool) (w : World) (ho : Own 62 w p b c d n B h t) (hn : n ≤ 512) (hl : h + t + k ≤ 8 * n) (hv : v < 4294967296) (he : M.mayv (8 * n) h t v k = 0)
    (hk : k ≤ 32) (hz : ∀ j, h ≤ j → j < 8 * n - t → B j = false) :
    Calls Try.prog 10 #[.pointer (some ⟨p, 0, none⟩), .int .u32 v, .int .i64 k] w fun e w' => e = .returned (.int .i64 0) ∧ But b d w w' ∧ Own 62 w' p b c d n (M.pb B (8 * n) t v k) h (t + k) := by
  go_enter Try.func10, Try.ntmps10
  go_wp2_with (go_at_call 26; refine (refusalP p b c d n h t v k B _ ho hn (by omega) hv).mono ?_; rintro e w' ⟨rfl, m, rfl⟩; rw [he])
  go_loopw [17] (fun j wr => ∃ m : Nat, m ≤ k ∧ j = .int .i64 m ∧ But b d w wr ∧ Own 62 wr p b c d n (M.pb B (8 * n) t v m) h (t + m)) (fun j _ => k - (intOf j).toNat)
  case atStart => exact ⟨0, by omega, rfl, (But.refl b d w).drewN _, ho.drewN _⟩
  case round =>
    obtain ⟨m, hm, rfl, hbut, hO⟩ := hrel
    by_cases hlt : m < k
    · obtain ⟨g1, g2, g3⟩ := hO
      obtain ⟨pb, cb, hd0⟩ := Own.ne (ty := 62) ⟨g1, g2, g3⟩ (by decide) (by decide)
      obtain ⟨pd, cd, bd⟩ := hd0 (by omega)
      have k0 : wr.cell? ⟨p, 0, none⟩ = some (.pointer (some ⟨b, 0, none⟩)) := g1.cell rfl
      have k1 : wr.cell? ⟨p, 2, none⟩ = some (.func (.func 36) #[] #[.pointer (some ⟨c, 0, none⟩)]) := g1.cell rfl
      have j1 : (m : Int) ≤ 32 := by omega
      obtain ⟨z, e1, hze⟩ : ∃ z : Nat, (v : Int) / 2 ^ m = z ∧ z = v / 2 ^ m := ⟨_, by simp, rfl⟩
      have zl : z < 4294967296 := by rw [hze]; exact shr_lt hv _
      have zb : z.testBit 0 = v.testBit m := by rw [hze, shr_bit]
      clear hze
      have hz' : M.pb B (8 * n) t v m (8 * n - (t + m + 1)) = false := by rw [M.pb_at _ _ _ _ _ _ (by omega), if_neg (by omega)]; exact hz _ (by omega) (by omega)
      go_wp2
      go_region_held3 (fun w' => w'.cell? ⟨p, 0, none⟩ = some (.pointer (some ⟨b, 0, none⟩)) ∧ w'.cell? ⟨p, 2, none⟩ = some (.func (.func 36) #[] #[.pointer (some ⟨c, 0, none⟩)]))
        (first | exact ⟨k0, k1⟩ | exact ⟨k0', k1'⟩ | exact ⟨k0'', k1''⟩)
        (first
          | (go_at_call 36; refine (back_any b c d n h (t + m) _ _ (by exact g2) (by exact g3) hn (by omega)).mono ?_; rintro e w1 ⟨rfl, hb1, hc1⟩
             have k0' : w1.cell? ⟨p, 0, none⟩ = some (.pointer (some ⟨b, 0, none⟩)) := (hb1.blk g1 pb pb).cell rfl
             have k1' : w1.cell? ⟨p, 2, none⟩ = some (.func (.func 36) #[] #[.pointer (some ⟨c, 0, none⟩)]) := (hb1.blk g1 pb pb).cell rfl)
          | (go_at_call 27; refine (set_any b d n h (t + m + 1) (8 * n - (t + m + 1)) z _ _ hc1 hn (by omega) zl hz').mono ?_; rintro e w2 ⟨rfl, hb2, hc2⟩
             have k0'' : w2.cell? ⟨p, 0, none⟩ = some (.pointer (some ⟨b, 0, none⟩)) := (hb2.blk (hb1.blk g1 pb pb) pd pd).cell rfl
             have k1'' : w2.cell? ⟨p, 2, none⟩ = some (.func (.func 36) #[] #[.pointer (some ⟨c, 0, none⟩)]) := (hb2.blk (hb1.blk g1 pb pb) pd pd).cell rfl))
      go_wp2
      go_roundw
      case rel =>
        refine ⟨m + 1, by omega, by go_num, (hbut.drew.trans (hb1.mono (.inl rfl) (.inl rfl))).trans (hb2.mono (.inr rfl) (.inr rfl)), hb2.blk (hb1.blk g1 pb pb) pd pd, hb2.blk (hb1.blk g2 cb cb) cd cd, ?_⟩
        rw [zb] at hc2
        exact hc2
      case measure => simp [intOf]; omega
    · obtain rfl : m = k := by omega
      go_wp2
      go_ret
      exact ⟨rfl, hbut, hO⟩

end Bits
end Go.Proofs.Ytafjepneekomiaa
