import Derived.Test.YtcaifpjbjghhaaaGreatDoorProg
import Derived.Deep.RegionHeld3
import Derived.Deep.Quiet
import Derived.Deep.QuietTactic
import Derived.Test.YtcaifpjbjghhaaaGreatDoorSubP01
import Derived.Test.YtcaifpjbjghhaaaGreatDoorSubP02
/-
  Contracts of the small functions of package bits. Conditions: the block's three cells and its bytes stand as told.
-/
namespace Go.Proofs.YtcaifpjbjghhaaaGreatDoor
set_option linter.unusedVariables false
open Go.RowKit
namespace Bits

def Data (w : World) (s : Value) (d n : Nat) (B : Nat → Bool) : Prop :=
  ∃ (a : Option Addr) (cap : Nat), s = .slice a n cap ∧ (0 < n → a = some ⟨d, 0, none⟩ ∧ ∃ cur, Blk w d cur 5 ∧ ∀ i, i < n → cur[i]? = some (.int .u8 (M.byteOf B i))) ∧ (a = none → n = 0 ∧ cap = 0)
def Core (w : World) (b d n : Nat) (B : Nat → Bool) (h t : Nat) : Prop :=
  ∃ s, Blk w b #[s, .int .i64 h, .int .i64 t] 212 ∧ Data w s d n B

theorem Data.drewN {w : World} {s : Value} {d n : Nat} {B : Nat → Bool} (h : Data w s d n B) (m : Nat) : Data (w.drewN m) s d n B := h
theorem Core.drewN {w : World} {b d n : Nat} {B : Nat → Bool} {h t : Nat} (k : Core w b d n B h t) (m : Nat) : Core (w.drewN m) b d n B h t := k
theorem Data.but {w w' : World} {s : Value} {d n : Nat} {B : Nat → Bool} {x y : Nat} (h : Data w s d n B) (k : But x y w w') (hx : d ≠ x) (hy : d ≠ y) : Data w' s d n B := by
  obtain ⟨a, cap, hs, hd, hnil⟩ := h
  refine ⟨a, cap, hs, fun hn => ?_, hnil⟩
  obtain ⟨ha, cur, hb, hc⟩ := hd hn
  exact ⟨ha, cur, k.blk hb hx hy, hc⟩
theorem Core.but {w w' : World} {b d n : Nat} {B : Nat → Bool} {h t x y : Nat} (c : Core w b d n B h t) (k : But x y w w') (bx : b ≠ x) (bxy : b ≠ y) (hx : d ≠ x) (hy : d ≠ y) : Core w' b d n B h t := by
  obtain ⟨s, hb, hd⟩ := c
  exact ⟨s, k.blk hb bx bxy, hd.but k hx hy⟩

theorem shiftOf_any (i : Int) (w : World) (h0 : 0 ≤ i) (h1 : i < 4096) :
    Calls Tryz.prog 212 #[.int .i64 i] w fun e w' => e = .returned (.int .i64 (7 - i % 8)) ∧ w' = w := by
  go_enter Tryz.func212, Tryz.ntmps212
  go_wp2
  go_ret
  refine ⟨?_, rfl⟩
  go_num

theorem isCount_any (k : Int) (w : World) :
    Calls Tryz.prog 210 #[.int .i64 k] w fun e w' => e = .returned (.bool (decide (0 ≤ k ∧ k ≤ 32))) ∧ w' = w := by
  by_cases h0 : 0 ≤ k
  · by_cases h1 : k ≤ 32
    · go_enter Tryz.func210, Tryz.ntmps210
      go_wp2
      go_ret
      refine ⟨?_, rfl⟩; simp; omega
    · go_enter Tryz.func210, Tryz.ntmps210
      go_wp2
      go_ret
      refine ⟨?_, rfl⟩; simp; omega
  · go_enter Tryz.func210, Tryz.ntmps210
    go_wp2
    go_ret
    refine ⟨?_, rfl⟩; simp; omega

theorem size_any (b n cap : Nat) (a : Option Addr) (x y : Value) (w : World) (hb : Blk w b #[.slice a n cap, x, y] 212) (hn : n ≤ 512) :
    Calls Tryz.prog 173 #[.pointer (some ⟨b, 0, none⟩)] w fun e w' => e = .returned (.int .i64 (8 * n : Nat)) ∧ w' = w := by
  have c0 : w.cell? ⟨b, 0, none⟩ = some (.slice a n cap) := hb.cell rfl
  go_enter Tryz.func173, Tryz.ntmps173
  go_wp2
  go_ret
  refine ⟨?_, rfl⟩
  go_num

theorem left_any (b d n h t : Nat) (B : Nat → Bool) (w : World) (hb : Core w b d n B h t) (hn : n ≤ 512) (hl : h + t ≤ 8 * n) :
    Calls Tryz.prog 243 #[.pointer (some ⟨b, 0, none⟩)] w fun e w' => e = .returned (.int .i64 ((8 * n : Nat) - h - t : Int)) ∧ ∃ m, w' = w.drewN m := by
  obtain ⟨s, hB, a, cap, rfl, _⟩ := hb
  have c1 : w.cell? ⟨b, 1, none⟩ = some (.int .i64 h) := hB.cell rfl
  have c2 : w.cell? ⟨b, 2, none⟩ = some (.int .i64 t) := hB.cell rfl
  go_enter Tryz.func243, Tryz.ntmps243
  go_wp2
  go_quiet (first | (go_at_call 173; refine Calls.quiet_of_same (size_any b n cap a _ _ _ (by exact hB) hn)))
  go_wp2
  go_ret
  refine ⟨?_, _, rfl⟩
  rw [wrap_id (8 * (n : Int) - h) (by omega) (by omega), wrap_id _ (by omega) (by omega)]
  go_num

theorem room_any (b d n h t : Nat) (B : Nat → Bool) (k : Int) (w : World) (hb : Core w b d n B h t) (hn : n ≤ 512) (hl : h + t ≤ 8 * n) :
    Calls Tryz.prog 211 #[.pointer (some ⟨b, 0, none⟩), .int .i64 k] w fun e w' => e = .returned (.int .i64 (if ((8 * n : Nat) : Int) - h - t < k then 50 else 0)) ∧ ∃ m, w' = w.drewN m := by
  by_cases hk : ((8 * n : Nat) : Int) - h - t < k
  · rw [if_pos hk]
    go_enter Tryz.func211, Tryz.ntmps211
    go_wp2_with (go_at_call 243; refine (left_any b d n h t B _ hb hn hl).mono ?_; rintro e w' ⟨rfl, m, rfl⟩)
    go_ret
    exact ⟨rfl, _, rfl⟩
  · rw [if_neg hk]
    go_enter Tryz.func211, Tryz.ntmps211
    go_wp2_with (go_at_call 243; refine (left_any b d n h t B _ hb hn hl).mono ?_; rintro e w' ⟨rfl, m, rfl⟩)
    go_ret
    exact ⟨rfl, _, rfl⟩

theorem Core.front {w : World} {b d n : Nat} {B : Nat → Bool} {h t : Nat} (k : Core w b d n B h t) (x : Int) (hx : x = ((h + 1 : Nat) : Int)) : Core (w.setCell ⟨b, 1, none⟩ (.int .i64 x)) b d n B (h + 1) t := by
  subst hx
  obtain ⟨s, hB, a, cap, hs, hd, hnil⟩ := k
  refine ⟨s, hB.set 1 _, a, cap, hs, fun hn => ?_, hnil⟩
  obtain ⟨ha, cur, hb, hc⟩ := hd hn
  exact ⟨ha, cur, hb.set_ne (hb.ne hB (by decide)) _, hc⟩
theorem front_any (b c d n h t : Nat) (B : Nat → Bool) (w : World) (hc : Blk w c #[.pointer (some ⟨b, 0, none⟩)] 210) (hb : Core w b d n B h t) (hn : n ≤ 512) (hl : h + t < 8 * n) :
    Calls Tryz.prog 171 #[.pointer (some ⟨c, 0, none⟩)] w fun e w' => e = .returned (.int .i64 h) ∧ But b b w w' ∧ Core w' b d n B (h + 1) t := by
  have hcore := hb
  obtain ⟨s, hB, a, cap, rfl, _⟩ := hb
  have hcb : c ≠ b := hc.ne hB (by decide)
  have c0 : w.cell? ⟨c, 0, none⟩ = some (.pointer (some ⟨b, 0, none⟩)) := hc.cell rfl
  have c1 : w.cell? ⟨b, 1, none⟩ = some (.int .i64 h) := hB.cell rfl
  have f1 := hB.free 1
  go_enter Tryz.func171, Tryz.ntmps171
  go_wp2
  go_ret
  exact ⟨rfl, (But.refl b b w).set (.inl rfl) _, hcore.front _ (by omega)⟩

theorem cell_of {w : World} {s : Value} {d n : Nat} {B : Nat → Bool} (h : Data w s d n B) {i : Nat} (hi : i < 8 * n) : (∃ cap, s = .slice (some ⟨d, 0, none⟩) n cap) ∧ w.cell? ⟨d, i / 8, none⟩ = some (.int .u8 (M.byteOf B (i / 8))) ∧ w.frozen? ⟨d, i / 8, none⟩ = false := by
  obtain ⟨a, cap, rfl, hd, hnil⟩ := h
  obtain ⟨rfl, cur, hb, hc⟩ := hd (by omega)
  exact ⟨⟨cap, rfl⟩, hb.cell (hc _ (by omega)), hb.free _⟩

theorem at_any (b d n h t i : Nat) (B : Nat → Bool) (w : World) (hb : Core w b d n B h t) (hn : n ≤ 512) (hi : i < 8 * n) :
    Calls Tryz.prog 186 #[.pointer (some ⟨b, 0, none⟩), .int .i64 i] w fun e w' => e = .returned (.int .u32 (B i).toNat) ∧ ∃ m, w' = w.drewN m := by
  obtain ⟨s, hB, hD⟩ := hb
  obtain ⟨⟨cap, rfl⟩, cd, _⟩ := cell_of hD hi
  have c0 : w.cell? ⟨b, 0, none⟩ = some (.slice (some ⟨d, 0, none⟩) n cap) := hB.cell rfl
  have q0 : IntKind.i64.wrap ((i : Int) / 8) = (i : Int) / 8 := wrap_id _ (by omega) (by omega)
  have q1 : ((i : Int) / 8).toNat = i / 8 := by omega
  have q2 : (0 : Int) ≤ (i : Int) / 8 := by omega
  have q3 : (i : Int) / 8 < n := by omega
  have q4 : (0 : Int) ≤ i := by omega
  have e : (7 - (i : Int) % 8).toNat = 7 - i % 8 := by omega
  have q5 : (0 : Int) ≤ 7 - (i : Int) % 8 := by omega
  have q6 : 7 - (i : Int) % 8 ≤ 8 := by omega
  have hlt := M.byteOf_lt B (i / 8)
  have hat := M.at_byte B i
  go_enter Tryz.func186, Tryz.ntmps186
  go_wp2
  go_quiet (first | (go_at_call 212; refine Calls.quiet_of_same (shiftOf_any _ _ (by omega) (by omega))))
  go_wp2
  go_ret
  refine ⟨?_, _, rfl⟩
  show Ending.returned (Value.int IntKind.u32 (bits BinOp.and IntKind.u32 (IntKind.u32.wrap ((M.byteOf B (i / 8) : Int) / 2 ^ (7 - i % 8))) 1)) = _
  rw [M.at_word _ _ hlt, hat]

theorem Core.or {w : World} {b d n : Nat} {B : Nat → Bool} {h t i : Nat} (k : Core w b d n B h t) (hi : i < 8 * n) (x : Int) (hx : x = ((M.byteOf (M.upd B i true) (i / 8) : Nat) : Int)) : Core (w.setCell ⟨d, i / 8, none⟩ (.int .u8 x)) b d n (M.upd B i true) h t := by
  subst hx
  obtain ⟨s, hB, a, cap, hs, hd, hnil⟩ := k
  obtain ⟨ha, cur, hb, hc⟩ := hd (by omega)
  have hne : b ≠ d := hB.ne hb (by decide)
  refine ⟨s, hB.set_ne hne _, a, cap, hs, fun hn => ⟨ha, _, hb.set _ _, fun j hj => ?_⟩, hnil⟩
  have hsz : j < cur.size := (Array.getElem?_eq_some_iff.1 (hc j hj)).1
  rw [Array.getElem?_setIfInBounds]
  split
  · next e => subst e; rw [if_pos hsz]
  · next e => rw [hc j hj, M.byte_ne _ _ _ _ (by omega)]

theorem set_any (b d n h t i : Nat) (v : Nat) (B : Nat → Bool) (w : World) (hb : Core w b d n B h t) (hn : n ≤ 512) (hi : i < 8 * n) (hv : v < 4294967296) (h0 : B i = false) :
    Calls Tryz.prog 181 #[.pointer (some ⟨b, 0, none⟩), .int .i64 i, .int .u32 v] w fun e w' => e = .returned (.tuple #[]) ∧ But d d w w' ∧ Core w' b d n (M.upd B i (v.testBit 0)) h t := by
  have hx : bits BinOp.and IntKind.u32 (v : Int) 1 = ((v % 2 : Nat) : Int) := by rw [M.and_one_u32 _ (by omega) (by omega)]; omega
  have htb : v.testBit 0 = decide (v % 2 = 1) := by rw [Nat.testBit_zero]
  have hcore := hb
  by_cases hv1 : v % 2 = 1
  · rw [hv1] at hx
    rw [htb, decide_eq_true hv1]
    obtain ⟨s, hB, hD⟩ := hb
    have hD' := hD
    obtain ⟨⟨cap, rfl⟩, cd, fd⟩ := cell_of hD hi
    have c0 : w.cell? ⟨b, 0, none⟩ = some (.slice (some ⟨d, 0, none⟩) n cap) := hB.cell rfl
    have q0 : IntKind.i64.wrap ((i : Int) / 8) = (i : Int) / 8 := wrap_id _ (by omega) (by omega)
    have q1 : ((i : Int) / 8).toNat = i / 8 := by omega
    have q2 : (0 : Int) ≤ (i : Int) / 8 := by omega
    have q3 : (i : Int) / 8 < n := by omega
    have q4 : (0 : Int) ≤ i := by omega
    have e : (7 - (i : Int) % 8).toNat = 7 - i % 8 := by omega
    have q5 : (0 : Int) ≤ 7 - (i : Int) % 8 := by omega
    have q6 : 7 - (i : Int) % 8 ≤ 8 := by omega
    have hlt := M.byteOf_lt B (i / 8)
    have hor := M.or_word (M.byteOf B (i / 8)) (7 - i % 8) hlt (by omega)
    go_enter Tryz.func181, Tryz.ntmps181
    go_wp2
    go_region_with (go_at_call 212; refine (shiftOf_any _ _ (by omega) (by omega)).mono ?_; rintro e w' ⟨rfl, rfl⟩)
    all_goals go_wp2
    all_goals go_end0
    all_goals exact ⟨rfl, ((But.refl d d w).set (.inl rfl) _).drew, Core.drewN (hcore.or hi _ (by rw [M.or_byte])) 1⟩
  · have h2 : v % 2 = 0 := by omega
    rw [h2] at hx
    rw [htb, decide_eq_false hv1]
    go_enter Tryz.func181, Tryz.ntmps181
    go_wp2
    go_end0
    refine ⟨rfl, But.refl _ _ _, ?_⟩
    rw [M.upd_same h0]
    exact hb

end Bits
end Go.Proofs.YtcaifpjbjghhaaaGreatDoor

/-
  Contracts of a pad's writing calls (package bits). Conditions: the object stands in memory as New and Open make it.
-/
namespace Go.Proofs.YtcaifpjbjghhaaaGreatDoor
set_option linter.unusedVariables false
open Go.RowKit
namespace Bits

def Own (ty : TypeId) (w : World) (p b c d n : Nat) (B : Nat → Bool) (h t : Nat) : Prop :=
  Blk w p #[.pointer (some ⟨b, 0, none⟩), .func (.func 171) #[] #[.pointer (some ⟨c, 0, none⟩)], .func (.func 172) #[] #[.pointer (some ⟨c, 0, none⟩)]] ty ∧
  Blk w c #[.pointer (some ⟨b, 0, none⟩)] 210 ∧ Core w b d n B h t

theorem Own.drewN {ty : TypeId} {w : World} {p b c d n : Nat} {B : Nat → Bool} {h t : Nat} (k : Own ty w p b c d n B h t) (m : Nat) : Own ty (w.drewN m) p b c d n B h t := k
theorem Own.ne {ty : TypeId} {w : World} {p b c d n : Nat} {B : Nat → Bool} {h t : Nat} (k : Own ty w p b c d n B h t) (h1 : ty ≠ 212) (h2 : ty ≠ 5) : p ≠ b ∧ c ≠ b ∧ (0 < n → p ≠ d ∧ c ≠ d ∧ b ≠ d) := by
  obtain ⟨h3, h4, s, h5, a, cap, _, hd, _⟩ := k
  refine ⟨h3.ne h5 h1, h4.ne h5 (by decide), fun hn => ?_⟩
  obtain ⟨_, cur, hb, _⟩ := hd hn
  exact ⟨h3.ne hb h2, h4.ne hb (by decide), h5.ne hb (by decide)⟩
theorem Own.but {ty : TypeId} {w w' : World} {p b c d n x y : Nat} {B : Nat → Bool} {h t : Nat} (k : Own ty w p b c d n B h t) (u : But x y w w') (hx : p ≠ x ∧ b ≠ x ∧ c ≠ x ∧ d ≠ x) (hy : p ≠ y ∧ b ≠ y ∧ c ≠ y ∧ d ≠ y) : Own ty w' p b c d n B h t :=
  ⟨u.blk k.1 hx.1 hy.1, u.blk k.2.1 hx.2.2.1 hy.2.2.1, k.2.2.but u hx.2.1 hy.2.1 hx.2.2.2 hy.2.2.2⟩

theorem refusalP (p b c d n h t v : Nat) (k : Int) (B : Nat → Bool) (w : World) (ho : Own 217 w p b c d n B h t) (hn : n ≤ 512) (hl : h + t ≤ 8 * n) (hv : v < 4294967296) :
    Calls Tryz.prog 180 #[.pointer (some ⟨p, 0, none⟩), .int .u32 v, .int .i64 k] w fun e w' => e = .returned (.int .i64 (M.mayv (8 * n) h t v k)) ∧ ∃ m, w' = w.drewN m := by
  obtain ⟨h1, h2, h3⟩ := ho
  have c0 : w.cell? ⟨p, 0, none⟩ = some (.pointer (some ⟨b, 0, none⟩)) := h1.cell rfl
  unfold M.mayv
  by_cases hk : 0 ≤ k ∧ k ≤ 32
  · have hd : decide (0 ≤ k ∧ k ≤ 32) = true := decide_eq_true hk
    obtain ⟨k0, k1⟩ := hk
    obtain ⟨κ, rfl⟩ := Int.eq_ofNat_of_zero_le k0
    obtain ⟨z, e1, hze⟩ : ∃ z : Nat, (v : Int) / 2 ^ κ = z ∧ z = v / 2 ^ κ := ⟨v / 2 ^ κ, by simp, rfl⟩
    by_cases hz : 2 ^ κ ≤ v
    · rw [if_pos (by simp; omega)]
      have hq : z ≠ 0 := by
        have := Nat.div_pos hz (Nat.two_pow_pos κ); omega
      clear hze hz
      go_enter Tryz.func180, Tryz.ntmps180
      go_wp2_with (go_at_call 210; refine (isCount_any _ _).mono ?_; rintro e w' ⟨rfl, rfl⟩; rw [hd])
      go_ret
      exact ⟨rfl, 0, rfl⟩
    · rw [if_neg (by simp; omega)]
      have hq : z = 0 := hze.trans (Nat.div_eq_of_lt (by omega))
      subst hq
      clear hze hz
      obtain ⟨x, hx⟩ : ∃ x, x = (if ((8 * n : Nat) : Int) - h - t < κ then (50 : Int) else 0) := ⟨_, rfl⟩
      rw [← hx]
      go_enter Tryz.func180, Tryz.ntmps180
      go_wp2_with (first
        | (go_at_call 210; refine (isCount_any _ _).mono ?_; rintro e w' ⟨rfl, rfl⟩; rw [hd])
        | (go_at_call 211; refine (room_any b d n h t B _ _ h3 hn hl).mono ?_; rw [← hx]; clear hx; rintro e w' ⟨rfl, m, rfl⟩))
      go_ret
      exact ⟨rfl, _, rfl⟩
  · have hd : decide (0 ≤ k ∧ k ≤ 32) = false := decide_eq_false hk
    rw [if_pos (by omega)]
    go_enter Tryz.func180, Tryz.ntmps180
    go_wp2_with (go_at_call 210; refine (isCount_any _ _).mono ?_; rintro e w' ⟨rfl, rfl⟩; rw [hd])
    go_ret
    exact ⟨rfl, 0, rfl⟩

theorem refusalE (p b c d n h t : Nat) (k : Int) (B : Nat → Bool) (w : World) (ho : Own 228 w p b c d n B h t) (hn : n ≤ 512) (hl : h + t ≤ 8 * n) :
    Calls Tryz.prog 185 #[.pointer (some ⟨p, 0, none⟩), .int .i64 k] w fun e w' => e = .returned (.int .i64 (M.may (8 * n) h t k)) ∧ ∃ m, w' = w.drewN m := by
  obtain ⟨h1, h2, h3⟩ := ho
  have c0 : w.cell? ⟨p, 0, none⟩ = some (.pointer (some ⟨b, 0, none⟩)) := h1.cell rfl
  unfold M.may
  by_cases hk : 0 ≤ k ∧ k ≤ 32
  · have hd : decide (0 ≤ k ∧ k ≤ 32) = true := decide_eq_true hk
    rw [if_neg (by omega)]
    obtain ⟨x, hx⟩ : ∃ x, x = (if ((8 * n : Nat) : Int) - h - t < k then (50 : Int) else 0) := ⟨_, rfl⟩
    rw [← hx]
    go_enter Tryz.func185, Tryz.ntmps185
    go_wp2_with (first
      | (go_at_call 210; refine (isCount_any _ _).mono ?_; rintro e w' ⟨rfl, rfl⟩; rw [hd])
      | (go_at_call 211; refine (room_any b d n h t B _ _ h3 hn hl).mono ?_; rw [← hx]; clear hx; rintro e w' ⟨rfl, m, rfl⟩))
    go_ret
    exact ⟨rfl, _, rfl⟩
  · have hd : decide (0 ≤ k ∧ k ≤ 32) = false := decide_eq_false hk
    rw [if_pos (by omega)]
    go_enter Tryz.func185, Tryz.ntmps185
    go_wp2_with (go_at_call 210; refine (isCount_any _ _).mono ?_; rintro e w' ⟨rfl, rfl⟩; rw [hd])
    go_ret
    exact ⟨rfl, 0, rfl⟩

theorem shr_lt {v : Nat} (hv : v < 4294967296) (j : Nat) : v / 2 ^ j < 4294967296 := Nat.lt_of_le_of_lt (Nat.div_le_self _ _) hv
theorem shr_bit (v j : Nat) : (v / 2 ^ j).testBit 0 = v.testBit j := by rw [Nat.testBit_div_two_pow, Nat.zero_add]

set_option maxRecDepth 100000 in
theorem FrontP_err (p b c d n h t v : Nat) (k : Int) (B : Nat → Bool) (w : World) (ho : Own 217 w p b c d n B h t) (hn : n ≤ 512) (hl : h + t ≤ 8 * n) (hv : v < 4294967296) (he : M.mayv (8 * n) h t v k ≠ 0) :
    Calls Tryz.prog 133 #[.pointer (some ⟨p, 0, none⟩), .int .u32 v, .int .i64 k] w fun e w' => e = .returned (.int .i64 (M.mayv (8 * n) h t v k)) ∧ ∃ m, w' = w.drewN m := by
  go_enter Tryz.func133, Tryz.ntmps133
  go_wp2_with (go_at_call 180; refine (refusalP p b c d n h t v k B _ ho hn hl hv).mono ?_; rintro e w' ⟨rfl, m, rfl⟩)
  go_ret
  exact ⟨rfl, _, rfl⟩

set_option maxRecDepth 100000 in
theorem FrontP_ok (p b c d n h t v k : Nat) (B : Nat → Bool) (w : World) (ho : Own 217 w p b c d n B h t) (hn : n ≤ 512) (hl : h + t + k ≤ 8 * n) (hv : v < 4294967296) (he : M.mayv (8 * n) h t v k = 0)
    (hk : k ≤ 32) (hz : ∀ j, h ≤ j → j < 8 * n - t → B j = false) :
    Calls Tryz.prog 133 #[.pointer (some ⟨p, 0, none⟩), .int .u32 v, .int .i64 k] w fun e w' => e = .returned (.int .i64 0) ∧ But b d w w' ∧ Own 217 w' p b c d n (M.pf B h v k k) (h + k) t := by
  go_enter Tryz.func133, Tryz.ntmps133
  go_wp2_with (go_at_call 180; refine (refusalP p b c d n h t v k B _ ho hn (by omega) hv).mono ?_; rintro e w' ⟨rfl, m, rfl⟩; rw [he])
  go_loopw [8] (fun j wr => ∃ m : Nat, m ≤ k ∧ j = .int .i64 ((k : Int) - 1 - m) ∧ But b d w wr ∧ Own 217 wr p b c d n (M.pf B h v k m) (h + m) t) (fun j _ => (intOf j + 1).toNat)
  case atStart => exact ⟨0, by omega, by go_num, (But.refl b d w).drewN _, ho.drewN _⟩
  case round =>
    obtain ⟨m, hm, rfl, hbut, hO⟩ := hrel
    by_cases hlt : m < k
    · obtain ⟨g1, g2, g3⟩ := hO
      obtain ⟨pb, cb, hd0⟩ := Own.ne (ty := 217) ⟨g1, g2, g3⟩ (by decide) (by decide)
      obtain ⟨pd, cd, bd⟩ := hd0 (by omega)
      have k0 : wr.cell? ⟨p, 0, none⟩ = some (.pointer (some ⟨b, 0, none⟩)) := g1.cell rfl
      have k1 : wr.cell? ⟨p, 1, none⟩ = some (.func (.func 171) #[] #[.pointer (some ⟨c, 0, none⟩)]) := g1.cell rfl
      have hj : ((k : Int) - 1 - m).toNat = k - 1 - m := by omega
      have j0 : 0 ≤ (k : Int) - 1 - m := by omega
      have j1 : (k : Int) - 1 - m ≤ 32 := by omega
      obtain ⟨z, e1, hze⟩ : ∃ z : Nat, (v : Int) / 2 ^ (k - 1 - m) = z ∧ z = v / 2 ^ (k - 1 - m) := ⟨_, by simp, rfl⟩
      have zl : z < 4294967296 := by rw [hze]; exact shr_lt hv _
      have zb : z.testBit 0 = v.testBit (k - 1 - m) := by rw [hze, shr_bit]
      clear hze
      have hz' : M.pf B h v k m (h + m) = false := by rw [M.pf_at, if_neg (by omega)]; exact hz _ (by omega) (by omega)
      go_wp2
      go_region_held3 (fun w' => w'.cell? ⟨p, 0, none⟩ = some (.pointer (some ⟨b, 0, none⟩)) ∧ w'.cell? ⟨p, 1, none⟩ = some (.func (.func 171) #[] #[.pointer (some ⟨c, 0, none⟩)]))
        (first | exact ⟨k0, k1⟩ | exact ⟨k0', k1'⟩ | exact ⟨k0'', k1''⟩)
        (first
          | (go_at_call 171; refine (front_any b c d n (h + m) t _ _ (by exact g2) (by exact g3) hn (by omega)).mono ?_; rintro e w1 ⟨rfl, hb1, hc1⟩
             have k0' : w1.cell? ⟨p, 0, none⟩ = some (.pointer (some ⟨b, 0, none⟩)) := (hb1.blk g1 pb pb).cell rfl
             have k1' : w1.cell? ⟨p, 1, none⟩ = some (.func (.func 171) #[] #[.pointer (some ⟨c, 0, none⟩)]) := (hb1.blk g1 pb pb).cell rfl)
          | (go_at_call 181; refine (set_any b d n (h + m + 1) t (h + m) z _ _ hc1 hn (by omega) zl hz').mono ?_; rintro e w2 ⟨rfl, hb2, hc2⟩
             have k0'' : w2.cell? ⟨p, 0, none⟩ = some (.pointer (some ⟨b, 0, none⟩)) := (hb2.blk (hb1.blk g1 pb pb) pd pd).cell rfl
             have k1'' : w2.cell? ⟨p, 1, none⟩ = some (.func (.func 171) #[] #[.pointer (some ⟨c, 0, none⟩)]) := (hb2.blk (hb1.blk g1 pb pb) pd pd).cell rfl))
      go_wp2
      go_roundw
      case rel =>
        refine ⟨m + 1, by omega, by go_num, (hbut.drew.trans (hb1.mono (.inl rfl) (.inl rfl))).trans (hb2.mono (.inr rfl) (.inr rfl)), hb2.blk (hb1.blk g1 pb pb) pd pd, hb2.blk (hb1.blk g2 cb cb) cd cd, ?_⟩
        rw [zb] at hc2
        exact hc2
      case measure => simp [intOf]; omega
    · obtain rfl : m = k := by omega
      go_wp2
      go_ret
      exact ⟨rfl, hbut, hO⟩

end Bits
end Go.Proofs.YtcaifpjbjghhaaaGreatDoor

/-
  Contracts of an eye's reading calls (package bits). Conditions: the object stands in memory as Open makes it.
-/
namespace Go.Proofs.YtcaifpjbjghhaaaGreatDoor
set_option linter.unusedVariables false
open Go.RowKit
namespace Bits

set_option maxRecDepth 100000 in
theorem FrontE_err (p b c d n h t : Nat) (k : Int) (B : Nat → Bool) (w : World) (ho : Own 228 w p b c d n B h t) (hn : n ≤ 512) (hl : h + t ≤ 8 * n) (he : M.may (8 * n) h t k ≠ 0) :
    Calls Tryz.prog 138 #[.pointer (some ⟨p, 0, none⟩), .int .i64 k] w fun e w' => e = .returned (.tuple #[.int .u32 0, .int .i64 (M.may (8 * n) h t k)]) ∧ ∃ m, w' = w.drewN m := by
  go_enter Tryz.func138, Tryz.ntmps138
  go_wp2_with (go_at_call 185; refine (refusalE p b c d n h t k B _ ho hn hl).mono ?_; rintro e w' ⟨rfl, m, rfl⟩)
  go_ret2
  exact ⟨rfl, _, rfl⟩

set_option maxRecDepth 100000 in
theorem FrontE_ok (p b c d n h t k : Nat) (B : Nat → Bool) (w : World) (ho : Own 228 w p b c d n B h t) (hn : n ≤ 512) (hl : h + t + k ≤ 8 * n) (he : M.may (8 * n) h t k = 0) (hk : k ≤ 32) :
    Calls Tryz.prog 138 #[.pointer (some ⟨p, 0, none⟩), .int .i64 k] w fun e w' => e = .returned (.tuple #[.int .u32 (M.fv B h k), .int .i64 0]) ∧ But b b w w' ∧ Own 228 w' p b c d n B (h + k) t := by
  go_enter Tryz.func138, Tryz.ntmps138
  go_wp2_with (go_at_call 185; refine (refusalE p b c d n h t k B _ ho hn (by omega)).mono ?_; rintro e w' ⟨rfl, m, rfl⟩; rw [he])
  go_loopw [7, 15] (fun x j wr => ∃ m : Nat, m ≤ k ∧ x = .int .u32 (M.fv B h m) ∧ j = .int .i64 m ∧ But b b w wr ∧ Own 228 wr p b c d n B (h + m) t) (fun _ j _ => k - (intOf j).toNat)
  case atStart => exact ⟨0, by omega, rfl, rfl, (But.refl b b w).drewN _, ho.drewN _⟩
  case round =>
    obtain ⟨m, hm, rfl, rfl, hbut, hO⟩ := hrel
    by_cases hlt : m < k
    · obtain ⟨g1, g2, g3⟩ := hO
      obtain ⟨pb, cb, _⟩ := Own.ne (ty := 228) ⟨g1, g2, g3⟩ (by decide) (by decide)
      have k0 : wr.cell? ⟨p, 0, none⟩ = some (.pointer (some ⟨b, 0, none⟩)) := g1.cell rfl
      have k1 : wr.cell? ⟨p, 1, none⟩ = some (.func (.func 171) #[] #[.pointer (some ⟨c, 0, none⟩)]) := g1.cell rfl
      have hst := M.step_front (M.fv B h m) (B (h + m)).toNat (Nat.lt_of_lt_of_le (M.fv_lt B h m) (Nat.pow_le_pow_right (i := m) (j := 31) (by decide) (by omega))) (Bool.toNat_le _)
      obtain ⟨x, hx⟩ : ∃ x, x = M.fv B h m := ⟨_, rfl⟩
      obtain ⟨y, hy⟩ : ∃ y, y = (B (h + m)).toNat := ⟨_, rfl⟩
      rw [← hx, ← hy] at hst
      rw [← hx]
      go_wp2
      go_region_held3 (fun w' => w'.cell? ⟨p, 0, none⟩ = some (.pointer (some ⟨b, 0, none⟩)) ∧ w'.cell? ⟨p, 1, none⟩ = some (.func (.func 171) #[] #[.pointer (some ⟨c, 0, none⟩)]))
        (first | exact ⟨k0, k1⟩ | exact ⟨k0', k1'⟩ | exact ⟨k0'', k1''⟩)
        (first
          | (go_at_call 171; refine (front_any b c d n (h + m) t _ _ (by exact g2) (by exact g3) hn (by omega)).mono ?_; rintro e w1 ⟨rfl, hb1, hc1⟩
             have k0' : w1.cell? ⟨p, 0, none⟩ = some (.pointer (some ⟨b, 0, none⟩)) := (hb1.blk g1 pb pb).cell rfl
             have k1' : w1.cell? ⟨p, 1, none⟩ = some (.func (.func 171) #[] #[.pointer (some ⟨c, 0, none⟩)]) := (hb1.blk g1 pb pb).cell rfl)
          | (go_at_call 186; refine (at_any b d n (h + m + 1) t (h + m) _ _ hc1 hn (by omega)).mono ?_; rw [← hy]; rintro e w2 ⟨rfl, m2, hw2⟩
             have k0'' : w2.cell? ⟨p, 0, none⟩ = some (.pointer (some ⟨b, 0, none⟩)) := by rw [hw2]; exact k0'
             have k1'' : w2.cell? ⟨p, 1, none⟩ = some (.func (.func 171) #[] #[.pointer (some ⟨c, 0, none⟩)]) := by rw [hw2]; exact k1'))
      go_wp2
      go_roundw
      case rel =>
        subst hw2
        refine ⟨m + 1, by omega, ?_, by go_num, (hbut.drew.trans hb1).drewN _, hb1.blk g1 pb pb, hb1.blk g2 cb cb, hc1⟩
        rw [hx, hy] at hst; rw [hst]; rfl
      case measure => simp [intOf]; omega
    · obtain rfl : m = k := by omega
      go_wp2
      go_ret2
      exact ⟨rfl, hbut, hO⟩

end Bits
end Go.Proofs.YtcaifpjbjghhaaaGreatDoor

