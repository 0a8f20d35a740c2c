/-
  Contracts of the small functions of package bits. Conditions: the block's three cells and its bytes stand as told.
-/
import Derived.Test.YtknolfpjhfpfaaaBitsMath
import Derived.Test.YtknolfpjhfpfaaaBlk
import Derived.Test.YtknolfpjhfpfaaaProg
import Derived.Deep.RegionHeld3
import Derived.Deep.Quiet
import Derived.Deep.QuietTactic
namespace Go.Proofs.Ytknolfpjhfpfaaa
set_option linter.unusedVariables false
open Go.RowKit
namespace Bits

/-- bytes in memory: n of them, of the bits B, in block d, which may be written -/
def Data (w : World) (s : Value) (d n : Nat) (B : Nat → Bool) : Prop :=
  ∃ (a : Option Addr) (cap : Nat), s = .slice a n cap ∧ (0 < n → a = some ⟨d, 0, none⟩ ∧ ∃ cur, Blk w d cur 5 ∧ ∀ i, i < n → cur[i]? = some (.int .u8 (M.byteOf B i))) ∧ (a = none → n = 0 ∧ cap = 0)
/-- the block of an object: its bytes, what was taken -/
def Core (w : World) (b d n : Nat) (B : Nat → Bool) (h t : Nat) : Prop :=
  ∃ s, Blk w b #[s, .int .i64 h, .int .i64 t] 77 ∧ Data w s d n B

theorem Data.drewN {w : World} {s : Value} {d n : Nat} {B : Nat → Bool} (h : Data w s d n B) (m : Nat) : Data (w.drewN m) s d n B := h
theorem Core.drewN {w : World} {b d n : Nat} {B : Nat → Bool} {h t : Nat} (k : Core w b d n B h t) (m : Nat) : Core (w.drewN m) b d n B h t := k
theorem Data.but {w w' : World} {s : Value} {d n : Nat} {B : Nat → Bool} {x y : Nat} (h : Data w s d n B) (k : But x y w w') (hx : d ≠ x) (hy : d ≠ y) : Data w' s d n B := by
  obtain ⟨a, cap, hs, hd, hnil⟩ := h
  refine ⟨a, cap, hs, fun hn => ?_, hnil⟩
  obtain ⟨ha, cur, hb, hc⟩ := hd hn
  exact ⟨ha, cur, k.blk hb hx hy, hc⟩
theorem Core.but {w w' : World} {b d n : Nat} {B : Nat → Bool} {h t x y : Nat} (c : Core w b d n B h t) (k : But x y w w') (bx : b ≠ x) (bxy : b ≠ y) (hx : d ≠ x) (hy : d ≠ y) : Core w' b d n B h t := by
  obtain ⟨s, hb, hd⟩ := c
  exact ⟨s, k.blk hb bx bxy, hd.but k hx hy⟩

theorem shiftOf_any (i : Int) (w : World) (h0 : 0 ≤ i) (h1 : i < 4096) :
    Calls Try.prog 52 #[.int .i64 i] w fun e w' => e = .returned (.int .i64 (7 - i % 8)) ∧ w' = w := by
  go_enter Try.func52, Try.ntmps52
  go_wp2
  go_ret
  refine ⟨?_, rfl⟩
  go_num

theorem size_any (b n cap : Nat) (a : Option Addr) (x y : Value) (w : World) (hb : Blk w b #[.slice a n cap, x, y] 77) (hn : n ≤ 512) :
    Calls Try.prog 49 #[.pointer (some ⟨b, 0, none⟩)] w fun e w' => e = .returned (.int .i64 (8 * n : Nat)) ∧ w' = w := by
  have c0 : w.cell? ⟨b, 0, none⟩ = some (.slice a n cap) := hb.cell rfl
  go_enter Try.func49, Try.ntmps49
  go_wp2
  go_ret
  refine ⟨?_, rfl⟩
  go_num

theorem Core.front {w : World} {b d n : Nat} {B : Nat → Bool} {h t : Nat} (k : Core w b d n B h t) (x : Int) (hx : x = ((h + 1 : Nat) : Int)) : Core (w.setCell ⟨b, 1, none⟩ (.int .i64 x)) b d n B (h + 1) t := by
  subst hx
  obtain ⟨s, hB, a, cap, hs, hd, hnil⟩ := k
  refine ⟨s, hB.set 1 _, a, cap, hs, fun hn => ?_, hnil⟩
  obtain ⟨ha, cur, hb, hc⟩ := hd hn
  exact ⟨ha, cur, hb.set_ne (hb.ne hB (by decide)) _, hc⟩
theorem Core.back {w : World} {b d n : Nat} {B : Nat → Bool} {h t : Nat} (k : Core w b d n B h t) (x : Int) (hx : x = ((t + 1 : Nat) : Int)) : Core (w.setCell ⟨b, 2, none⟩ (.int .i64 x)) b d n B h (t + 1) := by
  subst hx
  obtain ⟨s, hB, a, cap, hs, hd, hnil⟩ := k
  refine ⟨s, hB.set 2 _, a, cap, hs, fun hn => ?_, hnil⟩
  obtain ⟨ha, cur, hb, hc⟩ := hd hn
  exact ⟨ha, cur, hb.set_ne (hb.ne hB (by decide)) _, hc⟩

/-- the next bit from the front: its place -/
theorem front_any (b c d n h t : Nat) (B : Nat → Bool) (w : World) (hc : Blk w c #[.pointer (some ⟨b, 0, none⟩)] 75) (hb : Core w b d n B h t) (hn : n ≤ 512) (hl : h + t < 8 * n) :
    Calls Try.prog 47 #[.pointer (some ⟨c, 0, none⟩)] w fun e w' => e = .returned (.int .i64 h) ∧ But b b w w' ∧ Core w' b d n B (h + 1) t := by
  have hcore := hb
  obtain ⟨s, hB, a, cap, rfl, _⟩ := hb
  have hcb : c ≠ b := hc.ne hB (by decide)
  have c0 : w.cell? ⟨c, 0, none⟩ = some (.pointer (some ⟨b, 0, none⟩)) := hc.cell rfl
  have c1 : w.cell? ⟨b, 1, none⟩ = some (.int .i64 h) := hB.cell rfl
  have f1 := hB.free 1
  go_enter Try.func47, Try.ntmps47
  go_wp2
  go_ret
  exact ⟨rfl, (But.refl b b w).set (.inl rfl) _, hcore.front _ (by omega)⟩

/-- the next bit from the back: its place -/
theorem back_any (b c d n h t : Nat) (B : Nat → Bool) (w : World) (hc : Blk w c #[.pointer (some ⟨b, 0, none⟩)] 75) (hb : Core w b d n B h t) (hn : n ≤ 512) (hl : h + t < 8 * n) :
    Calls Try.prog 48 #[.pointer (some ⟨c, 0, none⟩)] w fun e w' => e = .returned (.int .i64 (8 * n - (t + 1) : Nat)) ∧ But b b w w' ∧ Core w' b d n B h (t + 1) := by
  have hcore := hb
  obtain ⟨s, hB, a, cap, rfl, _⟩ := hb
  have hcb : c ≠ b := hc.ne hB (by decide)
  have c0 : w.cell? ⟨c, 0, none⟩ = some (.pointer (some ⟨b, 0, none⟩)) := hc.cell rfl
  have c1 : w.cell? ⟨b, 2, none⟩ = some (.int .i64 t) := hB.cell rfl
  have f1 := hB.free 2
  have hB' : Blk (w.setCell ⟨b, 2, none⟩ (.int .i64 ((t : Int) + 1))) b #[.slice a n cap, .int .i64 h, .int .i64 ((t : Int) + 1)] 77 := hB.set 2 _
  go_enter Try.func48, Try.ntmps48
  go_wp2
  go_quiet (first | (go_at_call 49; refine Calls.quiet_of_same (size_any b n cap a _ _ _ (by exact hB') hn)))
  go_wp2
  go_ret
  refine ⟨?_, ((But.refl b b w).set (.inl rfl) _).drewN _, (hcore.back _ (by omega)).drewN _⟩
  rw [wrap_id _ (by omega) (by omega)]
  go_num

theorem cell_of {w : World} {s : Value} {d n : Nat} {B : Nat → Bool} (h : Data w s d n B) {i : Nat} (hi : i < 8 * n) : (∃ cap, s = .slice (some ⟨d, 0, none⟩) n cap) ∧ w.cell? ⟨d, i / 8, none⟩ = some (.int .u8 (M.byteOf B (i / 8))) ∧ w.frozen? ⟨d, i / 8, none⟩ = false := by
  obtain ⟨a, cap, rfl, hd, hnil⟩ := h
  obtain ⟨rfl, cur, hb, hc⟩ := hd (by omega)
  exact ⟨⟨cap, rfl⟩, hb.cell (hc _ (by omega)), hb.free _⟩

theorem at_any (b d n h t i : Nat) (B : Nat → Bool) (w : World) (hb : Core w b d n B h t) (hn : n ≤ 512) (hi : i < 8 * n) :
    Calls Try.prog 51 #[.pointer (some ⟨b, 0, none⟩), .int .i64 i] w fun e w' => e = .returned (.int .u32 (B i).toNat) ∧ ∃ m, w' = w.drewN m := by
  obtain ⟨s, hB, hD⟩ := hb
  obtain ⟨⟨cap, rfl⟩, cd, _⟩ := cell_of hD hi
  have c0 : w.cell? ⟨b, 0, none⟩ = some (.slice (some ⟨d, 0, none⟩) n cap) := hB.cell rfl
  have q0 : IntKind.i64.wrap ((i : Int) / 8) = (i : Int) / 8 := wrap_id _ (by omega) (by omega)
  have q1 : ((i : Int) / 8).toNat = i / 8 := by omega
  have q2 : (0 : Int) ≤ (i : Int) / 8 := by omega
  have q3 : (i : Int) / 8 < n := by omega
  have q4 : (0 : Int) ≤ i := by omega
  have e : (7 - (i : Int) % 8).toNat = 7 - i % 8 := by omega
  have q5 : (0 : Int) ≤ 7 - (i : Int) % 8 := by omega
  have q6 : 7 - (i : Int) % 8 ≤ 8 := by omega
  have hlt := M.byteOf_lt B (i / 8)
  have hat := M.at_byte B i
  go_enter Try.func51, Try.ntmps51
  go_wp2
  go_quiet (first | (go_at_call 52; refine Calls.quiet_of_same (shiftOf_any _ _ (by omega) (by omega))))
  go_wp2
  go_ret
  refine ⟨?_, _, rfl⟩
  show Ending.returned (Value.int IntKind.u32 (bits BinOp.and IntKind.u32 (IntKind.u32.wrap ((M.byteOf B (i / 8) : Int) / 2 ^ (7 - i % 8))) 1)) = _
  rw [M.at_word _ _ hlt, hat]

theorem Core.or {w : World} {b d n : Nat} {B : Nat → Bool} {h t i : Nat} (k : Core w b d n B h t) (hi : i < 8 * n) (x : Int) (hx : x = ((M.byteOf (M.upd B i true) (i / 8) : Nat) : Int)) : Core (w.setCell ⟨d, i / 8, none⟩ (.int .u8 x)) b d n (M.upd B i true) h t := by
  subst hx
  obtain ⟨s, hB, a, cap, hs, hd, hnil⟩ := k
  obtain ⟨ha, cur, hb, hc⟩ := hd (by omega)
  have hne : b ≠ d := hB.ne hb (by decide)
  refine ⟨s, hB.set_ne hne _, a, cap, hs, fun hn => ⟨ha, _, hb.set _ _, fun j hj => ?_⟩, hnil⟩
  have hsz : j < cur.size := (Array.getElem?_eq_some_iff.1 (hc j hj)).1
  rw [Array.getElem?_setIfInBounds]
  split
  · next e => subst e; rw [if_pos hsz]
  · next e => rw [hc j hj, M.byte_ne _ _ _ _ (by omega)]

end Bits
end Go.Proofs.Ytknolfpjhfpfaaa
