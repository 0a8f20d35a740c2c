/-
  The walk of CheckTurned: sealed bytes of which bits were turned side by side are told. Conditions: at and turn are of their kinds.
-/
import Derived.Test.YtifafoecejnhkaaCheckFlip
namespace Go.Proofs.Ytifafoecejnhkaa
set_option linter.unusedVariables false
open Go.RowKit
namespace Chk
open Bits (Blk But add_at wrap_id)
open Byt (Given)

/-- sealed bytes in memory while bits are turned -/
def Turning (w : World) (g L cap : Nat) (B : Nat → Bool) (wr : World) : Prop :=
  Below w.heap.size w wr ∧ w.heap.size ≤ g ∧ L ≤ cap ∧ ∃ cur, Blk wr g cur 5 ∧ ∀ i, i < L → cur[i]? = some (.int .u8 (M.byteOf B i : Nat))
theorem turning_of {w v w' : World} {g L cap : Nat} {ys : List Nat} (h : Made v w' (.slice (some ⟨g, 0, none⟩) L cap) ys) (hv : w.heap.size ≤ v.heap.size) (hL : ys.length = L) (hx : ∀ x ∈ ys, x < 256) (bel : Below w.heap.size w w') : Turning w g L cap (M.bitL ys) w' := by
  subst hL
  obtain ⟨_, ⟨h1, _⟩ | ⟨g', cap', cur, hv, hg, hh, h1, h2, h3, h4⟩⟩ := h
  · cases h1
  · cases hv
    refine ⟨bel, Nat.le_trans hv hg, h1, cur, hh, fun i hi => ?_⟩
    have e := M.listOf_bitL ys hx
    have : (cur.toList.take (ys.length * 1))[i]? = (ys.map fun x : Nat => Value.int .u8 x)[i]? := by rw [h4]
    rw [List.getElem?_take_of_lt (by omega), Array.getElem?_toList, List.getElem?_map] at this
    rw [this]
    have e2 : ys[i]? = some (M.byteOf (M.bitL ys) i) := by
      conv => lhs; rw [← e]
      simp [M.listOf, hi]
    rw [e2]; rfl
theorem turning_given {w wr : World} {g L cap : Nat} {B : Nat → Bool} (h : Turning w g L cap B wr) : Given wr (.slice (some ⟨g, 0, none⟩) L cap) (M.listOf B L) := by
  obtain ⟨bel, hg, hc, cur, hb, hx⟩ := h
  refine ⟨_, cap, by rw [M.listOf_length], by rw [M.listOf_length]; exact hc, M.listOf_lt B L, (fun h => by cases h), .inr ⟨g, 0, rfl, hb.lt, fun i x hi => ?_⟩⟩
  obtain ⟨h1, rfl⟩ := M.listOf_getElem B L i x hi
  rw [Nat.zero_add]
  exact hb.cell (hx i h1)
theorem turning_step {w wr : World} {g L cap : Nat} {B : Nat → Bool} (h : Turning w g L cap B wr) (i : Nat) (hi : i < 8 * L) (y : Int) (hy : y = (M.byteOf B (i / 8) ^^^ 2 ^ (7 - i % 8) : Nat)) : Turning w g L cap (M.upd B i (!B i)) (wr.setCell ⟨g, i / 8, none⟩ (.int .u8 y)) := by
  subst hy
  obtain ⟨bel, hg, hc, cur, hb, hx⟩ := h
  refine ⟨bel.trans (((But.refl g g wr).set (a := ⟨g, i / 8, none⟩) (.inl rfl) _).below hg hg bel.size), hg, hc, _, hb.set (i / 8) _, fun j hj => ?_⟩
  have hsz : j < cur.size := (Array.getElem?_eq_some_iff.1 (hx j hj)).1
  rw [Array.getElem?_setIfInBounds]
  split
  · next e => subst e; rw [if_pos hsz, M.xor_byte]
  · next e => rw [hx j hj, M.byte_ne _ _ _ _ (by omega)]

set_option maxRecDepth 100000 in
set_option maxHeartbeats 1000000 in
theorem CheckTurned_walk (n : Int) (t : ByteArray) (at_ T : Nat) (w : World) (hat : at_ < 65536) (hT : T < 4294967296) :
    Calls Try.prog 6 #[.int .i64 n, .string t, .int .u16 at_, .int .u32 T] w fun e w' => e = .returned (.bool true) ∧ Below w.heap.size w w' := by
  have hcv := fun w => Byt.run_of w t
  have hgv := fun w => Byt.given_of w t
  have hnl := Byt.nums_length t
  have hnlt := Byt.nums_lt t
  by_cases hl : t.size ≤ 2000
  · have g2 : ¬ (2000 : Int) < t.size := by omega
    rcases knd_or n with ⟨k, s, p, rfl, hk⟩ | ⟨h1, h2, h3⟩
    · have hse := fun v w hv => Seal_ok k s p v (Byt.nums t) w hk hv (by omega)
      have hslt := sealed_lt k s p (Byt.nums t) hnlt
      have hlen := sealed_length k s p (Byt.nums t)
      have htk := sealed_take k s p (Byt.nums t)
      have hdr := sealed_drop k s p (Byt.nums t)
      rw [hnl] at hse hlen htk hdr
      obtain ⟨ys, hys⟩ : ∃ ys, ys = sealed k s p (Byt.nums t) := ⟨_, rfl⟩
      rw [← hys] at hse hslt hlen htk hdr
      clear hys
      rw [← htk] at hdr
      obtain ⟨N, hN, hN1, hN3⟩ := hk.eight
      have eN : k / 8 = N := by omega
      rw [eN] at hse hlen hdr
      obtain ⟨f, hf1, hf2⟩ : ∃ f : Nat, (at_ : Int) % (8 * ((t.size : Int) + (N : Int)) - k + 1 : Int) = f ∧ f + k ≤ 8 * (t.size + N) := by
        refine ⟨at_ % (8 * (t.size + N) - k + 1), ?_, ?_⟩
        · have e : (8 * ((t.size : Int) + (N : Int)) - k + 1 : Int) = ((8 * (t.size + N) - k + 1 : Nat) : Int) := by omega
          rw [e]; omega
        · have := Nat.mod_lt at_ (show 8 * (t.size + N) - k + 1 > 0 by omega)
          omega
      have hk24 : k ≤ 24 := by omega
      have hk8 : 8 ≤ k := by omega
      have hN' : Hid (k = 8 * N) := hN
      have hdr' : Hid (List.drop t.size ys = M.tail N (M.run k p (M.bitL (List.take t.size ys)) s (8 * t.size))) := hdr
      have htk' : Hid (List.take t.size ys = Byt.nums t) := htk
      clear hN eN hdr htk
      go_enter Try.func6, Try.ntmps6
      go_wp2_with (first
        | (go_at_call 7; refine (alive_any _).mono ?_; rintro e w1 ⟨rfl, bel1⟩)
        | (go_at_call 12; refine (hse _ _ (hgv w1)).mono ?_; clear hse; rintro e w2 ⟨g, cap2, rfl, made2, bel2⟩))
      have hst : Turning w g (t.size + N) cap2 (M.bitL ys) w2 := turning_of made2 (chain bel1 (laid_of w1 t)).size hlen hslt (chain (chain bel1 (laid_of w1 t)) bel2)
      rw [hf1]
      clear hcv hgv made2 hf1
      go_loopw [12, 13] (fun b i wr => ∃ m : Nat, m ≤ k ∧ b = .bool (M.anyT T m) ∧ i = .int .i64 m ∧ Turning w g (t.size + N) cap2 (M.flip (M.bitL ys) f T m) wr) (fun _ i _ => k - (intOf i).toNat)
      case atStart => exact ⟨0, by omega, rfl, rfl, hst⟩
      case round =>
        clear hst
        obtain ⟨m, hm, rfl, rfl, ht⟩ := hrel
        by_cases hlt : m < k
        · have i0 : (m : Int) < k := by omega
          obtain ⟨z, hz, hzb, hzl⟩ : ∃ z : Nat, (T : Int) / 2 ^ m = z ∧ T.testBit m = decide (z % 2 = 1) ∧ z ≤ T := ⟨T / 2 ^ m, by simp, Nat.testBit_eq_decide_div_mod_eq, Nat.div_le_self _ _⟩
          have hzI : (z : Int) ≤ 4294967295 := by omega
          by_cases hbit : z % 2 = 1
          · rw [decide_eq_true hbit] at hzb
            have hfl : M.flip (M.bitL ys) f T (m + 1) = M.upd (M.flip (M.bitL ys) f T m) (f + m) (!(M.flip (M.bitL ys) f T m (f + m))) := by
              show (if T.testBit m then _ else _) = _
              rw [if_pos hzb]
            have han : M.anyT T (m + 1) = true := by
              show (T.testBit m || _) = true
              rw [hzb]; rfl
            obtain ⟨I, hI⟩ : ∃ I, I = f + m := ⟨_, rfl⟩
            have hIl : I < 8 * (t.size + N) := by omega
            have ht' := ht
            obtain ⟨bel, hg, hc, cur, hb, hx⟩ := ht
            have hcell := hb.cell (hx (I / 8) (by omega))
            have hfree := hb.free (I / 8)
            have hbl := M.byteOf_lt (M.flip (M.bitL ys) f T m) (I / 8)
            have hd0 : 2 ^ (7 - I % 8) < 256 := by
              have := Nat.pow_le_pow_right (n := 2) (by decide) (show 7 - I % 8 ≤ 7 by omega)
              omega
            have hxr := u8_xor_nat (M.byteOf (M.flip (M.bitL ys) f T m) (I / 8)) (2 ^ (7 - I % 8)) hbl hd0
            rw [← hI] at hfl
            have hstep := fun y hy => turning_step ht' I hIl y hy
            rw [← hfl] at hstep
            clear hfl hx hb
            obtain ⟨c, hce⟩ : ∃ c, c = M.byteOf (M.flip (M.bitL ys) f T m) (I / 8) ^^^ 2 ^ (7 - I % 8) := ⟨_, rfl⟩
            obtain ⟨b, hbe⟩ : ∃ b, b = M.byteOf (M.flip (M.bitL ys) f T m) (I / 8) := ⟨_, rfl⟩
            rw [← hce] at hxr hstep
            rw [← hbe] at hxr hcell hbl
            obtain ⟨d, hd, hde⟩ : ∃ d : Nat, (128 : Int) / 2 ^ (I % 8) = d ∧ d = 2 ^ (7 - I % 8) := by
              refine ⟨2 ^ (7 - I % 8), ?_, rfl⟩
              rcases (by omega : I % 8 = 0 ∨ I % 8 = 1 ∨ I % 8 = 2 ∨ I % 8 = 3 ∨ I % 8 = 4 ∨ I % 8 = 5 ∨ I % 8 = 6 ∨ I % 8 = 7) with h | h | h | h | h | h | h | h <;> rw [h] <;> rfl
            rw [← hde] at hxr hd0
            obtain ⟨J, hJ⟩ : ∃ J, J = I / 8 := ⟨_, rfl⟩
            obtain ⟨r, hr⟩ : ∃ r, r = I % 8 := ⟨_, rfl⟩
            have i1 : (f : Int) + (m : Int) = I := by omega
            have i2 : (I : Int) / 8 = J := by omega
            have i3 : (I : Int) % 8 = r := by omega
            have i4 : (J : Int) < (t.size : Int) + N := by omega
            have i5 : (0 : Int) ≤ J := by omega
            have i6 : (0 : Int) ≤ r := by omega
            have i7 : (r : Int) ≤ 7 := by omega
            have i8 : (0 : Int) ≤ I := by omega
            have i9 : I ≤ 20000 := by omega
            rw [← hJ] at hcell hfree hstep
            rw [← hr] at hd
            clear hI hce hbe hde hJ hr hzb
            replace hstep : Hid (∀ y, y = (c : Int) → Turning w g (t.size + N) cap2 (M.flip (M.bitL ys) f T (m + 1)) (wr.setCell ⟨g, J, none⟩ (.int .u8 y))) := hstep
            replace han : Hid (M.anyT T (m + 1) = true) := han
            go_wp2
            go_roundw
            case rel => exact ⟨m + 1, by omega, by rw [show M.anyT T (m + 1) = true from han], by go_num, (show ∀ y, y = (c : Int) → _ from hstep) _ rfl⟩
            case measure => simp [intOf]; omega
          · rw [decide_eq_false hbit] at hzb
            have hfl : M.flip (M.bitL ys) f T (m + 1) = M.flip (M.bitL ys) f T m := by
              show (if T.testBit m then _ else _) = _
              rw [if_neg (by rw [hzb]; decide)]
            have han : M.anyT T (m + 1) = M.anyT T m := by
              show (T.testBit m || _) = _
              rw [hzb]; rfl
            rw [← hfl] at ht
            rw [← han]
            clear hfl han hzb
            go_wp2
            go_roundw
            case rel => exact ⟨m + 1, by omega, rfl, by go_num, ht⟩
            case measure => simp [intOf]; omega
        · obtain rfl : m = k := by omega
          have gv := turning_given ht
          have hkN : m = 8 * N := hN'
          have hm8 : m / 8 = N := by omega
          cases hany : M.anyT T m
          · rw [M.flip_none _ _ _ _ hany, ← hlen, M.listOf_bitL ys hslt, hlen] at gv
            have hop := Open_ok m s p _ ys t.size wr hk gv (by omega) (by omega) (by rw [hm8]; exact hdr')
            clear hkN hm8
            go_wp2_with (go_at_call 14; refine hop.mono ?_; clear hop; rintro e w4 ⟨a4, cap4, rfl, made4, bel4⟩)
            go_ret
            exact ⟨rfl, chain ht.1 bel4⟩
          · have hne := M.turned m s p N t.size f T ys hkN hk.pos hk.odd hk.p_lt hk.s_lt hlen hdr' (by omega) hany
            have hop := Open_bad m s p _ _ t.size wr hk gv (by rw [M.listOf_length]; omega) (by rw [M.listOf_length]; omega) (by rw [hm8]; exact hne)
            clear hkN hm8 hne
            go_wp2_with (go_at_call 14; refine hop.mono ?_; clear hop; rintro e w4 ⟨rfl, bel4⟩)
            go_ret
            exact ⟨rfl, chain ht.1 bel4⟩
    · have hse := fun a l c w => Seal_no n a l c w h1 h2 h3
      go_enter Try.func6, Try.ntmps6
      go_wp2_with (first
        | (go_at_call 7; refine (alive_any _).mono ?_; rintro e w1 ⟨rfl, bel1⟩)
        | (go_at_call 12; refine (hse _ _ _ _).mono ?_; clear hse; rintro e w2 ⟨rfl, bel2⟩))
      go_ret
      exact ⟨rfl, chain (chain bel1 (laid_of w1 t)) bel2⟩
  · have g2 : (2000 : Int) < t.size := by omega
    go_enter Try.func6, Try.ntmps6
    go_wp2_with (go_at_call 7; refine (alive_any _).mono ?_; rintro e w1 ⟨rfl, bel1⟩)
    go_ret
    exact ⟨rfl, bel1⟩

theorem bdu16 {n : Int} (h : (Lit.int .u16 n).wf = true) : ∃ m : Nat, n = m ∧ m < 65536 := by
  have : 0 ≤ n ∧ n ≤ 65535 := by simpa [Lit.wf, IntKind.min, IntKind.max, IntKind.signed, IntKind.bits] using h
  exact ⟨n.toNat, by omega, by omega⟩
theorem bdu32 {n : Int} (h : (Lit.int .u32 n).wf = true) : ∃ m : Nat, n = m ∧ m < 4294967296 := by
  have : 0 ≤ n ∧ n ≤ 4294967295 := by simpa [Lit.wf, IntKind.min, IntKind.max, IntKind.signed, IntKind.bits] using h
  exact ⟨n.toNat, by omega, by omega⟩
theorem CheckTurned_any (n : Int) (t : ByteArray) (a b : Int) (w : World) (ha : (Lit.int .u16 a).wf = true) (hb : (Lit.int .u32 b).wf = true) :
    Calls Try.prog 6 #[.int .i64 n, .string t, .int .u16 a, .int .u32 b] w fun e w' => e = .returned (.bool true) ∧ Below w.heap.size w w' := by
  obtain ⟨m, rfl, hm⟩ := bdu16 ha
  obtain ⟨k, rfl, hk⟩ := bdu32 hb
  exact CheckTurned_walk n t m k w hm hk

end Chk
end Go.Proofs.Ytifafoecejnhkaa
