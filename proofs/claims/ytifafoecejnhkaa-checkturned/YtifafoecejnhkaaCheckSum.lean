/-
  Contracts of package check: sum, sumOf, laid, Bits, Of. Conditions: the bytes stand in memory.
-/
import Derived.Test.YtifafoecejnhkaaCheckWalks
import Derived.Test.YtifafoecejnhkaaBytes
import Derived.Deep.RegionHeld3
import Derived.Laws.MakeOwn
namespace Go.Proofs.Ytifafoecejnhkaa
set_option linter.unusedVariables false
open Go.RowKit
namespace Chk
open Bits (Blk But add_at wrap_id)
open Byt (Given)

theorem of_drew {N : Nat} {w w' : World} (h : Below N w.drew w') : Below N w w' := ⟨h.os, h.tape, h.output, h.size, h.block⟩
theorem of_drewN {N m : Nat} {w w' : World} (h : Below N (w.drewN m) w') : Below N w w' := ⟨h.os, h.tape, h.output, h.size, h.block⟩
/-- a byte of a list into a sum -/
theorem run_byte (n p S : Nat) (xs : List Nat) (m k : Nat) (hk : k ≤ 8) : M.run n p (bt (xs.getD m 0)) (M.run n p (M.bitL xs) S (8 * m)) k = M.run n p (M.bitL xs) S (8 * m + k) := by
  rw [M.run_add]
  refine M.run_congr _ _ _ _ _ k fun i hi => ?_
  show (xs.getD m 0).testBit (7 - i) = (xs.getD ((8 * m + i) / 8) 0).testBit (7 - (8 * m + i) % 8)
  rw [show (8 * m + i) / 8 = m by omega, show (8 * m + i) % 8 = i by omega]
theorem getD_lt {xs : List Nat} (h : ∀ x ∈ xs, x < 256) (i : Nat) : xs.getD i 0 < 256 := by
  unfold List.getD
  cases e : xs[i]? with
  | none => simp
  | some x => simpa using h x (List.mem_of_getElem? e)

set_option maxRecDepth 100000 in
set_option maxHeartbeats 1000000 in
theorem sum_any (n s p : Nat) (v : Value) (xs : List Nat) (N : Nat) (w : World) (hk : Knd n s p) (hv : Given w v xs) (hl : xs.length ≤ 65536) (hN : N ≤ 8 * xs.length) :
    Calls Try.prog 17 #[kv n s p, v, .int .i64 N] w fun e w' => e = .returned (.int .u32 (M.run n p (M.bitL xs) s N : Nat)) ∧ Below w.heap.size w w' := by
  have hs := hk.small
  obtain ⟨q, r, hq, hr⟩ : ∃ q r, N = 8 * q + r ∧ r < 8 := ⟨N / 8, N % 8, by omega, by omega⟩
  obtain ⟨a, c, rfl, hc⟩ := hv.form
  have hsl := Byt.run_head a xs.length c q (by omega)
  have hgh := hv.head q (by omega)
  obtain ⟨a', ha'⟩ : ∃ a', a' = Byt.head_ a c := ⟨_, rfl⟩
  rw [← ha'] at hsl hgh
  clear ha'
  have htl : ∀ m, m < q → (xs.take q).getD m 0 = xs.getD m 0 := fun m hm => by simp [List.getD, hm]
  have hql : (xs.take q).length = q := by simp; omega
  have eq1 : (N : Int) / 8 = q := by omega
  have eq2 : (N : Int) % 8 = r := by omega
  have eN0 : (0 : Int) ≤ N := by omega
  have hqx : q ≤ xs.length := by omega
  have hNe : Hid (N = 8 * q + r) := hq
  clear hq
  have hNl : N ≤ 600000 := by omega
  unfold kv
  go_enter Try.func17, Try.ntmps17
  go_wp2
  go_loopw [9, 22] (fun t i wr => ∃ m : Nat, m ≤ q ∧ t = .int .u32 (M.run n p (M.bitL xs) s (8 * m) : Nat) ∧ i = .int .i64 m ∧ Below w.heap.size w wr ∧ Blk wr w.heap.size #[.int .i64 n, .int .u32 s, .int .u32 p] 42) (fun _ i _ => q - (intOf i).toNat)
  case atStart => exact ⟨0, by omega, rfl, rfl, (Below.refl _ w).alloc (Nat.le_refl _) _, Blk.new _ _ _⟩
  case round =>
    obtain ⟨m, hm, rfl, rfl, bel, hb⟩ := hrel
    obtain ⟨c0, c1, c2⟩ := kv_cells hb
    have hR := M.run_lt n p s (8 * m) (M.bitL xs) hk.p_lt hk.s_lt
    by_cases hlt : m < q
    · obtain ⟨b0, off, rfl, hb0, hcell⟩ := hgh.cell (i := m) (by omega)
      rw [htl m hlt] at hcell
      have hst := run_byte n p s xs m 8 (by omega)
      have hx := getD_lt hv.lt m
      have hcell' : wr.cell? ⟨b0, off + m, none⟩ = some (.int .u8 (xs.getD m 0 : Nat)) := (bel.cell hb0).trans hcell
      obtain ⟨x, hxe⟩ : ∃ x, x = xs.getD m 0 := ⟨_, rfl⟩
      obtain ⟨R, hRe⟩ : ∃ R, R = M.run n p (M.bitL xs) s (8 * m) := ⟨_, rfl⟩
      rw [← hxe] at hst hx hcell'
      rw [← hRe] at hst hR ⊢
      have hRl : R < 4294967296 := by omega
      have i1 : (0 : Int) ≤ m := by omega
      have i2 : (m : Int) < q := by omega
      clear hcell hxe hRe htl hsl hgh hv eq2
      replace hst : Hid (M.run n p (bt x) R 8 = M.run n p (M.bitL xs) s (8 * m + 8)) := hst
      go_wp2_with (go_at_call 24; refine (over_any n s p R x 8 _ hk hR hx (by omega)).mono ?_; rintro e w' ⟨rfl, bel'⟩)
      go_roundw
      case rel =>
        have fin : M.run n p (bt x) R 8 = M.run n p (M.bitL xs) s (8 * (m + 1)) := hst
        have bel2 := bel.trans (Bits.Below.less bel' bel.size)
        have hb2 := Bits.Below.blk bel' hb hb.lt
        first | exact ⟨m + 1, by omega, by rw [fin], by go_num, bel2, hb2⟩ | ((repeat apply Exists.intro); refine ⟨?_, rfl⟩; exact ⟨m + 1, by omega, by rw [fin], by go_num, bel2, hb2⟩)
      case measure => simp [intOf]; omega
    · obtain rfl : m = q := by omega
      rcases Nat.eq_zero_or_pos r with h0 | h0
      · subst h0
        go_wp2
        go_ret
        refine ⟨?_, bel⟩
        rw [show N = 8 * m + 0 from hNe]
        rfl
      · have hlm : m < xs.length := by have : N = 8 * m + r := hNe; omega
        obtain ⟨b0, off, rfl, hb0, hcell⟩ := hv.cell (i := m) hlm
        have hst := run_byte n p s xs m r (by omega)
        have hx := getD_lt hv.lt m
        have hcell' : wr.cell? ⟨b0, off + m, none⟩ = some (.int .u8 (xs.getD m 0 : Nat)) := (bel.cell hb0).trans hcell
        have hst' : M.run n p (bt (xs.getD m 0)) (M.run n p (M.bitL xs) s (8 * m)) r = M.run n p (M.bitL xs) s N := by rw [show N = 8 * m + r from hNe]; exact hst
        clear hst
        obtain ⟨x, hxe⟩ : ∃ x, x = xs.getD m 0 := ⟨_, rfl⟩
        obtain ⟨R, hRe⟩ : ∃ R, R = M.run n p (M.bitL xs) s (8 * m) := ⟨_, rfl⟩
        rw [← hxe] at hst' hx hcell'
        rw [← hRe] at hst' hR ⊢
        have hRl : R < 4294967296 := by omega
        have i1 : (0 : Int) ≤ m := by omega
        have i2 : (m : Int) < xs.length := by omega
        have i3 : (0 : Int) < r := by omega
        clear hcell hxe hRe htl hsl hgh hv
        replace hst' : Hid (M.run n p (bt x) R r = M.run n p (M.bitL xs) s N) := hst'
        go_wp2
        go_region_held3 (fun w' => w'.cell? ⟨w.heap.size, 0, none⟩ = some (.int .i64 n) ∧ w'.cell? ⟨w.heap.size, 1, none⟩ = some (.int .u32 s) ∧ w'.cell? ⟨w.heap.size, 2, none⟩ = some (.int .u32 p) ∧ w'.cell? ⟨b0, off + m, none⟩ = some (.int .u8 x))
          (first | go_keep | (exact ⟨(bel1.cell hb.lt).trans c0, (bel1.cell hb.lt).trans c1, (bel1.cell hb.lt).trans c2, (bel1.cell (show b0 < wr.heap.size by have := bel.size; omega)).trans hcell'⟩))
          (first | (go_at_call 24; refine (over_any n s p R x r _ hk hR hx (by omega)).mono ?_; rintro e w1 ⟨rfl, bel1⟩))
        all_goals go_wp2
        all_goals go_ret
        all_goals exact ⟨by rw [← show M.run n p (bt x) R r = _ from hst']; rfl, bel.trans (Bits.Below.less (of_drew bel1) bel.size)⟩

theorem sumOf_any (n s p : Nat) (v : Value) (xs : List Nat) (w : World) (hk : Knd n s p) (hv : Given w v xs) (hl : xs.length ≤ 65536) :
    Calls Try.prog 20 #[kv n s p, v] w fun e w' => e = .returned (.int .u32 (M.run n p (M.bitL xs) s (8 * xs.length) : Nat)) ∧ Below w.heap.size w w' := by
  obtain ⟨a, c, rfl, hc⟩ := hv.form
  have e8 : Hid ((8 : Int) * (xs.length : Int) = ((8 * xs.length : Nat) : Int)) := show (8 : Int) * (xs.length : Int) = ((8 * xs.length : Nat) : Int) by omega
  unfold kv
  have b1 : Below w.heap.size w (w.alloc (.cells #[.int .i64 n, .int .u32 s, .int .u32 p] 42)) := (Below.refl _ w).alloc (Nat.le_refl _) _
  have hv1 := hv.below b1 (Nat.le_refl _)
  go_enter Try.func20, Try.ntmps20
  go_wp2_with (go_at_call 17; rw [show (8 : Int) * (xs.length : Int) = ((8 * xs.length : Nat) : Int) from e8]; refine (sum_any n s p _ xs (8 * xs.length) _ hk hv1 hl (Nat.le_refl _)).mono ?_; rintro e w1 ⟨rfl, bel1⟩)
  go_ret
  exact ⟨rfl, b1.trans (Bits.Below.less bel1 b1.size)⟩

theorem made_u8 (w : World) (n : Nat) (hn : n ≤ 512) :
    ∃ cs : Array Value, cs.size = n ∧ (Instr.makeSlice 22 (.int .i64 n) (.int .i64 n)).run Try.prog w = .ok (.slice (some ⟨w.heap.size, 0, none⟩) n n) (w.alloc (.cells cs 5)) := by
  obtain ⟨i0, hi, hz0, hz1, hz2⟩ := info_parts Byt.info8
  have := run_make (P := Try.prog) w 22 5 i0 (.int .u8 0) Try.underlying22 hi hz0 .i64 .i64 n n (by omega) (by omega) (by rw [hz2]; omega) (by omega)
  refine ⟨_, ?_, by simpa using this⟩
  rw [hz1]
  have hl : (madeCells #[Value.int .u8 0] n).toList.length = n := by rw [toList_madeCells_one]; simp
  simpa [Value.cells] using hl

/-- the last bytes of a sum laid down, j are still to come -/
def Laying (w : World) (g n S j : Nat) (wr : World) : Prop :=
  Below w.heap.size w wr ∧ w.heap.size ≤ g ∧ ∃ cur, Blk wr g cur 5 ∧ cur.size = n ∧ ∀ i, j ≤ i → i < n → cur[i]? = some (.int .u8 (S / 2 ^ (8 * (n - 1 - i)) % 256 : Nat))
theorem laying_step {w wr : World} {g n S j : Nat} (h : Laying w g n S (j + 1) wr) (hj : j < n) (x : Nat) (hx : x = S / 2 ^ (8 * (n - 1 - j))) (y : Int) (hy : y = (x % 256 : Nat)) : Laying w g n S j (wr.setCell ⟨g, j, none⟩ (.int .u8 y)) := by
  subst hx; subst hy
  obtain ⟨bel, hg, cur, hb, hs, hc⟩ := h
  refine ⟨bel.trans (((But.refl g g wr).set (a := ⟨g, j, none⟩) (.inl rfl) _).below hg hg bel.size), hg, _, hb.set j _, by simp [hs], fun i h1 h2 => ?_⟩
  rw [Array.getElem?_setIfInBounds]
  split
  · next e => subst e; rw [if_pos (by omega)]
  · next e => exact hc i (by omega) h2

set_option maxRecDepth 100000 in
theorem laid_any (n s p S : Nat) (w : World) (hk : Knd n s p) (hS : S < 2 ^ n) :
    Calls Try.prog 19 #[kv n s p, .int .u32 S] w fun e w' => ∃ g, e = .returned (.slice (some ⟨g, 0, none⟩) (n / 8) (n / 8)) ∧ w'.ownsRow w.heap.size 5 1 (.slice (some ⟨g, 0, none⟩) (n / 8) (n / 8)) (n / 8) ((M.tail (n / 8) S).map fun x : Nat => Value.int .u8 x) ∧ Below w.heap.size w w' := by
  have hsm := hk.small
  have hz := fun w => size_any n s p w hk
  obtain ⟨N, hN, hN1, hN3⟩ := hk.eight
  have eN : n / 8 = N := by omega
  rw [eN]
  rw [eN] at hz
  have b1 : Below w.heap.size w (w.alloc (.cells #[.int .i64 n, .int .u32 s, .int .u32 p] 42)) := (Below.refl _ w).alloc (Nat.le_refl _) _
  have hbx : Blk (w.alloc (.cells #[.int .i64 n, .int .u32 s, .int .u32 p] 42)) w.heap.size #[.int .i64 n, .int .u32 s, .int .u32 p] 42 := Blk.new _ _ _
  have hSl : S < 4294967296 := by omega
  have hS3 : Hid (S < 2 ^ n) := hS
  clear hN hS
  unfold kv at hz ⊢
  go_enter Try.func19, Try.ntmps19
  have hy := hz
  go_wp2_with (first
    | (go_at_call 22; refine (hz _).mono ?_; clear hz; rintro e w1 ⟨rfl, bel1⟩; obtain ⟨cs, hcs, hmk⟩ := made_u8 w1 N (by omega); have hbw := Bits.Below.blk bel1 hbx hbx.lt; obtain ⟨c0, c1, c2⟩ := kv_cells (hbw.alloc (.cells cs 5)))
    | (go_at_call 22; refine (hy _).mono ?_; clear hy; rintro e w2 ⟨rfl, bel2⟩))
  have hs1 := bel1.size
  have hg0 : w.heap.size + 1 ≤ w1.heap.size := by simpa using hs1
  have hst : Laying w w1.heap.size N S N w2 := by
    refine ⟨(b1.trans (Bits.Below.less bel1 b1.size)).trans (((Below.refl _ w1).alloc (Nat.le_refl _) _ |> fun h => Bits.Below.less h (by omega)).trans (Bits.Below.less bel2 (by simp; omega))), by omega, cs, Bits.Below.blk bel2 (Blk.new w1 cs _) (by simp), hcs, fun i h1 h2 => by omega⟩
  clear c0 c1 c2 hmk hbw hbx
  go_loopw [1, 6] (fun x i wr => ∃ j : Nat, j ≤ N ∧ x = .int .u32 (S / 2 ^ (8 * (N - j)) : Nat) ∧ i = .int .i64 ((j : Int) - 1) ∧ Laying w w1.heap.size N S j wr) (fun _ i _ => (intOf i + 1).toNat)
  case atStart => exact ⟨N, by omega, by simp, rfl, hst⟩
  case round =>
    clear hst
    obtain ⟨j, hj, rfl, rfl, hL⟩ := hrel
    rcases j with _ | j
    · obtain ⟨bel, hg, cur, hb, hs, hc⟩ := hL
      go_wp2
      go_ret
      refine ⟨w1.heap.size, rfl, ⟨by simp [M.tail_length], .inr ⟨w1.heap.size, N, cur, rfl, hg, hb, Nat.le_refl _, by unfold maxLen; omega, by omega, ?_⟩⟩, bel⟩
      refine List.ext_getElem? fun i => ?_
      rcases Nat.lt_or_ge i N with hi | hi
      · rw [List.getElem?_take_of_lt (by omega), Array.getElem?_toList, hc i (by omega) hi, List.getElem?_map]
        simp [M.tail, hi]
      · rw [List.getElem?_eq_none (by simp; omega), List.getElem?_eq_none (by simp [M.tail_length]; omega)]
    · have hL' := hL
      obtain ⟨bel, hg, cur, hb, hs, hc⟩ := hL
      obtain ⟨v0, hv0⟩ : ∃ v0, cur[j]? = some v0 := ⟨_, Array.getElem?_eq_getElem (by omega)⟩
      have hcell := hb.cell hv0
      have hfree := hb.free j
      have e1 : ((j + 1 : Nat) : Int) - 1 = (j : Int) := by omega
      rw [e1]
      have hxn : S / 2 ^ (8 * (N - (j + 1))) / 256 = S / 2 ^ (8 * (N - j)) := by
        rw [Nat.div_div_eq_div_mul, show (256 : Nat) = 2 ^ 8 from rfl, ← Nat.pow_add, show 8 * (N - (j + 1)) + 8 = 8 * (N - j) by omega]
      have hxl : S / 2 ^ (8 * (N - (j + 1))) ≤ S := Nat.div_le_self _ _
      have hxe : S / 2 ^ (8 * (N - 1 - j)) = S / 2 ^ (8 * (N - (j + 1))) := by rw [show N - 1 - j = N - (j + 1) by omega]
      obtain ⟨x, hx⟩ : ∃ x, x = S / 2 ^ (8 * (N - (j + 1))) := ⟨_, rfl⟩
      rw [← hx] at hxn hxl hxe ⊢
      replace hxn : Hid (x / 256 = S / 2 ^ (8 * (N - j))) := hxn
      replace hxe : Hid (S / 2 ^ (8 * (N - 1 - j)) = x) := hxe
      clear hx e1 hc hv0
      have i1 : (0 : Int) ≤ j := by omega
      have i2 : (j : Int) < N := by omega
      go_wp2
      go_roundw
      case rel =>
        refine ⟨j, by omega, ?_, by go_num, laying_step hL' (by omega) x (show S / 2 ^ (8 * (N - 1 - j)) = x from hxe).symm _ (by omega)⟩
        rw [← show x / 256 = _ from hxn]
        go_num
      case measure => simp [intOf]

set_option maxRecDepth 100000 in
theorem Bits_ok (n s p : Nat) (v : Value) (xs : List Nat) (N : Nat) (w : World) (hk : Knd n s p) (hv : Given w v xs) (hl : xs.length ≤ 65536) (hN : N ≤ 8 * xs.length) :
    Calls Try.prog 10 #[.int .i64 n, v, .int .i64 N] w fun e w' => e = .returned (.tuple #[.int .u32 (M.run n p (M.bitL xs) s N : Nat), .int .i64 0]) ∧ Below w.heap.size w w' := by
  obtain ⟨a, c, rfl, hc⟩ := hv.form
  have t1 : ¬ (N : Int) < 0 := by omega
  have t2 : ¬ (8 : Int) * (xs.length : Int) < (N : Int) := by omega
  have hkd := kindOf_ok n s p w hk
  unfold kv at hkd
  go_enter Try.func10, Try.ntmps10
  go_wp2_with (first
    | (go_at_call 16; refine hkd.mono ?_; clear hkd; rintro e w1 ⟨rfl, bel1⟩; have b2 : Below w1.heap.size w1 (w1.alloc (.cells #[.int .i64 n, .int .u32 s, .int .u32 p] 42)) := (Below.refl _ w1).alloc (Nat.le_refl _) _; have hv2 := (hv.below bel1 (Nat.le_refl _)).below b2 (Nat.le_refl _))
    | (go_at_call 17; refine (sum_any n s p _ xs N _ hk hv2 hl hN).mono ?_; rintro e w3 ⟨rfl, bel3⟩))
  go_ret2
  have := bel1.size
  exact ⟨rfl, bel1.trans (Bits.Below.less (b2.trans (Bits.Below.less bel3 b2.size)) bel1.size)⟩

set_option maxRecDepth 100000 in
theorem Bits_out (n s p : Nat) (a : Option Addr) (l c : Nat) (N : Int) (w : World) (hk : Knd n s p) (hl : l ≤ 65536) (hN : N < 0 ∨ 8 * (l : Int) < N) :
    Calls Try.prog 10 #[.int .i64 n, .slice a l c, .int .i64 N] w fun e w' => e = .returned (.tuple #[.int .u32 0, .int .i64 1]) ∧ Below w.heap.size w w' := by
  have hkd := kindOf_ok n s p w hk
  unfold kv at hkd
  rcases (by omega : N < 0 ∨ (¬ N < 0 ∧ 8 * (l : Int) < N)) with h | ⟨h1, h2⟩
  all_goals (
    go_enter Try.func10, Try.ntmps10
    go_wp2_with (go_at_call 16; refine hkd.mono ?_; rintro e w1 ⟨rfl, bel1⟩)
    go_ret2
    have := bel1.size
    exact ⟨rfl, bel1.alloc (by omega) _⟩)

set_option maxRecDepth 100000 in
theorem Bits_no (n : Int) (a : Option Addr) (l c : Nat) (N : Int) (w : World) (h1 : n ≠ 8) (h2 : n ≠ 16) (h3 : n ≠ 24) :
    Calls Try.prog 10 #[.int .i64 n, .slice a l c, .int .i64 N] w fun e w' => e = .returned (.tuple #[.int .u32 0, .int .i64 1]) ∧ Below w.heap.size w w' := by
  have hkd := kindOf_no n w h1 h2 h3
  unfold kv at hkd
  go_enter Try.func10, Try.ntmps10
  go_wp2_with (go_at_call 16; refine hkd.mono ?_; rintro e w1 ⟨rfl, bel1⟩)
  go_ret2
  have := bel1.size
  exact ⟨rfl, bel1.alloc (by omega) _⟩

theorem Of_ok (n s p : Nat) (v : Value) (xs : List Nat) (w : World) (hk : Knd n s p) (hv : Given w v xs) (hl : xs.length ≤ 65536) :
    Calls Try.prog 9 #[.int .i64 n, v] w fun e w' => e = .returned (.tuple #[.int .u32 (M.run n p (M.bitL xs) s (8 * xs.length) : Nat), .int .i64 0]) ∧ Below w.heap.size w w' := by
  obtain ⟨a, c, rfl, hc⟩ := hv.form
  have e8 : Hid ((8 : Int) * (xs.length : Int) = ((8 * xs.length : Nat) : Int)) := show (8 : Int) * (xs.length : Int) = ((8 * xs.length : Nat) : Int) by omega
  go_enter Try.func9, Try.ntmps9
  go_wp2_with (go_at_call 10; rw [show (8 : Int) * (xs.length : Int) = ((8 * xs.length : Nat) : Int) from e8]; refine (Bits_ok n s p _ xs (8 * xs.length) _ hk hv hl (Nat.le_refl _)).mono ?_; rintro e w1 ⟨rfl, bel1⟩)
  go_ret2
  exact ⟨rfl, bel1⟩

theorem Of_no (n : Int) (a : Option Addr) (l c : Nat) (w : World) (h1 : n ≠ 8) (h2 : n ≠ 16) (h3 : n ≠ 24) (hl : l ≤ 65536) :
    Calls Try.prog 9 #[.int .i64 n, .slice a l c] w fun e w' => e = .returned (.tuple #[.int .u32 0, .int .i64 1]) ∧ Below w.heap.size w w' := by
  go_enter Try.func9, Try.ntmps9
  go_wp2_with (go_at_call 10; refine (Bits_no n a l c _ _ h1 h2 h3).mono ?_; rintro e w1 ⟨rfl, bel1⟩)
  go_ret2
  exact ⟨rfl, bel1⟩

end Chk
end Go.Proofs.Ytifafoecejnhkaa
