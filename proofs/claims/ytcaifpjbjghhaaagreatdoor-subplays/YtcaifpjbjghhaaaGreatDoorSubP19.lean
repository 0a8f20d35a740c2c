import Derived.Deep.RegionHeld3
import Derived.Laws.MakeOwn
import Derived.Test.YtcaifpjbjghhaaaGreatDoorSubP07
import Derived.Test.YtcaifpjbjghhaaaGreatDoorSubP11
/-
  Contracts of package check: sum, sumOf, laid, Bits, Of. Conditions: the bytes stand in memory.
-/
namespace Go.Proofs.YtcaifpjbjghhaaaGreatDoor
set_option linter.unusedVariables false
open Go.RowKit
namespace Chk
open Bits (Blk But add_at wrap_id)
open Byt (Given)

theorem of_drew {N : Nat} {w w' : World} (h : Below N w.drew w') : Below N w w' := ⟨h.os, h.tape, h.output, h.size, h.block⟩
theorem of_drewN {N m : Nat} {w w' : World} (h : Below N (w.drewN m) w') : Below N w w' := ⟨h.os, h.tape, h.output, h.size, h.block⟩
theorem run_byte (n p S : Nat) (xs : List Nat) (m k : Nat) (hk : k ≤ 8) : M.run n p (bt (xs.getD m 0)) (M.run n p (M.bitL xs) S (8 * m)) k = M.run n p (M.bitL xs) S (8 * m + k) := by
  rw [M.run_add]
  refine M.run_congr _ _ _ _ _ k fun i hi => ?_
  show (xs.getD m 0).testBit (7 - i) = (xs.getD ((8 * m + i) / 8) 0).testBit (7 - (8 * m + i) % 8)
  rw [show (8 * m + i) / 8 = m by omega, show (8 * m + i) % 8 = i by omega]
theorem getD_lt {xs : List Nat} (h : ∀ x ∈ xs, x < 256) (i : Nat) : xs.getD i 0 < 256 := by
  unfold List.getD
  cases e : xs[i]? with
  | none => simp
  | some x => simpa using h x (List.mem_of_getElem? e)

set_option maxRecDepth 100000 in
set_option maxHeartbeats 1000000 in
theorem sum_any (n s p : Nat) (v : Value) (xs : List Nat) (N : Nat) (w : World) (hk : Knd n s p) (hv : Given w v xs) (hl : xs.length ≤ 65536) (hN : N ≤ 8 * xs.length) :
    Calls Tryz.prog 183 #[kv n s p, v, .int .i64 N] w fun e w' => e = .returned (.int .u32 (M.run n p (M.bitL xs) s N : Nat)) ∧ Below w.heap.size w w' := by
  have hs := hk.small
  obtain ⟨q, r, hq, hr⟩ : ∃ q r, N = 8 * q + r ∧ r < 8 := ⟨N / 8, N % 8, by omega, by omega⟩
  obtain ⟨a, c, rfl, hc⟩ := hv.form
  have hsl := Byt.run_head a xs.length c q (by omega)
  have hgh := hv.head q (by omega)
  obtain ⟨a', ha'⟩ : ∃ a', a' = Byt.head_ a c := ⟨_, rfl⟩
  rw [← ha'] at hsl hgh
  clear ha'
  have htl : ∀ m, m < q → (xs.take q).getD m 0 = xs.getD m 0 := fun m hm => by simp [List.getD, hm]
  have hql : (xs.take q).length = q := by simp; omega
  have eq1 : (N : Int) / 8 = q := by omega
  have eq2 : (N : Int) % 8 = r := by omega
  have eN0 : (0 : Int) ≤ N := by omega
  have hqx : q ≤ xs.length := by omega
  have hNe : Hid (N = 8 * q + r) := hq
  clear hq
  have hNl : N ≤ 600000 := by omega
  unfold kv
  go_enter Tryz.func183, Tryz.ntmps183
  go_wp2
  go_loopw [9, 22] (fun t i wr => ∃ m : Nat, m ≤ q ∧ t = .int .u32 (M.run n p (M.bitL xs) s (8 * m) : Nat) ∧ i = .int .i64 m ∧ Below w.heap.size w wr ∧ Blk wr w.heap.size #[.int .i64 n, .int .u32 s, .int .u32 p] 278) (fun _ i _ => q - (intOf i).toNat)
  case atStart => exact ⟨0, by omega, rfl, rfl, (Below.refl _ w).alloc (Nat.le_refl _) _, Blk.new _ _ _⟩
  case round =>
    obtain ⟨m, hm, rfl, rfl, bel, hb⟩ := hrel
    obtain ⟨c0, c1, c2⟩ := kv_cells hb
    have hR := M.run_lt n p s (8 * m) (M.bitL xs) hk.p_lt hk.s_lt
    by_cases hlt : m < q
    · obtain ⟨b0, off, rfl, hb0, hcell⟩ := hgh.cell (i := m) (by omega)
      rw [htl m hlt] at hcell
      have hst := run_byte n p s xs m 8 (by omega)
      have hx := getD_lt hv.lt m
      have hcell' : wr.cell? ⟨b0, off + m, none⟩ = some (.int .u8 (xs.getD m 0 : Nat)) := (bel.cell hb0).trans hcell
      obtain ⟨x, hxe⟩ : ∃ x, x = xs.getD m 0 := ⟨_, rfl⟩
      obtain ⟨R, hRe⟩ : ∃ R, R = M.run n p (M.bitL xs) s (8 * m) := ⟨_, rfl⟩
      rw [← hxe] at hst hx hcell'
      rw [← hRe] at hst hR ⊢
      have hRl : R < 4294967296 := by omega
      have i1 : (0 : Int) ≤ m := by omega
      have i2 : (m : Int) < q := by omega
      clear hcell hxe hRe htl hsl hgh hv eq2
      replace hst : Hid (M.run n p (bt x) R 8 = M.run n p (M.bitL xs) s (8 * m + 8)) := hst
      go_wp2_with (go_at_call 213; refine (over_any n s p R x 8 _ hk hR hx (by omega)).mono ?_; rintro e w' ⟨rfl, bel'⟩)
      go_roundw
      case rel =>
        have fin : M.run n p (bt x) R 8 = M.run n p (M.bitL xs) s (8 * (m + 1)) := hst
        have bel2 := bel.trans (Bits.Below.less bel' bel.size)
        have hb2 := Bits.Below.blk bel' hb hb.lt
        first | exact ⟨m + 1, by omega, by rw [fin], by go_num, bel2, hb2⟩ | ((repeat apply Exists.intro); refine ⟨?_, rfl⟩; exact ⟨m + 1, by omega, by rw [fin], by go_num, bel2, hb2⟩)
      case measure => simp [intOf]; omega
    · obtain rfl : m = q := by omega
      rcases Nat.eq_zero_or_pos r with h0 | h0
      · subst h0
        go_wp2
        go_ret
        refine ⟨?_, bel⟩
        rw [show N = 8 * m + 0 from hNe]
        rfl
      · have hlm : m < xs.length := by have : N = 8 * m + r := hNe; omega
        obtain ⟨b0, off, rfl, hb0, hcell⟩ := hv.cell (i := m) hlm
        have hst := run_byte n p s xs m r (by omega)
        have hx := getD_lt hv.lt m
        have hcell' : wr.cell? ⟨b0, off + m, none⟩ = some (.int .u8 (xs.getD m 0 : Nat)) := (bel.cell hb0).trans hcell
        have hst' : M.run n p (bt (xs.getD m 0)) (M.run n p (M.bitL xs) s (8 * m)) r = M.run n p (M.bitL xs) s N := by rw [show N = 8 * m + r from hNe]; exact hst
        clear hst
        obtain ⟨x, hxe⟩ : ∃ x, x = xs.getD m 0 := ⟨_, rfl⟩
        obtain ⟨R, hRe⟩ : ∃ R, R = M.run n p (M.bitL xs) s (8 * m) := ⟨_, rfl⟩
        rw [← hxe] at hst' hx hcell'
        rw [← hRe] at hst' hR ⊢
        have hRl : R < 4294967296 := by omega
        have i1 : (0 : Int) ≤ m := by omega
        have i2 : (m : Int) < xs.length := by omega
        have i3 : (0 : Int) < r := by omega
        clear hcell hxe hRe htl hsl hgh hv
        replace hst' : Hid (M.run n p (bt x) R r = M.run n p (M.bitL xs) s N) := hst'
        go_wp2
        go_region_held3 (fun w' => w'.cell? ⟨w.heap.size, 0, none⟩ = some (.int .i64 n) ∧ w'.cell? ⟨w.heap.size, 1, none⟩ = some (.int .u32 s) ∧ w'.cell? ⟨w.heap.size, 2, none⟩ = some (.int .u32 p) ∧ w'.cell? ⟨b0, off + m, none⟩ = some (.int .u8 x))
          (first | go_keep | (exact ⟨(bel1.cell hb.lt).trans c0, (bel1.cell hb.lt).trans c1, (bel1.cell hb.lt).trans c2, (bel1.cell (show b0 < wr.heap.size by have := bel.size; omega)).trans hcell'⟩))
          (first | (go_at_call 213; refine (over_any n s p R x r _ hk hR hx (by omega)).mono ?_; rintro e w1 ⟨rfl, bel1⟩))
        all_goals go_wp2
        all_goals go_ret
        all_goals exact ⟨by rw [← show M.run n p (bt x) R r = _ from hst']; rfl, bel.trans (Bits.Below.less (of_drew bel1) bel.size)⟩

theorem made_u8 (w : World) (n : Nat) (hn : n ≤ 512) :
    ∃ cs : Array Value, cs.size = n ∧ (Instr.makeSlice 47 (.int .i64 n) (.int .i64 n)).run Tryz.prog w = .ok (.slice (some ⟨w.heap.size, 0, none⟩) n n) (w.alloc (.cells cs 5)) := by
  obtain ⟨i0, hi, hz0, hz1, hz2⟩ := info_parts Byt.info8
  have := run_make (P := Tryz.prog) w 47 5 i0 (.int .u8 0) Tryz.underlying47 hi hz0 .i64 .i64 n n (by omega) (by omega) (by rw [hz2]; omega) (by omega)
  refine ⟨_, ?_, by simpa using this⟩
  rw [hz1]
  have hl : (madeCells #[Value.int .u8 0] n).toList.length = n := by rw [toList_madeCells_one]; simp
  simpa [Value.cells] using hl

set_option maxRecDepth 100000 in
theorem Bits_ok (n s p : Nat) (v : Value) (xs : List Nat) (N : Nat) (w : World) (hk : Knd n s p) (hv : Given w v xs) (hl : xs.length ≤ 65536) (hN : N ≤ 8 * xs.length) :
    Calls Tryz.prog 135 #[.int .i64 n, v, .int .i64 N] w fun e w' => e = .returned (.tuple #[.int .u32 (M.run n p (M.bitL xs) s N : Nat), .int .i64 0]) ∧ Below w.heap.size w w' := by
  obtain ⟨a, c, rfl, hc⟩ := hv.form
  have t1 : ¬ (N : Int) < 0 := by omega
  have t2 : ¬ (8 : Int) * (xs.length : Int) < (N : Int) := by omega
  have hkd := kindOf_ok n s p w hk
  unfold kv at hkd
  go_enter Tryz.func135, Tryz.ntmps135
  go_wp2_with (first
    | (go_at_call 182; refine hkd.mono ?_; clear hkd; rintro e w1 ⟨rfl, bel1⟩; have b2 : Below w1.heap.size w1 (w1.alloc (.cells #[.int .i64 n, .int .u32 s, .int .u32 p] 278)) := (Below.refl _ w1).alloc (Nat.le_refl _) _; have hv2 := (hv.below bel1 (Nat.le_refl _)).below b2 (Nat.le_refl _))
    | (go_at_call 183; refine (sum_any n s p _ xs N _ hk hv2 hl hN).mono ?_; rintro e w3 ⟨rfl, bel3⟩))
  go_ret2
  have := bel1.size
  exact ⟨rfl, bel1.trans (Bits.Below.less (b2.trans (Bits.Below.less bel3 b2.size)) bel1.size)⟩

end Chk
end Go.Proofs.YtcaifpjbjghhaaaGreatDoor

