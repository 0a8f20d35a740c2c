import Derived.RegionCalls
import Derived.Test.YtcaifpjbjghhaaaGreatDoorSubPB00
import Derived.BigQuiet
import Derived.Maps.AppendAt
import Derived.Deep.DeepCutAuto
import Derived.Test.YtcaifpjbjghhaaaGreatDoorSubA00
import Derived.Test.YtcaifpjbjghhaaaGreatDoorSubA01
import Derived.Test.YtcaifpjbjghhaaaGreatDoorSubA02
import Derived.Test.YtcaifpjbjghhaaaGreatDoorSubA03
import Derived.Test.YtcaifpjbjghhaaaGreatDoorSubA04
import Derived.Test.YtcaifpjbjghhaaaGreatDoorSubA05
import Derived.Test.YtcaifpjbjghhaaaGreatDoorSubA06
import Derived.Test.YtcaifpjbjghhaaaGreatDoorSubA07
import Derived.Test.YtcaifpjbjghhaaaGreatDoorSubA08
import Derived.Test.YtcaifpjbjghhaaaGreatDoorSubA09
import Derived.Test.YtcaifpjbjghhaaaGreatDoorSubA10
import Derived.Test.YtcaifpjbjghhaaaGreatDoorSubA11
import Derived.Test.YtcaifpjbjghhaaaGreatDoorSubA12
import Derived.Test.YtcaifpjbjghhaaaGreatDoorSubA13
import Derived.Test.YtcaifpjbjghhaaaGreatDoorSubA14
import Derived.Test.YtcaifpjbjghhaaaGreatDoorSubA15
import Derived.Test.YtcaifpjbjghhaaaGreatDoorSubA16
import Derived.Test.YtcaifpjbjghhaaaGreatDoorSubA17
import Derived.Test.YtcaifpjbjghhaaaGreatDoorSubA18
import Derived.Test.YtcaifpjbjghhaaaGreatDoorSubA19
import Derived.Test.YtcaifpjbjghhaaaGreatDoorSubA20
import Derived.Test.YtcaifpjbjghhaaaGreatDoorSubA21
import Derived.Test.YtcaifpjbjghhaaaGreatDoorSubA22
import Derived.Test.YtcaifpjbjghhaaaGreatDoorSubA23
import Derived.Test.YtcaifpjbjghhaaaGreatDoorSubA24
import Derived.Test.YtcaifpjbjghhaaaGreatDoorSubA25
import Derived.Test.YtcaifpjbjghhaaaGreatDoorSubA26
import Derived.Test.YtcaifpjbjghhaaaGreatDoorSubA27
import Derived.Test.YtcaifpjbjghhaaaGreatDoorSubA28
import Derived.Test.YtcaifpjbjghhaaaGreatDoorSubA29
import Derived.Test.YtcaifpjbjghhaaaGreatDoorSubA30
import Derived.Test.YtcaifpjbjghhaaaGreatDoorSubA31
import Derived.Test.YtcaifpjbjghhaaaGreatDoorSubA32
import Derived.Test.YtcaifpjbjghhaaaGreatDoorSubA33
import Derived.Test.YtcaifpjbjghhaaaGreatDoorSubA34
import Derived.Test.YtcaifpjbjghhaaaGreatDoorSubA35
import Derived.Test.YtcaifpjbjghhaaaGreatDoorSubA36
import Derived.Test.YtcaifpjbjghhaaaGreatDoorSubA37
import Derived.Test.YtcaifpjbjghhaaaGreatDoorSubA38
import Derived.Test.YtcaifpjbjghhaaaGreatDoorSubA39
import Derived.Test.YtcaifpjbjghhaaaGreatDoorSubA40
import Derived.Test.YtcaifpjbjghhaaaGreatDoorSubA41
import Derived.Test.YtcaifpjbjghhaaaGreatDoorSubA42
import Derived.Test.YtcaifpjbjghhaaaGreatDoorSubA43
import Derived.Test.YtcaifpjbjghhaaaGreatDoorSubA44
import Derived.Test.YtcaifpjbjghhaaaGreatDoorSubPB00
/-
  Contracts: samples that are woven. Conditions: as told at each.
-/
namespace Go.Proofs.YtcaifpjbjghhaaaGreatDoor
set_option linter.unusedVariables false
open Go.RowKit
namespace Pcm
open Bank (Blk But)
open Poly

theorem makeBig (w : World) (n : Nat) (hn : n ≤ 140737488355328) : (Instr.makeSlice 55 (.int .i64 n) (.int .i64 n)).run Tryz.prog w = .ok (.slice (some ⟨w.heap.size, 0, none⟩) n n) (w.alloc (.cells (zs16 n) 182)) := by
  obtain ⟨i0, hi, hz0, hz1, hz2⟩ := info_parts info16
  have := run_make (P := Tryz.prog) w 55 182 i0 (.int .i16 0) Tryz.underlying55 hi hz0 .i64 .i64 n n (by omega) (by omega) (by rw [hz2]; omega) (by omega)
  unfold zs16
  rw [this, hz1, enc_rep, ← madeCells_rep]; simp [Value.cells]

theorem Wov.of_drewN {c n k m : Nat} {l : List (List Int)} {w0 w : World} (h : Wov c n k l (w0.drewN m) w) : Wov c n k l w0 w := ⟨h.1, h.2.1, ⟨h.2.2.os, h.2.2.tape, h.2.2.output, h.2.2.size, h.2.2.block⟩⟩

set_option maxRecDepth 100000 in
set_option maxHeartbeats 1000000 in
theorem Weave_1 (lo hi n : Nat) (v : Value) (xs : List Int) (w : World) (h : Poly.Rows .i16 lo hi w v [xs]) (hh : hi ≤ w.heap.size) (hn : xs.length = n) (hl : n ≤ 70368744177664) :
    Calls Tryz.prog 93 #[v] w fun e w' => e = .returned (.tuple #[.slice (some ⟨w.heap.size, 0, none⟩) n n, .int .i64 0]) ∧ Wov 1 n n [xs] w w' := by
  obtain ⟨a, cp, rfl, _⟩ := h.form
  obtain ⟨b, off, rfl, k0, k1, hx⟩ := h.cell (by simp)
  obtain ⟨u, hu, hr⟩ := hx 0 (by simp)
  simp only [Nat.add_zero] at hu
  have hr : Reads .i16 lo hi w u xs := hr
  obtain ⟨a', c', rfl⟩ := hr.form
  have hcell : ∀ i, i < n → ∃ b' off', a' = some ⟨b', off', none⟩ ∧ b' < w.heap.size ∧ w.cell? ⟨b', off' + i, none⟩ = some (.int .i16 (xs.getD i 0)) := fun i hi' => by
    obtain ⟨b', off', ha, _, hb, hc⟩ := hr.cell (by omega)
    exact ⟨b', off', ha, by omega, hc i (by omega)⟩
  have hb : b < w.heap.size := by omega
  rw [hn] at hu
  have hF : ∀ k, ([xs].getD (k % 1) []).getD (k / 1) 0 = xs.getD k 0 := fun k => by simp [Nat.mod_one]
  have HF : Hid _ := hF
  have HA : Hid _ := hcell
  have n1 : (n : Int) ≤ 70368744177664 := by omega
  have n0 : (0 : Int) ≤ n := by omega
  have hcb := fun wx => canBe_any 1 wx
  rw [show decide ((1 : Int) ≤ 1 ∧ (1 : Int) ≤ 2) = true from rfl] at hcb
  rw [List.length_singleton]
  have Hl : Hid (n ≤ 70368744177664) := hl
  clear hcell h hx hl hn hF hr
  go_enter Tryz.func93, Tryz.ntmps93
  go_wp2
  go_quiet (first | (go_at_call 145; exact Calls.quiet_of_same (hcb _)))
  obtain ⟨W, hW⟩ : ∃ W, W = w.drewN nq := ⟨_, rfl⟩
  rw [← hW]
  have hu2 : W.cell? ⟨b, off, none⟩ = some (.slice a' n c') := by rw [hW]; exact hu
  have hmk := makeBig W n (by have := Hl.out; omega)
  have hst := Wov.start 1 n 0 [xs] W
  rw [show W.drewN 0 = W from rfl, Nat.one_mul] at hst
  generalize zs16 n = cs at hmk hst
  have HW : Hid (W = w.drewN nq) := hW
  have Hb : Hid (b < W.heap.size) := by rw [hW]; exact hb
  clear hW hcb hu hb
  go_wp2
  go_loopw [34] (fun i wr => ∃ k : Nat, k ≤ n ∧ i = .int .i64 k ∧ Wov 1 n k [xs] W wr) (fun i _ => n - (intOf i).toNat)
  case atStart => exact ⟨0, by omega, rfl, hst⟩
  case round =>
    clear hst hmk
    obtain ⟨k, hk, rfl, hf, hs, hbel⟩ := hrel
    by_cases hlt : k < n
    · obtain ⟨b', off', rfl, hb0, hc⟩ := HA.out k hlt
      have hb2 : b' < W.heap.size := by rw [HW.out]; exact hb0
      have hc1 : W.cell? ⟨b', off' + k, none⟩ = some (.int .i16 (xs.getD k 0)) := by rw [HW.out]; exact hc
      have hc2 : wr.cell? ⟨b', off' + k, none⟩ = some (.int .i16 (xs.getD k 0)) := (hbel.cell hb2).trans hc1
      have hu3 : wr.cell? ⟨b, off, none⟩ = some (.slice (some ⟨b', off', none⟩) n c') := (hbel.cell Hb.out).trans hu2
      have i1 : (0 : Int) ≤ k := by omega
      have i2 : (k : Int) < n := by omega
      have e1 : (k : Int).tmod 1 = 0 := by simp
      have e2 : (k : Int).tdiv 1 = k := by simp
      rw [Nat.one_mul] at hf
      obtain ⟨⟨u1, hu1⟩, hfz1⟩ := hf.cell (j := k) hlt
      have hstep := hf.step hlt (x := xs.getD k 0) (HF.out k).symm
      have HS : Hid (Fill _ _ _ _ _ _ _) := hstep
      have HBe : Hid (Below _ _ _) := hbel
      have Hs : Hid (wr.heap.size = _) := hs
      clear hstep hf hbel hs hc hc1 hb0 hb2
      generalize xs.getD k 0 = x at *
      go_wp2
      go_region
      go_wp2
      go_roundw
      case rel => exact ⟨k + 1, by omega, by go_num, by rw [Nat.one_mul]; exact HS.out, by simpa [World.setCell] using Hs.out, below_drew (HBe.out.setCell (Nat.le_refl _) _)⟩
      case measure => simp [intOf]; omega
    · obtain rfl : k = n := by omega
      go_wp2
      go_ret2
      have hw := HW.out
      subst hw
      exact ⟨rfl, Wov.of_drewN ⟨hf, hs, hbel⟩⟩

set_option maxRecDepth 100000 in
set_option maxHeartbeats 1000000 in
theorem Weave_2 (lo hi n : Nat) (v : Value) (xs ys : List Int) (w : World) (h : Poly.Rows .i16 lo hi w v [xs, ys]) (hh : hi ≤ w.heap.size) (hn : xs.length = n) (hm : ys.length = n) (hl : n ≤ 70368744177664) :
    Calls Tryz.prog 93 #[v] w fun e w' => e = .returned (.tuple #[.slice (some ⟨w.heap.size, 0, none⟩) (2 * n) (2 * n), .int .i64 0]) ∧ Wov 2 n (2 * n) [xs, ys] w w' := by
  obtain ⟨a, cp, rfl, _⟩ := h.form
  obtain ⟨b, off, rfl, k0, k1, hx⟩ := h.cell (by simp)
  obtain ⟨u, hu, hr⟩ := hx 0 (by simp)
  obtain ⟨u', hu', hr'⟩ := hx 1 (by simp)
  simp only [Nat.add_zero] at hu
  have hr : Reads .i16 lo hi w u xs := hr
  have hr' : Reads .i16 lo hi w u' ys := hr'
  obtain ⟨a', c', rfl⟩ := hr.form
  obtain ⟨a'', c'', rfl⟩ := hr'.form
  have hcell : ∀ i, i < n → ∃ b' off', a' = some ⟨b', off', none⟩ ∧ b' < w.heap.size ∧ w.cell? ⟨b', off' + i, none⟩ = some (.int .i16 (xs.getD i 0)) := fun i hi' => by
    obtain ⟨b', off', ha, _, hb, hc⟩ := hr.cell (by omega)
    exact ⟨b', off', ha, by omega, hc i (by omega)⟩
  have hcell' : ∀ i, i < n → ∃ b' off', a'' = some ⟨b', off', none⟩ ∧ b' < w.heap.size ∧ w.cell? ⟨b', off' + i, none⟩ = some (.int .i16 (ys.getD i 0)) := fun i hi' => by
    obtain ⟨b', off', ha, _, hb, hc⟩ := hr'.cell (by omega)
    exact ⟨b', off', ha, by omega, hc i (by omega)⟩
  have hb : b < w.heap.size := by omega
  rw [hn] at hu
  rw [hm] at hu'
  have HA : Hid _ := hcell
  have HA' : Hid _ := hcell'
  obtain ⟨N, hN⟩ : ∃ N, 2 * n = N := ⟨_, rfl⟩
  rw [hN]
  have n1 : (n : Int) ≤ 70368744177664 := by omega
  have n0 : (0 : Int) ≤ n := by omega
  have n2 : (N : Int) ≤ 140737488355328 := by omega
  have n3 : 2 * (n : Int) = N := by omega
  have hcb := fun wx => canBe_any 2 wx
  rw [show decide ((1 : Int) ≤ 2 ∧ (2 : Int) ≤ 2) = true from rfl] at hcb
  rw [show ([xs, ys] : List (List Int)).length = 2 from rfl]
  have Hl : Hid (n ≤ 70368744177664 ∧ 2 * n = N) := ⟨hl, hN⟩
  clear hcell hcell' h hx hl hn hr hr' hm hN
  go_enter Tryz.func93, Tryz.ntmps93
  go_wp2
  go_quiet (first | (go_at_call 145; exact Calls.quiet_of_same (hcb _)))
  obtain ⟨W, hW⟩ : ∃ W, W = w.drewN nq := ⟨_, rfl⟩
  rw [← hW]
  have hu2 : W.cell? ⟨b, off, none⟩ = some (.slice a' n c') := by rw [hW]; exact hu
  have hu2' : W.cell? ⟨b, off + 1, none⟩ = some (.slice a'' n c'') := by rw [hW]; exact hu'
  have hmk := makeBig W N (by have := Hl.out; omega)
  have hst := Wov.start 2 n 0 [xs, ys] W
  rw [show W.drewN 0 = W from rfl, Hl.out.2] at hst
  generalize zs16 N = cs at hmk hst
  have HW : Hid (W = w.drewN nq) := hW
  have Hb : Hid (b < W.heap.size) := by rw [hW]; exact hb
  clear hW hcb hu hb hu'
  go_wp2
  go_loopw [34] (fun i wr => ∃ k : Nat, k ≤ N ∧ i = .int .i64 k ∧ Wov 2 n k [xs, ys] W wr) (fun i _ => N - (intOf i).toNat)
  case atStart => exact ⟨0, by omega, rfl, hst⟩
  case round =>
    clear hst hmk
    obtain ⟨k, hk, rfl, hf, hs, hbel⟩ := hrel
    by_cases hlt : k < N
    · rw [Hl.out.2] at hf
      obtain ⟨⟨u1, hu1⟩, hfz1⟩ := hf.cell (j := k) hlt
      obtain ⟨q, hq⟩ : ∃ q, q = k / 2 := ⟨_, rfl⟩
      have hqn : q < n := by have := Hl.out.2; omega
      have i1 : (0 : Int) ≤ k := by omega
      have i2 : (k : Int) < N := by omega
      have i3 : (q : Int) < n := by omega
      have e2 : (k : Int).tdiv 2 = q := by rw [Int.tdiv_eq_ediv_of_nonneg (by omega)]; omega
      have e4 : (k : Int) / 2 = q := by omega
      have hu3 : wr.cell? ⟨b, off, none⟩ = some (.slice a' n c') := (hbel.cell Hb.out).trans hu2
      have hu4 : wr.cell? ⟨b, off + 1, none⟩ = some (.slice a'' n c'') := (hbel.cell Hb.out).trans hu2'
      have HBe : Hid (Below _ _ _) := hbel
      have Hs : Hid (wr.heap.size = _) := hs
      rcases Nat.mod_two_eq_zero_or_one k with hp | hp
      · obtain ⟨b', off', rfl, hb0, hc⟩ := HA.out q hqn
        have hb2 : b' < W.heap.size := by rw [HW.out]; exact hb0
        have hc1 : W.cell? ⟨b', off' + q, none⟩ = some (.int .i16 (xs.getD q 0)) := by rw [HW.out]; exact hc
        have hc2 : wr.cell? ⟨b', off' + q, none⟩ = some (.int .i16 (xs.getD q 0)) := (hbel.cell hb2).trans hc1
        have e1 : (k : Int).tmod 2 = 0 := by rw [Int.tmod_eq_emod_of_nonneg (by omega)]; omega
        have e3 : (k : Int) % 2 = 0 := by omega
        have hstep := hf.step hlt (x := xs.getD q 0) (by show _ = ([xs, ys].getD (k % 2) []).getD (k / 2) 0; rw [hp, ← hq]; rfl)
        have HS : Hid (Fill _ _ _ _ _ _ _) := hstep
        clear hstep hf hbel hs hc hc1 hb0 hb2 hq hp HA HA'
        generalize xs.getD q 0 = x at *
        go_wp2
        go_region
        go_wp2
        go_roundw
        case rel => exact ⟨k + 1, by omega, by go_num, by rw [Hl.out.2]; exact HS.out, by simpa [World.setCell] using Hs.out, below_drew (HBe.out.setCell (Nat.le_refl _) _)⟩
        case measure => simp [intOf]; omega
      · obtain ⟨b', off', rfl, hb0, hc⟩ := HA'.out q hqn
        have hb2 : b' < W.heap.size := by rw [HW.out]; exact hb0
        have hc1 : W.cell? ⟨b', off' + q, none⟩ = some (.int .i16 (ys.getD q 0)) := by rw [HW.out]; exact hc
        have hc2 : wr.cell? ⟨b', off' + q, none⟩ = some (.int .i16 (ys.getD q 0)) := (hbel.cell hb2).trans hc1
        have e1 : (k : Int).tmod 2 = 1 := by rw [Int.tmod_eq_emod_of_nonneg (by omega)]; omega
        have e3 : (k : Int) % 2 = 1 := by omega
        have hstep := hf.step hlt (x := ys.getD q 0) (by show _ = ([xs, ys].getD (k % 2) []).getD (k / 2) 0; rw [hp, ← hq]; rfl)
        have HS : Hid (Fill _ _ _ _ _ _ _) := hstep
        clear hstep hf hbel hs hc hc1 hb0 hb2 hq hp HA HA'
        generalize ys.getD q 0 = x at *
        go_wp2
        go_region
        go_wp2
        go_roundw
        case rel => exact ⟨k + 1, by omega, by go_num, by rw [Hl.out.2]; exact HS.out, by simpa [World.setCell] using Hs.out, below_drew (HBe.out.setCell (Nat.le_refl _) _)⟩
        case measure => simp [intOf]; omega
    · obtain rfl : k = N := by omega
      go_wp2
      go_ret2
      have hw := HW.out
      subst hw
      exact ⟨rfl, Wov.of_drewN ⟨hf, hs, hbel⟩⟩

end Pcm
end Go.Proofs.YtcaifpjbjghhaaaGreatDoor

/-
  Contracts: parted and woven samples as lists, and the errors. Conditions: as told at each.
-/
namespace Go.Proofs.YtcaifpjbjghhaaaGreatDoor
set_option linter.unusedVariables false
open Go.RowKit
namespace Pcm
open Bank (Blk But)
open Poly

theorem Weave_ok (lo hi c n : Nat) (v : Value) (l : List (List Int)) (w : World) (h : Poly.Rows .i16 lo hi w v l) (hh : hi ≤ w.heap.size) (hc : c = 1 ∨ c = 2) (hlc : l.length = c) (hn : ∀ k, k < c → (l.getD k []).length = n) (hf : ∀ k, M.fits16 (l.getD k [])) (hl : n ≤ 70368744177664) :
    Calls Tryz.prog 93 #[v] w fun e w' => ∃ v', e = .returned (.tuple #[v', .int .i64 0]) ∧ Reads .i16 w.heap.size w'.heap.size w' v' (M.wov c n l) ∧ Below w.heap.size w w' := by
  rcases hc with rfl | rfl
  · obtain ⟨xs, rfl⟩ : ∃ xs, l = [xs] := List.length_eq_one_iff.1 hlc
    refine (Weave_1 lo hi n v xs w h hh (hn 0 (by omega)) hl).mono ?_
    rintro e w' ⟨rfl, hw, hs, hbel⟩
    have hr := reads_fill (by rw [Nat.one_mul] at hw ⊢; exact hw) (M.wov_fits hf (c := 1) (n := n))
    rw [Nat.one_mul] at hr
    exact ⟨_, rfl, by unfold M.wov; rw [Nat.one_mul]; exact hr.mono (Nat.le_refl _) (by omega), hbel⟩
  · obtain ⟨xs, ys, rfl⟩ : ∃ xs ys, l = [xs, ys] := by
      match l, hlc with
      | [x, y], _ => exact ⟨x, y, rfl⟩
    refine (Weave_2 lo hi n v xs ys w h hh (hn 0 (by omega)) (hn 1 (by omega)) hl).mono ?_
    rintro e w' ⟨rfl, hw, hs, hbel⟩
    have hr := reads_fill hw (M.wov_fits hf (c := 2) (n := n))
    exact ⟨_, rfl, hr.mono (Nat.le_refl _) (by omega), hbel⟩

end Pcm
end Go.Proofs.YtcaifpjbjghhaaaGreatDoor

/-
  Numbers in blocks; when two lists are the same. Conditions: as told at each.
-/
namespace Go.Proofs.YtcaifpjbjghhaaaGreatDoor
set_option linter.unusedVariables false
open Go.RowKit
namespace M
/-- the block at i, of m numbers -/
def blk (m : Nat) (l : List Int) (i : Nat) : List Int := (l.drop (i * m)).take m
/-- numbers in blocks of m, what is left over not -/
def cutL (m : Nat) (l : List Int) : List (List Int) := (List.range (l.length / m)).map (blk m l)
theorem cutL_length (m : Nat) (l : List Int) : (cutL m l).length = l.length / m := by simp [cutL]
theorem cutL_get {m i : Nat} {l : List Int} (h : i < l.length / m) : (cutL m l).getD i [] = blk m l i := by simp [cutL, List.getD, h]
theorem blk_length {m i : Nat} {l : List Int} (h : i * m + m ≤ l.length) : (blk m l i).length = m := by unfold blk; simp; omega
theorem blk_mem {m i : Nat} {l : List Int} {z : Int} (h : z ∈ blk m l i) : z ∈ l := List.mem_of_mem_drop (List.mem_of_mem_take h)
end M
namespace Poly
open Bank (Blk But)

/-- between the rounds of 'cut': the first k blocks are gathered -/
def Cut16 (m k : Nat) (l : List Int) (v : Value) (w wr : World) : Prop :=
  ∃ us : List Value, wr.ownsRow w.heap.size 55 1 v k us ∧ (∀ i u, us[i]? = some u → wr.ownsRow w.heap.size 182 1 u m (enc .i16 (M.blk m l i)) ∧ u.oneCell' = true) ∧ Below w.heap.size w wr
theorem Cut16.rows {m k : Nat} {l : List Int} {v : Value} {w wr : World} (h : Cut16 m k l v w wr) (hk : k = l.length / m) (hm : 0 < m) (hl : ∀ z ∈ l, (Lit.int .i16 z).wf = true) : Rows .i16 w.heap.size wr.heap.size wr v (M.cutL m l) := by
  obtain ⟨us, h1, h2, h3⟩ := h
  have hlen : us.length = k := by have := h1.1; omega
  have hrow : ∀ i, i < k → ∃ u, us[i]? = some u ∧ Reads .i16 w.heap.size wr.heap.size wr u (M.blk m l i) := by
    intro i hi
    refine ⟨us[i]'(by omega), by simp, ?_⟩
    have ho := (h2 i (us[i]'(by omega)) (by simp)).1
    have hb : (M.blk m l i).length = m := M.blk_length (by
      have : (i + 1) * m ≤ l.length := Nat.le_trans (Nat.mul_le_mul_right m (by omega : i + 1 ≤ l.length / m)) (Nat.div_mul_le_self _ _)
      rw [Nat.add_mul, Nat.one_mul] at this
      exact this)
    have ho' : wr.ownsRow w.heap.size 182 1 (us[i]'(by omega)) (M.blk m l i).length (enc .i16 (M.blk m l i)) := by rw [hb]; exact ho
    exact reads_own ho' (fun z hz => hl z (M.blk_mem hz))
  rcases id h1.2 with ⟨rfl, h0⟩ | ⟨g, cap, cur, rfl, hg, hh, c1, c2, c3, c4⟩
  · exact ⟨none, 0, by rw [M.cutL_length, ← hk, h0], by rw [M.cutL_length, ← hk, h0]; exact Nat.le_refl _, .inl (by unfold M.cutL; rw [← hk, h0]; rfl)⟩
  · refine ⟨_, cap, by rw [M.cutL_length, ← hk], by rw [M.cutL_length, ← hk]; exact c1, .inr ⟨g, 0, rfl, hg, (Array.getElem?_eq_some_iff.1 hh).1, fun i hi => ?_⟩⟩
    rw [M.cutL_length, ← hk] at hi
    obtain ⟨u, hu, hr⟩ := hrow i hi
    refine ⟨u, ?_, by rw [M.cutL_get (by omega)]; exact hr⟩
    have := h1.cells (g := g) rfl i u hu
    rw [add_at] at this
    rw [Nat.zero_add]; exact this

theorem Cut16.step {m k : Nat} {l : List Int} {v v1 v2 : Value} {w wr w1 w2 : World} {us : List Value} (hown : wr.ownsRow w.heap.size 55 1 v k us) (hrows : ∀ i u, us[i]? = some u → wr.ownsRow w.heap.size 182 1 u m (enc .i16 (M.blk m l i)) ∧ u.oneCell' = true) (hbel : Below w.heap.size w wr)
    (hown1 : w1.ownsRow wr.heap.size 182 1 v1 m (enc .i16 (M.blk m l k))) (hg1 : (wr.alloc (.cells #[] 182)).grownBy w1 (some wr.heap.size))
    (hown2 : w2.ownsRow w.heap.size 55 1 v2 (k + 1) (us ++ [v1])) (hg2 : (w1.alloc (.cells #[v1] 55)).grownBy w2 v.ownBlock) (ho : (w1.alloc (.cells #[v1] 55)).ownsRow w.heap.size 55 1 v k us) : Cut16 m (k + 1) l v2 w w2 := by
  have hs := hbel.size
  have hl : us.length = k := by have := hown.1; omega
  obtain ⟨a1, c1, e1⟩ := own_form hown1
  refine ⟨us ++ [v1], hown2, fun i u hu => ?_, ?_⟩
  · rcases Nat.lt_or_ge i k with hi | hi
    · rw [List.getElem?_append_left (by omega)] at hu
      obtain ⟨r0, r1⟩ := hrows i u hu
      have r2 := (r0.alloc (.cells #[] 182)).kept hg1 (by
        cases hb : u.ownBlock with
        | none => exact .inl rfl
        | some g => right; have := (r0.lt g hb).2; simp; omega)
      have r3 := (r2.alloc (.cells #[v1] 55)).kept hg2 (own_apart (r2.alloc _) ho (by decide))
      exact ⟨r3, r1⟩
    · have hik : i = k := by
        have := (List.getElem?_eq_some_iff.1 hu).1
        simp at this; omega
      subst hik
      rw [List.getElem?_append_right (by omega), hl] at hu
      simp at hu
      subst hu
      have r3 := (hown1.alloc (.cells #[v1] 55)).kept hg2 (own_apart (hown1.alloc _) ho (by decide))
      exact ⟨own_mono r3 hs, by rw [e1]; rfl⟩
  · have b1 := (hbel.alloc hs (.cells #[] 182)).grown hg1 (by simp; omega) (fun g hg => by cases hg; exact hs)
    have hs1 := b1.size
    refine (b1.alloc hs1 (.cells #[v1] 55)).grown hg2 (by simp; omega) (fun g hg => (hown.lt g hg).1)

/-- between the rounds of 'cut': the first k blocks are gathered -/
def Cut32 (m k : Nat) (l : List Int) (v : Value) (w wr : World) : Prop :=
  ∃ us : List Value, wr.ownsRow w.heap.size 97 1 v k us ∧ (∀ i u, us[i]? = some u → wr.ownsRow w.heap.size 21 1 u m (enc .i32 (M.blk m l i)) ∧ u.oneCell' = true) ∧ Below w.heap.size w wr
theorem Cut32.rows {m k : Nat} {l : List Int} {v : Value} {w wr : World} (h : Cut32 m k l v w wr) (hk : k = l.length / m) (hm : 0 < m) (hl : ∀ z ∈ l, (Lit.int .i32 z).wf = true) : Rows .i32 w.heap.size wr.heap.size wr v (M.cutL m l) := by
  obtain ⟨us, h1, h2, h3⟩ := h
  have hlen : us.length = k := by have := h1.1; omega
  have hrow : ∀ i, i < k → ∃ u, us[i]? = some u ∧ Reads .i32 w.heap.size wr.heap.size wr u (M.blk m l i) := by
    intro i hi
    refine ⟨us[i]'(by omega), by simp, ?_⟩
    have ho := (h2 i (us[i]'(by omega)) (by simp)).1
    have hb : (M.blk m l i).length = m := M.blk_length (by
      have : (i + 1) * m ≤ l.length := Nat.le_trans (Nat.mul_le_mul_right m (by omega : i + 1 ≤ l.length / m)) (Nat.div_mul_le_self _ _)
      rw [Nat.add_mul, Nat.one_mul] at this
      exact this)
    have ho' : wr.ownsRow w.heap.size 21 1 (us[i]'(by omega)) (M.blk m l i).length (enc .i32 (M.blk m l i)) := by rw [hb]; exact ho
    exact reads_own ho' (fun z hz => hl z (M.blk_mem hz))
  rcases id h1.2 with ⟨rfl, h0⟩ | ⟨g, cap, cur, rfl, hg, hh, c1, c2, c3, c4⟩
  · exact ⟨none, 0, by rw [M.cutL_length, ← hk, h0], by rw [M.cutL_length, ← hk, h0]; exact Nat.le_refl _, .inl (by unfold M.cutL; rw [← hk, h0]; rfl)⟩
  · refine ⟨_, cap, by rw [M.cutL_length, ← hk], by rw [M.cutL_length, ← hk]; exact c1, .inr ⟨g, 0, rfl, hg, (Array.getElem?_eq_some_iff.1 hh).1, fun i hi => ?_⟩⟩
    rw [M.cutL_length, ← hk] at hi
    obtain ⟨u, hu, hr⟩ := hrow i hi
    refine ⟨u, ?_, by rw [M.cutL_get (by omega)]; exact hr⟩
    have := h1.cells (g := g) rfl i u hu
    rw [add_at] at this
    rw [Nat.zero_add]; exact this

theorem Cut32.step {m k : Nat} {l : List Int} {v v1 v2 : Value} {w wr w1 w2 : World} {us : List Value} (hown : wr.ownsRow w.heap.size 97 1 v k us) (hrows : ∀ i u, us[i]? = some u → wr.ownsRow w.heap.size 21 1 u m (enc .i32 (M.blk m l i)) ∧ u.oneCell' = true) (hbel : Below w.heap.size w wr)
    (hown1 : w1.ownsRow wr.heap.size 21 1 v1 m (enc .i32 (M.blk m l k))) (hg1 : (wr.alloc (.cells #[] 21)).grownBy w1 (some wr.heap.size))
    (hown2 : w2.ownsRow w.heap.size 97 1 v2 (k + 1) (us ++ [v1])) (hg2 : (w1.alloc (.cells #[v1] 97)).grownBy w2 v.ownBlock) (ho : (w1.alloc (.cells #[v1] 97)).ownsRow w.heap.size 97 1 v k us) : Cut32 m (k + 1) l v2 w w2 := by
  have hs := hbel.size
  have hl : us.length = k := by have := hown.1; omega
  obtain ⟨a1, c1, e1⟩ := own_form hown1
  refine ⟨us ++ [v1], hown2, fun i u hu => ?_, ?_⟩
  · rcases Nat.lt_or_ge i k with hi | hi
    · rw [List.getElem?_append_left (by omega)] at hu
      obtain ⟨r0, r1⟩ := hrows i u hu
      have r2 := (r0.alloc (.cells #[] 21)).kept hg1 (by
        cases hb : u.ownBlock with
        | none => exact .inl rfl
        | some g => right; have := (r0.lt g hb).2; simp; omega)
      have r3 := (r2.alloc (.cells #[v1] 97)).kept hg2 (own_apart (r2.alloc _) ho (by decide))
      exact ⟨r3, r1⟩
    · have hik : i = k := by
        have := (List.getElem?_eq_some_iff.1 hu).1
        simp at this; omega
      subst hik
      rw [List.getElem?_append_right (by omega), hl] at hu
      simp at hu
      subst hu
      have r3 := (hown1.alloc (.cells #[v1] 97)).kept hg2 (own_apart (hown1.alloc _) ho (by decide))
      exact ⟨own_mono r3 hs, by rw [e1]; rfl⟩
  · have b1 := (hbel.alloc hs (.cells #[] 21)).grown hg1 (by simp; omega) (fun g hg => by cases hg; exact hs)
    have hs1 := b1.size
    refine (b1.alloc hs1 (.cells #[v1] 97)).grown hg2 (by simp; omega) (fun g hg => (hown.lt g hg).1)

end Poly
end Go.Proofs.YtcaifpjbjghhaaaGreatDoor

/-
  The document's answer for layer 8: waves, rounding, and lists that are gathered. Conditions: as told at each.
-/
namespace Go.Proofs.YtcaifpjbjghhaaaGreatDoor
set_option linter.unusedVariables false
open Go.RowKit
namespace M
/-- all numbers of the last k blocks, the newest ahead -/
def newsK (zss : List (List Int)) (k : Nat) : List Int := ((zss.reverse.take k).map List.reverse).flatten
/-- all numbers, the newest ahead -/
def news (zss : List (List Int)) : List Int := (zss.reverse.map List.reverse).flatten
theorem newsK_step {zss : List (List Int)} {k : Nat} (h : k < zss.length) : newsK zss (k + 1) = newsK zss k ++ (zss.getD (zss.length - 1 - k) []).reverse := by
  unfold newsK
  rw [List.take_add_one, List.map_append, List.flatten_append]
  congr 1
  rw [List.getElem?_reverse h]
  simp [List.getD, show zss.length - 1 - k < zss.length from by omega]
theorem news_snoc (zss : List (List Int)) (b : List Int) : news (zss ++ [b]) = b.reverse ++ news zss := by simp [news]
theorem newsK_length {zss : List (List Int)} {m : Nat} (hm : ∀ i, i < zss.length → (zss.getD i []).length = m) {k : Nat} (hk : k ≤ zss.length) : (newsK zss k).length = k * m := by
  induction k with
  | zero => simp [newsK]
  | succ k ih =>
    rw [newsK_step (by omega), List.length_append, ih (by omega), List.length_reverse, hm _ (by omega), Nat.add_mul, Nat.one_mul]
theorem pad_get (X : List Int) (z i : Nat) : (X ++ List.replicate z 0).getD i 0 = X.getD i 0 := by
  simp only [List.getD]
  rcases Nat.lt_or_ge i X.length with h | h
  · rw [List.getElem?_append_left h]
  · rw [List.getElem?_append_right h, List.getElem?_eq_none h, List.getElem?_replicate]
    split <;> rfl
theorem pad_step (X : List Int) (z : Nat) : X ++ List.replicate (z + 1) 0 = (X ++ List.replicate z 0) ++ [0] := by
  rw [List.replicate_succ', List.append_assoc]
theorem pad_fits {X : List Int} {B C : Int} (h : ∀ z ∈ X, B ≤ z ∧ z ≤ C) (hB : B ≤ 0) (hC : 0 ≤ C) (n : Nat) : ∀ z ∈ X ++ List.replicate n 0, B ≤ z ∧ z ≤ C := by
  intro z hz
  rcases List.mem_append.1 hz with h' | h'
  · exact h z h'
  · rw [List.eq_of_mem_replicate h']; exact ⟨hB, hC⟩
theorem jn_take {m j : Nat} {X : List Int} (h : j < m) : (jn m X).take (j + 1) = (jn m X).take j ++ [sat16 (rnd (fj m X j 5) 14)] := by
  rw [List.take_add_one]
  simp [jn, h]
theorem vs_take {m j : Nat} {X : List Int} (h : j < 2 * m) : (vs m X).take (j + 1) = (vs m X).take j ++ [sat32 (rnd (Dot.dotTo X (wj m j) m) 15)] := by
  rw [List.take_add_one]
  simp [vs, h]
theorem wj_get {m k i : Nat} (h : i < m) : (wj m k).getD i 0 = wv m (2 * (i : Int) + 1) (2 * (k : Int) + m) := by simp [wj, List.getD, h]
end M
namespace Poly
open Bank (Blk But)

theorem rwave (a b : Int) (m : Nat) (w : World) (hm : m = 4 ∨ m = 8) (a0 : -100 ≤ a) (a1 : a ≤ 100) (b0 : -100 ≤ b) (b1 : b ≤ 100) :
    Calls Tryz.prog 151 #[.int .i64 a, .int .i64 b, .int .i64 m] w fun e w' => e = .returned (.int .i64 (M.wv m a b)) ∧ w' = w := by
  have hab := M.mul_bd a b 100 100 (by omega) (by omega) (by omega) (by omega)
  have m1 : (m : Int) ≤ 8 := by omega
  have e : M.cosineI (a * b) (8 * (m : Int)) = M.wv m a b := if_pos (by omega)
  have hb := M.wv_bd (m := (m : Int)) (a := a) (b := b) (by omega)
  have hc := Wave.refCosine_all (a * b) (8 * (m : Int)) w
  rw [e] at hc
  generalize M.wv m a b = y at *
  generalize M.waveE (8 * (m : Int)) = z at *
  clear hm e
  go_enter Tryz.func151, Tryz.ntmps151
  go_wp2_with (go_at_call 194; refine hc.mono ?_; rintro e w' ⟨rfl, hw⟩; rw [hw]; clear hw w')
  go_ret
  exact ⟨rfl, rfl⟩

theorem rround (n s : Int) (w : World) (h0 : -9223372036854775808 ≤ n) (h1 : n ≤ 9223372036854775806) :
    Calls Tryz.prog 150 #[.int .i64 n, .int .i64 s] w fun e w' => e = .returned (.int .i64 (M.sat32 (M.rnd n s))) ∧ w' = w := by
  have hr := M.rnd_bd n s (by omega) (by omega)
  go_enter Tryz.func150, Tryz.ntmps150
  go_wp2_with (first
    | (go_at_call 154; refine (Ref.Round_any _ _ _ (by omega) (by omega)).mono ?_; rintro e w' ⟨rfl, rfl⟩)
    | (go_at_call 127; refine (Ref.Sat_any _ _ (by omega) (by omega)).mono ?_; rintro e w' ⟨rfl, rfl⟩))
  go_ret
  exact ⟨rfl, rfl⟩

/-- the document's filter -/
theorem rfilter (m : Nat) (w : World) (hm : m = 4 ∨ m = 8) : Calls Tryz.prog 149 #[.int .i64 m] w fun e w' => ∃ b off c, e = .returned (.slice (some ⟨b, off, none⟩) (10 * m) c) ∧ w.heap.size ≤ b ∧ b < w'.heap.size ∧ (∀ i, i < 10 * m → w'.cell? ⟨b, off + i, none⟩ = some (.int .i16 (M.fil i m))) ∧ Below w.heap.size w w' := by
  refine (Bank.rfilter_ok m w (.inr (.inr ⟨rfl, hm⟩))).mono ?_
  rintro e w' ⟨v, rfl, ho, hb⟩
  have e1 : M.ts 2 m = (M.hsl m).length := by rw [M.hsl_length]; rfl
  rw [tabl_hs, e1] at ho
  have hr := reads_own ho (fit16.2 (hs_fits m))
  obtain ⟨a, c, rfl⟩ := hr.form
  obtain ⟨b, off, rfl, h0, h1, hx⟩ := hr.cell (by rw [M.hsl_length]; omega)
  rw [M.hsl_length] at hx
  exact ⟨b, off, c, by rw [M.hsl_length], h0, h1, fun i hi => by rw [hx i hi, M.hsl_get hi], hb⟩

end Poly
end Go.Proofs.YtcaifpjbjghhaaaGreatDoor

/-
  The document's answer for a splitter. Conditions: as told at each.
-/
namespace Go.Proofs.YtcaifpjbjghhaaaGreatDoor
set_option linter.unusedVariables false
open Go.RowKit
namespace Poly
open Bank (Blk But)
theorem one_new (w : World) (v : Value) (t : TypeId) (j : Nat) (u : Value) (hj : [v][j]? = some u) : (w.alloc (.cells #[v] t)).cell? ((⟨w.heap.size, 0, none⟩ : Addr).add j) = some u := by
  match j, hj with
  | 0, hj => simp at hj; subst hj; rw [add_at]; exact (Blk.new w #[v] t).cell (o := 0) rfl
def lenOf : Value → Nat
  | .slice _ n _ => n
  | _ => 0

end Poly
end Go.Proofs.YtcaifpjbjghhaaaGreatDoor

/-
  Which planes fit a format, by the document's answer. Conditions: as told at each.
-/
namespace Go.Proofs.YtcaifpjbjghhaaaGreatDoor
set_option linter.unusedVariables false
open Go.RowKit
namespace Sub
open Bank (Blk But)
open Poly (cell_keep)
open _root_.Go.Proofs.YtcaifpjbjghhaaaGreatDoor.Form (fv fc Says bel1 box_cells)

set_option maxRecDepth 100000 in
set_option maxHeartbeats 4000000 in
theorem Fits_any (hi : Nat) (f : M.Fmt) (v : Value) (n : Nat) (l : Nat → Nat) (m : Nat → Nat → Nat) (w : World) (h : L3 hi v n l m w) (hh : hi ≤ w.heap.size) (hn : n ≤ 65536) (hl : ∀ i, i < n → l i ≤ 65536 ∧ ∀ j, j < l i → m i j ≤ 65536) :
    Calls Tryz.prog 17 #[fv f, v] w fun e w' => Says (isL n l m f.h f.k f.b) w e w' := by
  obtain ⟨W, hW⟩ : ∃ W, w.alloc (.cells (fc f) 23) = W := ⟨_, rfl⟩
  have bel : Below w.heap.size w W := by rw [← hW]; exact bel1 _ _
  have hbx : Blk W w.heap.size (fc f) 23 := by rw [← hW]; exact Blk.new _ _ _
  have hz := h.below bel hh
  obtain ⟨ax, cx, rfl⟩ := h.form
  have HZ : Hid (L3 hi (.slice ax n cx) n l m W) := hz
  have HL : Hid _ := hl
  have HB : Hid (∀ mm, Below w.heap.size w (W.drewN mm)) := fun mm => Poly.below_drewN bel mm
  have n1 : (n : Int) ≤ 65536 := by omega
  clear h hl hz bel
  obtain ⟨c_, r_, h_, b_, k_, m_, j_, p_, l_, y_⟩ := f
  unfold fv
  unfold fc at hW
  have xs := box_cells hbx
  dsimp only at xs hW ⊢
  obtain ⟨x0, x1, x2, x3, x4, x5, x6, x7, x8, x9⟩ := xs
  clear hbx
  by_cases hx : (n : Int) = h_
  · subst hx
    go_enter Tryz.func17, Tryz.ntmps17
    go_wp2
    go_loopw [5] (fun i wr => ∃ q : Nat, q ≤ n ∧ i = .int .i64 q ∧ (∃ mm, wr = W.drewN mm) ∧ ∀ i, i < q → (l i : Int) = k_ ∧ ∀ j, j < l i → (m i j : Int) = b_) (fun i _ => n - (intOf i).toNat)
    case atStart => exact ⟨0, by omega, rfl, ⟨0, rfl⟩, fun k hk => absurd hk (by omega)⟩
    case round =>
      obtain ⟨q, hq, rfl, ⟨mm, hw⟩, hall⟩ := hrel
      subst hw
      have HA : Hid _ := hall
      clear hall
      by_cases hlt : q < n
      · have hlt' : (q : Int) < n := by omega
        obtain ⟨b, off, rfl, _, hx⟩ := HZ.out.at (by omega)
        obtain ⟨a1, c1, hu, hh⟩ := hx q hlt
        clear hx
        have hlq := HL.out q hlt
        have HH : Hid (Qnt.Hd hi (.slice a1 (l q) c1) (l q) (m q) W) := hh
        clear hh
        by_cases hf : (l q : Int) = k_
        · have HF : Hid ((l q : Int) = k_) := hf
          have l1 : (l q : Int) ≤ 65536 := by omega
          have HLq : Hid _ := hlq.2
          clear hlq
          obtain ⟨L, hL⟩ : ∃ L, l q = L := ⟨_, rfl⟩
          have HE : Hid (l q = L) := hL
          rw [hL] at hu HH hf l1
          clear hL
          subst hf
          go_wp2
          go_quiet (fail)
          go_wp2
          go_loopw [6] (fun i wr' => ∃ r : Nat, r ≤ L ∧ i = .int .i64 r ∧ (∃ mm, wr' = W.drewN mm) ∧ ∀ j, j < r → (m q j : Int) = b_) (fun i _ => L - (intOf i).toNat)
          case atStart => exact ⟨0, by omega, rfl, ⟨_, by rw [World.drewN_drewN]⟩, fun k hk => absurd hk (by omega)⟩
          case round =>
            obtain ⟨r, hr, rfl, ⟨mm2, hw⟩, hall⟩ := hrel
            rw [hw]
            clear hw
            have HA2 : Hid _ := hall
            clear hall
            by_cases hlt2 : r < L
            · have hlt2' : (r : Int) < L := by omega
              obtain ⟨b2, off2, rfl, _, hx2⟩ := HH.out.at (by omega)
              obtain ⟨a3, c3, hu3⟩ := hx2 r hlt2
              clear hx2
              have mb : (m q r : Int) ≤ 65536 := by have := HLq.out r (by rw [HE.out]; exact hlt2); omega
              by_cases hz : (m q r : Int) = b_
              · have HZz : Hid ((m q r : Int) = b_) := hz
                obtain ⟨Z, hZ⟩ : ∃ Z, m q r = Z := ⟨_, rfl⟩
                rw [hZ] at hu3 hz mb
                clear hZ
                subst hz
                go_wp2
                go_quiet (fail)
                go_wp2
                go_roundw
                case rel =>
                  refine ⟨r + 1, by omega, by go_num, ⟨_, rfl⟩, fun j hj => ?_⟩
                  rcases (by omega : j < r ∨ j = r) with h | rfl
                  · exact HA2.out j h
                  · exact HZz.out
                case measure => simp [intOf]; omega
              · have HZz : Hid (¬ (m q r : Int) = b_) := hz
                have hqr : (q : Int) ≤ 65536 ∧ (r : Int) ≤ 65536 := by omega
                have HI : Hid (r < l q) := by rw [HE.out]; exact hlt2
                obtain ⟨Z, hZ⟩ : ∃ Z, m q r = Z := ⟨_, rfl⟩
                rw [hZ] at hu3 hz mb
                clear hZ
                go_wp2
                go_quiet (fail)
                go_wp2
                go_ret
                refine ⟨false, rfl, by rw [World.drewN_drewN]; exact HB.out _, ?_⟩
                simp
                rintro ⟨_, h⟩
                exact HZz.out ((h q hlt).2 r HI.out)
            · obtain rfl : r = L := by omega
              go_wp2
              go_roundw
              case rel =>
                refine ⟨q + 1, by omega, by go_num, ⟨_, rfl⟩, fun j hj => ?_⟩
                rcases (by omega : j < q ∨ j = q) with h | rfl
                · exact HA.out j h
                · exact ⟨HF.out, fun j' hj' => HA2.out j' (by rw [HE.out] at hj'; exact hj')⟩
              case measure => simp [intOf]; omega
        · have HF : Hid (¬ (l q : Int) = k_) := hf
          have l1 : (l q : Int) ≤ 65536 := by omega
          clear hlq
          obtain ⟨L, hL⟩ : ∃ L, l q = L := ⟨_, rfl⟩
          rw [hL] at hu HH hf l1
          clear hL
          go_wp2
          go_quiet (fail)
          go_wp2
          go_ret
          refine ⟨false, rfl, by rw [World.drewN_drewN]; exact HB.out _, ?_⟩
          simp
          rintro ⟨_, h⟩
          exact HF.out (h q hlt).1
      · obtain rfl : q = n := by omega
        go_wp2
        go_ret
        exact ⟨true, rfl, HB.out _, by simp; exact ⟨rfl, HA.out⟩⟩
  · have HX : Hid (¬ (n : Int) = h_) := hx
    go_enter Tryz.func17, Tryz.ntmps17
    go_wp2
    go_ret
    refine ⟨false, rfl, HB.out 0, ?_⟩
    simp
    intro h
    exact absurd h.1 HX.out

end Sub
end Go.Proofs.YtcaifpjbjghhaaaGreatDoor

/-
  Contract of a decoder's Play: planes that do not fit. Conditions: as told at each.
-/
namespace Go.Proofs.YtcaifpjbjghhaaaGreatDoor
set_option linter.unusedVariables false
open Go.RowKit
namespace Sub
open Bank (Blk But)
open _root_.Go.Proofs.YtcaifpjbjghhaaaGreatDoor.Form (fv fc Says bel1 blk_below)

theorem Play_no (hi p l C B : Nat) (f : M.Fmt) (lo g : Nat → Nat) (L : Nat → List Int) (v : Value) (n : Nat) (ln : Nat → Nat) (mn : Nat → Nat → Nat) (w : World) (he : Dec p l C B f lo g L w) (h : L3 hi v n ln mn w) (hh : hi ≤ w.heap.size) (hn : n ≤ 65536) (hl : ∀ i, i < n → ln i ≤ 65536 ∧ ∀ j, j < ln i → mn i j ≤ 65536) (hno : ¬ isL n ln mn f.h f.k f.b) :
    Calls Tryz.prog 33 #[.pointer (some ⟨p, 0, none⟩), v] w fun e w' => e = .returned (.tuple #[.slice none 0 0, .int .i64 1]) ∧ Below w.heap.size w w' := by
  have h1 := (arePlanes_any hi f v n ln mn w h hh hn hl).mono fun e w' (hs : Says _ w e w') => show e = .returned (.bool false) ∧ Below w.heap.size w w' by
    obtain ⟨b, rfl, hb, hq⟩ := hs
    cases b with
    | false => exact ⟨rfl, hb⟩
    | true => exact absurd (hq.1 rfl) hno
  obtain ⟨a, c, rfl⟩ := h.form
  have x0 := he.obj
  clear h hl hno he
  obtain ⟨c_, r_, h_, b_, k_, m_, j_, p_, l_, y_⟩ := f
  unfold fv at h1
  dsimp only at h1
  have xs := oc_cells x0; dsimp only at xs; obtain ⟨x0, x1, x2, x3, x4, x5, x6, x7, x8, x9, x10⟩ := xs
  go_enter Tryz.func33, Tryz.ntmps33
  go_wp2_with (go_at_call 43; refine h1.mono ?_; clear h1; rintro e w2 ⟨rfl, b2⟩; have B2 : Hid (Below w.heap.size w w2) := b2; clear b2)
  go_ret2
  exact ⟨rfl, B2.out⟩

end Sub
end Go.Proofs.YtcaifpjbjghhaaaGreatDoor

/-
  Contract of join: the samples of one channel's plane. Conditions: as told at each.
-/
namespace Go.Proofs.YtcaifpjbjghhaaaGreatDoor
set_option linter.unusedVariables false
open Go.RowKit
namespace Sub
open Bank (Blk But)
open Poly (Reads cell_keep alloc_size Joi)
open _root_.Go.Proofs.YtcaifpjbjghhaaaGreatDoor.Form (fv fc bel1 blk_below)

theorem infoI16 : (Tryz.prog.info? 182).map (fun i => (i.zero, i.size, i.bytes)) = some (some (.int .i16 0), 1, 2) := by kernel_rfl
/-- a joiner's line and the samples of k blocks -/
def Jo (w : World) (lo gl B k : Nat) (F : Nat → Nat → Int) (l : List Int) (v : Value) (wr : World) : Prop :=
  Joi lo gl B (M.jst B F l k) wr ∧ But gl w wr ∧ wr.ownsRow w.heap.size 182 1 v (k * B) ((M.jsm B F l k).map (Value.int .i16))
theorem Jo.step {w wr w3 w5 : World} {lo gl B k : Nat} {F : Nat → Nat → Int} {l : List Int} {v v5 : Value} (h : Jo w lo gl B k F l v wr) (hb : But gl wr w3) (hj : Joi lo gl B (M.jst B F l (k + 1)) w3) (hg : gl + 2 ≤ w.heap.size)
    (ho : w5.ownsRow w.heap.size 182 1 v5 (k * B + B) (((M.jsm B F l k).map (Value.int .i16)) ++ (M.jn B (M.jst B F l (k + 1))).map (Value.int .i16))) (hgr : w3.grownBy w5 v.ownBlock) : Jo w lo gl B (k + 1) F l v5 w5 := by
  obtain ⟨_, hw, hov⟩ := h
  have hne : ∀ b, b < w.heap.size → v.ownBlock ≠ some b := fun b hb e => by have := (Qnt.own_blk hov e).1; omega
  have s1 := hw.size
  have s3 := hb.size
  have s5 := hgr.size
  refine ⟨hj.keep (by omega) fun b h0 h1 => hgr.block b (by omega) (fun e => hne b (by omega) e.symm), ⟨hgr.os.trans (hb.os.trans hw.os), hgr.tape.trans (hb.tape.trans hw.tape), hgr.output.trans (hb.output.trans hw.output), by omega, fun b h0 h1 => ?_⟩, ?_⟩
  · exact (hgr.block b (by omega) (fun e => hne b h0 e.symm)).trans ((hb.block b (by omega) h1).trans (hw.block b h0 h1))
  · rw [Nat.succ_mul, M.jsm, List.map_append]; exact ho
theorem jo_own {w wr w3 : World} {lo gl B k : Nat} {F : Nat → Nat → Int} {l : List Int} {v : Value} (h : Jo w lo gl B k F l v wr) (hb : But gl wr w3) (hg : gl + 2 ≤ w.heap.size) : w3.ownsRow w.heap.size 182 1 v (k * B) ((M.jsm B F l k).map (Value.int .i16)) :=
  own_stand h.2.2 fun g hg' => hb.block g (Qnt.own_lt h.2.2 hg') (by have := (Qnt.own_blk h.2.2 hg').1; omega)

set_option maxRecDepth 100000 in
set_option maxHeartbeats 4000000 in
theorem join_any (lo gl B N lo' hi' : Nat) (F : Nat → Nat → Int) (l : List Int) (v : Value) (w : World) (hB : B = 4 ∨ B = 8) (N1 : 1 ≤ N) (N16 : N ≤ 16) (h : Joi lo gl B l w) (hx : B2 .i32 lo' hi' v N B F w) (hF : Qnt.F32 F) (h1 : hi' ≤ w.heap.size) (hg : gl < lo' ∨ hi' ≤ gl) :
    Calls Tryz.prog 92 #[.pointer (some ⟨gl + 1, 0, none⟩), v] w fun e w' => ∃ u, e = .returned u ∧ Joi lo gl B (M.jst B F l N) w' ∧ But gl w w' ∧ w'.ownsRow w.heap.size 182 1 u (N * B) ((M.jsm B F l N).map (Value.int .i16)) := by
  obtain ⟨b, o, c, rfl, hc, hb0, hb1, hrow⟩ := hx
  have hg2 := h.2.1
  have hfd : ∀ k wr, k < N → But gl w wr → Joi lo gl B (M.jst B F l k) wr → ∃ u, wr.cell? ⟨b, o + k, none⟩ = some u ∧ Calls Tryz.prog 153 #[.pointer (some ⟨gl + 1, 0, none⟩), u] wr fun e w3 => ∃ b3 o3 c3, e = .returned (.tuple #[.slice (some ⟨b3, o3, none⟩) B c3, .int .i64 0]) ∧ Joi lo gl B (M.jst B F l (k + 1)) w3 ∧ But gl wr w3 ∧ (∀ j u, ((M.jn B (M.jst B F l (k + 1))).map (Value.int .i16))[j]? = some u → w3.cell? (Addr.add ⟨b3, o3, none⟩ j) = some u) := by
    intro k wr hk hbt hj
    obtain ⟨u, hu, hr⟩ := hrow k hk
    obtain ⟨M2, M20, hm⟩ : ∃ M2 M20 : Nat, (B = 4 ∧ M2 = 8 ∧ M20 = 80) ∨ (B = 8 ∧ M2 = 16 ∧ M20 = 160) := by
      rcases hB with h | h
      · exact ⟨8, 80, .inl ⟨h, rfl, rfl⟩⟩
      · exact ⟨16, 160, .inr ⟨h, rfl, rfl⟩⟩
    have kp : ∀ q, lo' ≤ q → q < hi' → wr.heap[q]? = w.heap[q]? := fun q q0 q1 => hbt.block q (by omega) (by omega)
    have hr' := (hr.keep kp).reads fun j => Poly.wf32.2 (hF k j)
    refine ⟨u, (cell_keep (kp b hb0 hb1)).trans hu, (Poly.joinFeed B M2 M20 lo gl lo' hi' (rl B (F k)) _ u wr hm hj hr' (rl_length _ _) (by have := hbt.size; omega) hg).mono ?_⟩
    rintro e w3 ⟨v3, rfl, hj3, hb3, hr3⟩
    have hl3 : (M.jn B (M.nj B (rl B (F k)) (M.jst B F l k))).length = B := M.jn_length _ _
    obtain ⟨a3, c3, rfl⟩ := hr3.form
    obtain ⟨b3, o3, rfl, _, _, hc3⟩ := hr3.cell (by omega)
    rw [hl3]
    refine ⟨b3, o3, c3, rfl, hj3, hb3, fun j u hj' => ?_⟩
    rw [List.getElem?_map] at hj'
    obtain ⟨z, hz, rfl⟩ := Option.map_eq_some_iff.1 hj'
    have hjl : j < (M.jn B (M.nj B (rl B (F k)) (M.jst B F l k))).length := (List.getElem?_eq_some_iff.1 hz).1
    rw [show (⟨b3, o3, none⟩ : Addr).add j = ⟨b3, o3 + j, none⟩ by unfold Addr.add; split <;> simp_all]
    rw [hc3 j (by omega), List.getD_eq_getElem?_getD]
    rw [show M.jst B F l (k + 1) = M.nj B (rl B (F k)) (M.jst B F l k) from rfl] at hz
    rw [hz]; rfl
  have HFd : Hid _ := hfd
  have st0 : Jo w lo gl B 0 F l (.slice none 0 0) w := ⟨h, ⟨rfl, rfl, rfl, Nat.le_refl _, fun _ _ _ => rfl⟩, by rw [Nat.zero_mul]; exact World.ownsRow_nil _ _ _ _⟩
  have St0 : Hid (Jo w lo gl B 0 F l (.slice none 0 0) w) := st0
  obtain ⟨i0, hi0, hz0, hz1, hz2⟩ := info_parts infoI16
  clear hfd hrow st0 h hF
  go_enter Tryz.func92, Tryz.ntmps92
  go_wp2
  go_loopw [5, 12] (fun s i wr => ∃ k : Nat, k ≤ N ∧ i = .int .i64 k ∧ Jo w lo gl B k F l s wr) (fun _ i _ => N - (intOf i).toNat)
  case atStart => exact ⟨0, by omega, rfl, St0.out⟩
  case round =>
    clear St0
    obtain ⟨k, hk, rfl, hj⟩ := hrel
    obtain ⟨sa, sc, rfl⟩ := Poly.own_form hj.2.2
    have HJ : Hid _ := hj
    by_cases hlt : k < N
    · have i1 : (k : Int) < (N : Int) := by omega
      obtain ⟨u, hu, hcall⟩ := HFd.out k wr hlt hj.2.1 hj.1
      have HC : Hid (Calls _ _ _ _ _) := hcall
      obtain ⟨KB, hKB⟩ : ∃ KB, k * B = KB := ⟨_, rfl⟩
      have hKB2 : KB ≤ 200 := by rw [← hKB]; have := Nat.mul_le_mul (show k ≤ 16 by omega) (show B ≤ 8 by omega); omega
      have hown := fun w3 hb => jo_own HJ.out (w3 := w3) hb hg2
      have hstep := fun w3 w5 v5 hb hjj ho hgr => Jo.step HJ.out (w3 := w3) (w5 := w5) (v5 := v5) hb hjj hg2 ho hgr
      rw [hKB] at hown hstep ⊢
      have HO : Hid (∀ w3, But gl wr w3 → World.ownsRow _ _ _ _ _ _ _) := hown
      have HS : Hid (∀ w3 w5 v5, But gl wr w3 → _) := hstep
      have hsz := hj.2.1.size
      have hb8 : B ≤ 8 := by omega
      have hb8' : 1 ≤ B := by omega
      obtain ⟨ys, hys⟩ : ∃ ys, M.jn B (M.jst B F l (k + 1)) = ys := ⟨_, rfl⟩
      have hyl : ys.length = B := by rw [← hys]; exact M.jn_length _ _
      rw [hys] at HC HS
      clear hcall hown hstep hj hKB HFd HJ hys hB h1 hg
      go_wp2_with (first
        | (go_at_call 153; refine HC.out.mono ?_; clear HC; rintro e w3 ⟨b3, o3, c3, rfl, hj3, hb3, hc3⟩; have hso := hb3.size; have HB3 : Hid (But gl wr w3) := hb3; have HJ3 : Hid (Joi _ _ _ _ w3) := hj3; have HC3 : Hid (∀ j u, _ → w3.cell? _ = some u) := hc3; have HOw : Hid (World.ownsRow _ _ _ _ _ _ _) := HO.out w3 hb3; clear hj3 hb3 hc3 HO)
        | (at_builtin; refine wpList_append_own_at _ rfl (.tmp 22) (.tmp 23) 55 rfl w.heap.size 182 i0 (.int .i16 0) 1 2 Tryz.underlying55 hi0 hz0 hz1 hz2 rfl (by decide) _ _ _ rfl HOw.out ⟨b3, o3, none⟩ B c3 (ys.map (Value.int .i16)) rfl ?c1 HC3.out ?c2 ?c3 ?c4 ?c5 ?_))
      skip
      case c1 => rw [List.length_map, hyl, Nat.mul_one]
      case c2 => intro u hu; simp at hu; obtain ⟨_, _, rfl⟩ := hu; rfl
      case c3 => unfold maxLen; omega
      case c4 => omega
      case c5 => omega
      · intro v5 w5 hown5 hgrow5 _ hat5
        have HN : Hid (Jo w lo gl B (k + 1) F l v5 w5) := HS.out w3 w5 v5 HB3.out HJ3.out hown5 hgrow5
        clear hown5 hgrow5 hat5
        go_wp2
        go_roundw
        case rel => exact ⟨k + 1, by omega, by go_num, HN.out⟩
        case measure => simp [intOf]; omega
    · obtain rfl : k = N := by omega
      clear hj HFd
      go_wp2
      go_ret
      exact ⟨_, rfl, HJ.out.1, HJ.out.2.1, HJ.out.2.2⟩

end Sub
end Go.Proofs.YtcaifpjbjghhaaaGreatDoor

/-
  Contract of a decoder's Play. Conditions: as told at each.
-/
namespace Go.Proofs.YtcaifpjbjghhaaaGreatDoor
set_option linter.unusedVariables false
open Go.RowKit
namespace Sub
open Bank (Blk But)
open Poly (Reads cell_keep alloc_size Spl Joi)
open _root_.Go.Proofs.YtcaifpjbjghhaaaGreatDoor.Form (fv fc bel1 blk_below of_drew)

theorem mkR16 (w : World) (n : Nat) (hn : n ≤ 65536) : (Instr.makeSlice 62 (.int .i64 n) (.int .i64 n)).run Tryz.prog w = .ok (.slice (some ⟨w.heap.size, 0, none⟩) n n) (w.alloc (.cells (nils n) 55)) := by
  obtain ⟨i0, hi, hz0, hz1, hz2⟩ := info_parts Poly.infoS16
  have := run_make (P := Tryz.prog) w 62 55 i0 (.slice none 0 0) Tryz.underlying62 hi hz0 .i64 .i64 n n (by omega) (by omega) (by rw [hz2]; omega) (by omega)
  rw [this, hz1]; unfold nils; rw [← Poly.madeCells_rep]; simp [Value.cells]
/-- q channels were played: heads in block gp; W the world ahead -/
structure Pld (p l C B N gp q : Nat) (f : M.Fmt) (lo g : Nat → Nat) (L : Nat → List Int) (X : Nat → Nat → Nat → Int) (W wr : World) : Prop where
  dec : Dec p l C B f lo g (fun c => if c < q then M.jst B (X c) (L c) N else L c) wr
  top : ∃ hd : Array Value, Blk wr gp hd 55 ∧ hd.size = C ∧ ∀ c, c < q → ∃ u, hd[c]? = some u ∧ Reads .i16 (gp + 1) wr.heap.size wr u (M.jsm B (X c) (L c) N)
  lns : Lns g C W wr
  gp : p < gp
section
variable {p l C B N gp q : Nat} {f : M.Fmt} {lo g : Nat → Nat} {L : Nat → List Int} {X : Nat → Nat → Nat → Int} {W wr w2 : World}
theorem Pld.step (h : Pld p l C B N gp q f lo g L X W wr) (hq : q < C) (hb : But (g q) wr w2) (hx : Joi (lo q) (g q) B (M.jst B (X q) (L q) N) w2) {u : Value} (hu : Reads .i16 wr.heap.size w2.heap.size w2 u (M.jsm B (X q) (L q) N)) (hW : W.heap.size ≤ gp) :
    Pld p l C B N gp (q + 1) f lo g L X W (w2.setCell ⟨gp, q, none⟩ u) := by
  obtain ⟨h1, ⟨hd, h2, h3, h4⟩, h5, h6⟩ := h
  have sz : (w2.setCell ⟨gp, q, none⟩ u).heap.size = w2.heap.size := by simp [World.setCell]
  have s2 := hb.size
  have hgq := h1.gl hq
  have hgp := h2.lt
  have h2' : Blk w2 gp hd 55 := hb.blk h2 (by omega)
  have set : ∀ k, k ≠ gp → (w2.setCell ⟨gp, q, none⟩ u).heap[k]? = w2.heap[k]? := fun k hk => Below.heap_setCell _ _ _ _ (by show k ≠ gp; exact hk)
  have he : Jois l p C B lo g (fun c => if c < q + 1 then M.jst B (X c) (L c) N else L c) w2 := h1.joi.fed hq hb hx (by simp) fun c' hc' => by
    by_cases e : c' < q
    · rw [if_pos e, if_pos (by omega)]
    · rw [if_neg e, if_neg (by omega)]
  have hpb : Blk w2 p (oc f (.slice (some ⟨l, 0, none⟩) C C)) 179 := hb.blk h1.obj (by omega)
  refine ⟨⟨hpb.set_ne (by show p ≠ gp; omega) _, he.keep (by omega) fun b k0 k1 => set b (by have := h1.lp; omega), h1.lp⟩, ⟨_, h2'.set q u, by simpa using h3, fun c hc => ?_⟩, ?_, h6⟩
  · by_cases e : c = q
    · subst e
      refine ⟨u, by rw [Array.getElem?_setIfInBounds, if_pos rfl, if_pos (by omega)], ?_⟩
      rw [sz]
      exact (hu.keep fun b k0 k1 => set b (by omega)).mono (by omega) (Nat.le_refl _)
    · obtain ⟨u', hu', hb'⟩ := h4 c (by omega)
      refine ⟨u', by rw [Array.getElem?_setIfInBounds, if_neg (fun e' => e e'.symm)]; exact hu', ?_⟩
      rw [sz]
      exact (hb'.keep fun b k0 k1 => (set b (by omega)).trans (hb.block b k1 (by omega))).mono (Nat.le_refl _) s2
  · have := h5.size
    exact ⟨hb.os.trans h5.os, hb.tape.trans h5.tape, hb.output.trans h5.output, by rw [sz]; omega, fun k k0 k1 => (set k (by omega)).trans ((hb.block k (by omega) (k1 q hq)).trans (h5.block k k0 k1))⟩
theorem Pld.rows (h : Pld p l C B N gp C f lo g L X W wr) : Poly.Rows .i16 gp wr.heap.size wr (.slice (some ⟨gp, 0, none⟩) C C) ((List.range C).map fun c => M.jsm B (X c) (L c) N) := by
  obtain ⟨hd, h2, h3, h4⟩ := h.top
  refine ⟨some ⟨gp, 0, none⟩, C, by simp, by simp, .inr ⟨gp, 0, rfl, Nat.le_refl _, h2.lt, fun i hi => ?_⟩⟩
  have hi' : i < C := by simpa using hi
  obtain ⟨u, hu, hb⟩ := h4 i hi'
  refine ⟨u, by rw [Nat.zero_add]; exact h2.cell hu, ?_⟩
  rw [List.getD_eq_getElem?_getD, List.getElem?_map, List.getElem?_range hi']
  exact hb.mono (by omega) (Nat.le_refl _)
theorem Pld.start (h : Dec p l C B f lo g L W) {w2 : World} (hb : Below W.heap.size W w2) : Pld p l C B N w2.heap.size 0 f lo g L X W (w2.alloc (.cells (nils C) 55)) := by
  have hb2 := hb.alloc hb.size (.cells (nils C) 55)
  have := h.lt; have := hb.size
  exact ⟨⟨(h.below hb2 h.lt).obj, ⟨(h.below hb2 h.lt).joi.top, fun c hc => by simp only [Nat.not_lt_zero, if_false]; exact (h.below hb2 h.lt).joi.obj c hc, (h.below hb2 h.lt).joi.low, (h.below hb2 h.lt).joi.ord⟩, h.lp⟩, ⟨_, Blk.new _ _ _, nils_size C, fun c hc => absurd hc (by omega)⟩, Lns.of_below hb2, by omega⟩

/-- what is held while one channel's samples are stored -/
structure KP (a gp C : Nat) (Wn wx : World) : Prop where
  size : Wn.heap.size ≤ wx.heap.size
  block : ∀ k, k < Wn.heap.size → k ≠ a → k ≠ gp → wx.heap[k]? = Wn.heap[k]?
  head : ∃ hd : Array Value, Blk wx gp hd 55 ∧ hd.size = C
theorem KP.cell {a : Nat} {Wn wx : World} (h : KP a gp C Wn wx) (hq : q < C) : (∃ u, wx.cell? ⟨gp, q, none⟩ = some u) ∧ wx.frozen? ⟨gp, q, none⟩ = false := by
  obtain ⟨_, _, hd, h1, h2⟩ := h
  exact ⟨⟨hd[q]'(by omega), h1.cell (by simp [h2, hq])⟩, h1.free q⟩
theorem KP.but {a : Nat} {Wn wx w2 : World} (h : KP a gp C Wn wx) (b : But a wx w2) (hz : a ≠ gp) : KP a gp C Wn w2 := by
  obtain ⟨h0, h1, hd, h2, h3⟩ := h
  exact ⟨Nat.le_trans h0 b.size, fun k k0 k1 k2 => (b.block k (by omega) k1).trans (h1 k k0 k1 k2), hd, b.blk h2 (Ne.symm hz), h3⟩
theorem KP.set {a : Nat} {Wn wx : World} (h : KP a gp C Wn wx) (v : Value) : KP a gp C Wn (wx.setCell ⟨gp, q, none⟩ v) := by
  obtain ⟨h0, h1, hd, h2, h3⟩ := h
  exact ⟨by simpa [World.setCell] using h0, fun k k0 k1 k2 => (Below.heap_setCell _ _ _ _ (by show k ≠ gp; exact k2)).trans (h1 k k0 k1 k2), _, h2.set q v, by simpa using h3⟩
end

set_option maxRecDepth 100000 in
set_option maxHeartbeats 8000000 in
theorem Play_ok (p l C B N r : Nat) (f : M.Fmt) (lo g : Nat → Nat) (L : Nat → List Int) (lo' hi' : Nat) (X : Nat → Nat → Nat → Int) (v : Value) (w : World) (hF : Sb f C B N r) (he : Dec p l C B f lo g L w) (hv : B3 .i32 lo' hi' v C N B X w) (hX : ∀ c, Qnt.F32 (X c)) (hh : hi' ≤ w.heap.size) (hg : ∀ c, c < C → g c < lo' ∨ hi' ≤ g c) :
    Calls Tryz.prog 33 #[.pointer (some ⟨p, 0, none⟩), v] w fun e w' => ∃ u, e = .returned (.tuple #[u, .int .i64 0]) ∧ Reads .i16 w.heap.size w'.heap.size w' u (M.wov C (N * B) ((List.range C).map fun c => M.jsm B (X c) (L c) N)) ∧ Dec p l C B f lo g (fun c => M.jst B (X c) (L c) N) w' ∧ Lns g C w w' := by
  have n16 := hF.n16
  have c2 := hF.c2
  have b8 := hF.b8
  have hpl := he.lt
  have hlp := he.lp
  have h1 : Calls Tryz.prog 43 #[fv f, v] w fun e w' => e = .returned (.bool true) ∧ Below w.heap.size w w' :=
    (arePlanes_any hi' f _ C (fun _ => N) (fun _ _ => B) w hv.v3.l3 hh (by omega) (fun i hi => ⟨by omega, fun j hj => by omega⟩)).mono fun e w' ⟨q, he, hb', hq⟩ => ⟨by rw [he, hq.2 ⟨hF.hC.symm, fun i _ => ⟨hF.hN.symm, fun j _ => hF.hB.symm⟩⟩], hb'⟩
  obtain ⟨vb, vo, vc, rfl, hvc, hv0, hv1, hvr⟩ := hv
  have hjn : ∀ q wr, q < C → Lns g C w wr → Joi (lo q) (g q) B (L q) wr → ∃ u, (∀ wx : World, wx.heap[vb]? = wr.heap[vb]? → wx.cell? ⟨vb, vo + q, none⟩ = some u) ∧ Calls Tryz.prog 92 #[.pointer (some ⟨g q + 1, 0, none⟩), u] wr fun e w2 => ∃ b2, e = .returned b2 ∧ (∃ a n c, b2 = .slice a n c) ∧ Joi (lo q) (g q) B (M.jst B (X q) (L q) N) w2 ∧ But (g q) wr w2 ∧ Reads .i16 wr.heap.size w2.heap.size w2 b2 (M.jsm B (X q) (L q) N) := by
    intro q wr hq hl hj
    obtain ⟨u, hu, hb2⟩ := hvr q hq
    have hlow := he.joi.low
    have hpz := he.lt
    have kp : ∀ k, lo' ≤ k → k < hi' → wr.heap[k]? = w.heap[k]? := fun k k0 k1 => hl.block k (by omega) fun c hc e => by have := hg c hc; omega
    refine ⟨u, fun wx hk => (cell_keep (hk.trans (kp vb hv0 hv1))).trans hu, (join_any (lo q) (g q) B N lo' hi' (X q) (L q) u wr b8 (by omega) (by omega) hj (hb2.keep kp) (hX q) (by have := hl.size; omega) (hg q hq)).mono ?_⟩
    rintro e w2 ⟨b2, rfl, k1, k2, k3⟩
    have hr := Poly.reads_own (k := .i16) (t := 182) (v := b2) (zs := M.jsm B (X q) (L q) N) (by rw [M.jsm_length]; exact k3) (Poly.fit16.2 (M.jsm_fits _ _ _ _))
    obtain ⟨a, c, hf⟩ := hr.form
    exact ⟨b2, rfl, ⟨a, _, c, hf⟩, k1, k2, hr⟩
  have HJn : Hid _ := hjn
  have hwv : ∀ wr gp, Pld p l C B N gp C f lo g L X w wr → Calls Tryz.prog 93 #[.slice (some ⟨gp, 0, none⟩) C C] wr fun e w3 => ∃ a n c, e = .returned (.tuple #[.slice a n c, .int .i64 0]) ∧ Reads .i16 wr.heap.size w3.heap.size w3 (.slice a n c) (M.wov C (N * B) ((List.range C).map fun c => M.jsm B (X c) (L c) N)) ∧ Dec p l C B f lo g (fun c => M.jst B (X c) (L c) N) w3 ∧ Lns g C w w3 := by
    intro wr gp hp
    have hNB2 : N * B ≤ 128 := by have := Nat.mul_le_mul (show N ≤ 16 by omega) (show B ≤ 8 by omega); omega
    have hget : ∀ k, ((List.range C).map fun c => M.jsm B (X c) (L c) N).getD k [] = if k < C then M.jsm B (X k) (L k) N else [] := fun k => by
      by_cases h : k < C
      · rw [if_pos h, List.getD_eq_getElem?_getD, List.getElem?_map, List.getElem?_range h]; rfl
      · rw [if_neg h, List.getD_eq_getElem?_getD, List.getElem?_eq_none (by simp; omega)]; rfl
    refine (Pcm.Weave_ok gp wr.heap.size C (N * B) _ _ wr hp.rows (Nat.le_refl _) c2 (by simp) (fun k hk => by rw [hget, if_pos hk, M.jsm_length]) (fun k => ?_) (by omega)).mono ?_
    · rw [hget]; split
      · exact M.jsm_fits _ _ _ _
      · intro z hz; cases hz
    · rintro e w3 ⟨v3, rfl, hr, hb⟩
      obtain ⟨a, c, rfl⟩ := hr.form
      have hd := hp.dec.below hb hp.dec.lt
      refine ⟨a, _, c, rfl, hr, ⟨hd.obj, ⟨hd.joi.top, fun c hc => ?_, hd.joi.low, hd.joi.ord⟩, hd.lp⟩, hp.lns.below hb⟩
      have := hd.joi.obj c hc
      simp only [hc, if_true] at this
      exact this
  have HWv : Hid _ := hwv
  have HOb : Hid (∀ wx, Below w.heap.size w wx → Blk wx p (oc f (.slice (some ⟨l, 0, none⟩) C C)) 179) := fun wx hb => blk_below hb he.obj hpl
  have HSt : Hid (∀ w3, Below w.heap.size w w3 → Pld p l C B N w3.heap.size 0 f lo g L X w (w3.alloc (.cells (nils C) 55))) := fun w3 hb => Pld.start he hb
  have x0 := he.obj
  have HJ0 : Hid (Jois l p C B lo g L w) := he.joi
  have HgV : Hid (∀ c, c < C → g c < lo' ∨ hi' ≤ g c) := hg
  have hN := hF.hN
  have hC := hF.hC
  have hBB := hF.hB
  clear hjn hwv hF he hg hX hvr
  obtain ⟨c_, r_, h_, b_, k_, m_, j_, p_, l_, y_⟩ := f
  obtain rfl : h_ = C := hC
  obtain rfl : b_ = B := hBB
  obtain rfl : k_ = N := hN
  unfold fv at h1
  dsimp only at h1
  have xs := oc_cells x0; dsimp only at xs; obtain ⟨x0, x1, x2, x3, x4, x5, x6, x7, x8, x9, x10⟩ := xs
  have hmk := fun wx => mkR16 wx C (by omega)
  obtain ⟨cs, hcs⟩ : ∃ cs, nils C = cs := ⟨_, rfl⟩
  rw [hcs] at HSt
  simp only [hcs] at hmk
  clear hcs
  have i1 : (0 : Int) < C := by omega
  have i2 : (C : Int) ≤ 2 := by omega
  have i3 : 0 < C := by omega
  have i4 : (0 : Int) ≤ C := by omega
  go_enter Tryz.func33, Tryz.ntmps33
  go_wp2_with (first
    | (go_at_call 43; refine h1.mono ?_; clear h1; rintro e w2 ⟨rfl, b2⟩; clear x0 x1 x2 x3 x4 x5 x6 x7 x8 x9 x10; have xs := oc_cells (HOb.out w2 b2); dsimp only at xs; obtain ⟨x0, x1, x2, x3, x4, x5, x6, x7, x8, x9, x10⟩ := xs; have B2 : Hid (Below w.heap.size w w2) := b2; have S0 : Hid (Pld _ _ _ _ _ _ _ _ _ _ _ _ _ _) := HSt.out w2 b2; have y10 := (oc_cells S0.out.dec.obj).2.2.2.2.2.2.2.2.2.2; clear b2 HSt))
  have hb2 := B2.out
  have z2 := hb2.size
  clear x0 x1 x2 x3 x4 x5 x6 x7 x8 x9 x10 y10 hmk
  go_loopw [26] (fun i wr => ∃ q : Nat, q ≤ C ∧ i = .int .i64 q ∧ Pld p l C B N w2.heap.size q ⟨c_, r_, C, B, N, m_, j_, p_, l_, y_⟩ lo g L X w wr) (fun i _ => C - (intOf i).toNat)
  case atStart => exact ⟨0, by omega, rfl, S0.out⟩
  case round =>
    clear S0
    obtain ⟨q, hq, rfl, hf⟩ := hrel
    have HF : Hid _ := hf
    by_cases hlt : q < C
    · have hlt' : (q : Int) < C := by omega
      have t9 : wr.cell? ⟨l, q, none⟩ = some (.pointer (some ⟨g q + 1, 0, none⟩)) := hf.dec.joi.top' hlt
      have spq : Joi (lo q) (g q) B (L q) wr := by
        have := hf.dec.joi.obj q hlt
        simp only [Nat.lt_irrefl, if_false] at this
        exact this
      obtain ⟨u, hu, hcall⟩ := HJn.out q wr hlt hf.lns spq
      have c9 := hu wr rfl
      have HC : Hid (Calls _ _ _ _ _) := hcall
      have hgq := hf.dec.gl hlt
      have hgp := hf.gp
      have htp : ∀ w5, But (g q) wr w5 → (∃ uu, w5.cell? ⟨w2.heap.size, q, none⟩ = some uu) ∧ w5.frozen? ⟨w2.heap.size, q, none⟩ = false := fun w5 hb => by
        obtain ⟨hd, k1, k2, _⟩ := hf.top
        have k3 : Blk w5 w2.heap.size hd 55 := hb.blk k1 (by omega)
        exact ⟨⟨hd[q]'(by omega), k3.cell (by simp [k2, hlt])⟩, k3.free q⟩
      have HTp : Hid _ := htp
      clear hf spq hu hcall htp
      go_wp2_with (first
        | (go_at_call 92; refine HC.out.mono ?_; clear HC; rintro e w5 ⟨u5, rfl, ⟨a5, n5, c5, rfl⟩, k1, k2, k3⟩; obtain ⟨⟨uu, hu⟩, hfz⟩ := HTp.out w5 k2; have HS : Hid (Pld _ _ _ _ _ _ _ _ _ _ _ _ _ _) := HF.out.step hlt k2 k1 k3 z2; clear k1 k2 k3))
      go_roundw
      case rel => exact ⟨q + 1, by omega, by go_num, HS.out⟩
      case measure => simp [intOf]; omega
    · obtain rfl : C = q := by omega
      have hcall := HWv.out wr w2.heap.size hf
      have HC : Hid (Calls _ _ _ _ _) := hcall
      clear hf hcall HWv
      go_wp2_with (go_at_call 93; refine HC.out.mono ?_; clear HC; rintro e w5 ⟨a5, n5, c5, rfl, k1, k2, k3⟩; have HR : Hid (Reads _ _ _ _ _ _) := k1; have HD : Hid _ := k2; have HL : Hid _ := k3; clear k1 k2 k3)
      go_ret2
      exact ⟨_, rfl, HR.out.mono (by have := HF.out.lns.size; omega) (Nat.le_refl _), HD.out, HL.out⟩

end Sub
end Go.Proofs.YtcaifpjbjghhaaaGreatDoor

/-
  A frame that is made, parsed, packed again and turned into planes: the calls behind one another. Conditions: as told at each.
-/
namespace Go.Proofs.YtcaifpjbjghhaaaGreatDoor
set_option linter.unusedVariables false
open Go.RowKit
namespace Sub
open Bank (Blk But)
open Byt (Given)
open Poly (Reads cell_keep alloc_size Spl Joi enc)
open _root_.Go.Proofs.YtcaifpjbjghhaaaGreatDoor.Form (fv fc bel1 box_cells blk_below of_drew)

/-- the frame of samples x behind lines L -/
def frameOf (f : M.Fmt) (C B N r n : Nat) (sl : Int) (L : Nat → List Int) (x : List Int) : List Nat := M.frb f C B N r sl (M.an f C B N r sl (M.enX B N C x L)) n
theorem lay_ok {aj az ac E B C N hi : Nat} {pf : Nat → Nat} (h1 : aj < hi) (h2 : az + C < hi) (h3 : E ≤ hi) (h4 : ac < E) (h5 : ∀ i, i < N → ac < pf i ∧ pf i + C < E) : (lay aj az ac B C N pf).ok hi C B N :=
  ⟨⟨h1, Nat.le_refl _⟩, ⟨by show az < hi; omega, Nat.le_refl _⟩, ⟨by show ac < hi; omega, Nat.le_refl _⟩, fun y hy => ⟨by show az + 1 + y < hi; omega, Nat.le_refl _⟩, fun i hi' => ⟨by show pf i < hi; have := h5 i hi'; omega, Nat.le_refl _⟩, fun i hi' y hy => ⟨by show pf i + 1 + y < hi; have := h5 i hi'; omega, Nat.le_refl _⟩⟩

theorem back_steps (p l C B N r n : Nat) (f : M.Fmt) (lo g : Nat → Nat) (L : Nat → List Int) (lo' hi' : Nat) (x : List Int) (v : Value) (W : World) (hT : ∀ wx, Lns g C W wx → Alloc.Tabs wx) (hF : Sb f C B N r) (he : Enc p l C B f lo g L W) (hx : Reads .i16 lo' hi' W v x) (hh : hi' ≤ W.heap.size) (hl : x.length = C * (N * B)) (hn : M.pay f = n) :
    ∃ sl, Sh f C B r (M.anS f N B (M.enX B N C x L)) sl ∧
    Calls Tryz.prog 30 #[.pointer (some ⟨p, 0, none⟩), v] W fun e W2 => ∃ g0 cap, e = .returned (.tuple #[.slice (some ⟨g0, 0, none⟩) n cap, .int .i64 0]) ∧ W.heap.size ≤ g0 ∧ Given W2 (.slice (some ⟨g0, 0, none⟩) n cap) (frameOf f C B N r n sl L x) ∧ Enc p l C B f lo g (M.enL B N C x L) W2 ∧ Lns g C W W2 ∧
      Calls Tryz.prog 24 #[fv f, .slice (some ⟨g0, 0, none⟩) n cap] W2 fun e W3 => ∃ aj az ac, e = .returned (.tuple #[pa (.slice (some ⟨aj, 0, none⟩) B B) (.slice (some ⟨az, 0, none⟩) C C) (.slice (some ⟨ac, 0, none⟩) N N), .int .i64 0]) ∧ Below W2.heap.size W2 W3 ∧
        ∀ W4, Below W3.heap.size W3 W4 → Calls Tryz.prog 23 #[fv f, pa (.slice (some ⟨aj, 0, none⟩) B B) (.slice (some ⟨az, 0, none⟩) C C) (.slice (some ⟨ac, 0, none⟩) N N)] W4 fun e W5 => ∃ g1 c1, e = .returned (.tuple #[.slice (some ⟨g1, 0, none⟩) n c1, .int .i64 0]) ∧ Below W4.heap.size W4 W5 ∧ Given W5 (.slice (some ⟨g1, 0, none⟩) n c1) (frameOf f C B N r n sl L x) ∧
          Calls Tryz.prog 15 #[fv f, pa (.slice (some ⟨aj, 0, none⟩) B B) (.slice (some ⟨az, 0, none⟩) C C) (.slice (some ⟨ac, 0, none⟩) N N)] W5 fun e W6 => ∃ b o c, e = .returned (.tuple #[.slice (some ⟨b, o, none⟩) C c, .int .i64 0]) ∧ Below W5.heap.size W5 W6 := by
  have hends := M.ends (f := f) (.inl hF.ok)
  rw [hn] at hends
  have hbit : M.bitS f ≤ 8 * (n : Int) := by have := hends.2.2.2.2; unfold M.bitF at this; rw [if_pos hF.ok.1] at this; exact this
  have n7 : 7 ≤ n := by have := hends.2.2.1; omega
  have c2 := hF.c2
  have b8 := hF.b8
  have n16 := hF.n16
  obtain ⟨sl, hS⟩ := sh_of hF (Z := M.anS f N B (M.enX B N C x L)) (fun c _ b _ => M.anS_bd _ _ _ _ _ _)
  refine ⟨sl, hS, (Feed_ok p l C B N r n f lo g L sl lo' hi' x v W hT hF he hx hh hl hS hn).mono ?_⟩
  rintro e W2 ⟨u, rfl, ho, he2, hl2⟩
  obtain ⟨au, cu, rfl⟩ := Poly.own_form ho
  change W2.ownsRow W.heap.size _ 1 _ n ((frameOf f C B N r n sl L x).map fun x : Nat => Value.int .u8 x) at ho
  have hlen : (frameOf f C B N r n sl L x).length = n := M.frb_length
  have hlt : ∀ y ∈ frameOf f C B N r n sl L x, y < 256 := M.frb_lt
  have hg : Given W2 (.slice au n cu) (frameOf f C B N r n sl L x) := Byt.given_own (by rw [hlen]; exact ho) hlt
  obtain ⟨g0, rfl, hg0⟩ : ∃ g0, au = some ⟨g0, 0, none⟩ ∧ W.heap.size ≤ g0 := by
    rcases id ho.2 with ⟨_, h0⟩ | ⟨g0, cap, cur, h1, h2, _⟩
    · omega
    · cases h1; exact ⟨g0, rfl, h2⟩
  have hfr := fun sl' hS' => frame_is (sl' := sl') hF (m := M.an f C B N r sl (M.enX B N C x L)) (n := n) hS (M.an_ok hF) hn (fun c _ b _ => M.anS_bd _ _ _ _ _ _) hS'
  obtain ⟨sl', hS'⟩ := psc_sh (xs := frameOf f C B N r n sl L x) hF hlen hn
  obtain ⟨rfl, _, hisF⟩ := hfr sl' hS'
  refine ⟨g0, cu, rfl, hg0, hg, he2, hl2, ?_⟩
  have hT2 := hT W2 hl2
  refine (Parse_any f C B N r n _ (frameOf f C B N r n sl' L x) sl' W2 hT2 hF hS' hg hlen hn).mono ?_
  rintro e W3 ⟨b3, ⟨_, aj, az, ac, E, pf, rfl, got⟩ | ⟨hno, _⟩⟩
  · refine ⟨aj, az, ac, rfl, b3, fun W4 b4 => ?_⟩
    have hall := M.all_get (Bt := Bits.bitsL (frameOf f C B N r n sl' L x)) (n := (frameOf f C B N r n sl' L x).length) (N := N) (sl := sl') hF (by rw [hlen]; exact hbit) hS'
    have hsc := M.sc_sh (Bt := Bits.bitsL (frameOf f C B N r n sl' L x)) (n := (frameOf f C B N r n sl' L x).length) (r := r) hF (by rw [hlen]; exact hbit)
    have hms : (pnb f C B N r sl' (frameOf f C B N r n sl' L x)).s = psc f C B (frameOf f C B N r n sl' L x) := hall.1
    have hread : M.Read f C B N r sl' (Bits.bitsL (frameOf f C B N r n sl' L x)) (pnb f C B N r sl' (frameOf f C B N r n sl' L x)) := hall.2
    have hiF := hisF
    obtain ⟨hok, hfb⟩ := hiF
    have hfb' : M.frb f C B N r sl' (pnb f C B N r sl' (frameOf f C B N r n sl' L x)) n = frameOf f C B N r n sl' L x := by
      have := hfb
      rw [show (M.frb f C B N r sl' (M.an f C B N r sl' (M.enX B N C x L)) n).length = n from hlen] at this
      exact this
    obtain ⟨PN, hPN⟩ : ∃ PN, pnb f C B N r sl' (frameOf f C B N r n sl' L x) = PN := ⟨_, rfl⟩
    have hokm : okM f C B N r sl' PN := by rw [← hPN]; exact hok
    rw [hPN] at got hms hread hfb'
    have hj : ∀ b, b < B → -9223372036854775808 ≤ PN.j b ∧ PN.j b ≤ 9223372036854775807 := fun b hb => by
      rw [hread.j b hb]
      have := M.fv_lt (Bits.bitsL (frameOf f C B N r n sl' L x)) (32 + b) 1
      split <;> omega
    have hZ : ∀ c, c < C → ∀ b, b < B → 0 ≤ PN.s c b ∧ PN.s c b ≤ 15 := by rw [hms]; exact hsc.1
    have hSP : Sh f C B r PN.s sl' := by rw [hms]; exact hS'
    have gh := got.hi
    have ok4 : (lay aj az ac B C N pf).ok W3.heap.size C B N := lay_ok gh.1 gh.2.1 gh.2.2 got.ap.e got.made.q.lo
    have b24 : Below W2.heap.size W2 W4 := b3.trans (b4.mono b3.size)
    have sees3 := got.made.sees
    have sees : ∀ wx, Below W3.heap.size W3 wx → Sees (lay aj az ac B C N pf) C B N PN wx := fun wx hb => sees3.keep ok4 fun k hk => hb.block k hk
    have hT4 : ∀ wx, Below W2.heap.size W2 wx → Alloc.Tabs wx := fun wx hb => hT2.below hb (Nat.le_refl _)
    refine (Pack_laid W3.heap.size f C B N r n (lay aj az ac B C N pf) PN sl' W4 (hT4 W4 b24) hF hSP ok4 (sees W4 b4) b4.size hZ hj hn).mono ?_
    rintro e W5 ⟨b5, ⟨_, u5, rfl, ho5⟩ | ⟨hno, _⟩⟩
    · rw [hfb'] at ho5
      obtain ⟨a5, c5, rfl⟩ := Poly.own_form ho5
      obtain ⟨g5, rfl⟩ : ∃ g5, a5 = some ⟨g5, 0, none⟩ := by
        rcases id ho5.2 with ⟨_, h0⟩ | ⟨g5, cap, cur, h1, _⟩
        · omega
        · cases h1; exact ⟨g5, rfl⟩
      have b35 : Below W3.heap.size W3 W5 := b4.trans (b5.mono b4.size)
      have b25 : Below W2.heap.size W2 W5 := b3.trans (b35.mono b3.size)
      refine ⟨g5, c5, rfl, b5, Byt.given_own (by rw [hlen]; exact ho5) hlt, ?_⟩
      have hs5 := sees W5 b35
      have hr : ∀ wx, Below W5.heap.size W5 wx → Calls Tryz.prog 52 #[fv f, pa (.slice (some ⟨aj, 0, none⟩) B B) (.slice (some ⟨az, 0, none⟩) C C) (.slice (some ⟨ac, 0, none⟩) N N)] wx fun e w' => e = .returned (.int .i64 0) ∧ Below wx.heap.size wx w' := fun wx hb => by
        have hbx : Below W3.heap.size W3 wx := b35.trans (hb.mono b35.size)
        have hsx := sees wx hbx
        refine (refuse_laid W3.heap.size f C B N r (rl B PN.j) PN.q PN.s sl' _ _ _ wx (hT4 wx (b25.trans (hb.mono b25.size))) hF hSP ((hsx.v1 ok4).reads' fun j hj' => wf64.2 (hj j hj')) (hsx.v2 ok4) (hsx.v3 ok4) hbx.size (by rw [rl_length]; omega) hZ).mono ?_
        rintro e w' ⟨h1, ⟨h2, _⟩ | ⟨_, h2⟩⟩
        · exact ⟨h2, h1⟩
        · exact absurd hokm h2
      refine (Planes_ok W3.heap.size f C B N r _ _ _ PN sl' W5 (hT4 W5 b25) hF hSP (hs5.v1 ok4) (hs5.v2 ok4) (hs5.v3 ok4) b35.size hZ hr).mono ?_
      rintro e W6 ⟨v6, rfl, b6, h6⟩
      obtain ⟨b, o, c, rfl, _⟩ := h6
      exact ⟨b, o, c, rfl, b6⟩
    · exact absurd hokm hno
  · exact absurd hisF hno

end Sub
end Go.Proofs.YtcaifpjbjghhaaaGreatDoor

/-
  The document's answer of layer 11: bits, bytes, samples. Conditions: as told at each.
-/
namespace Go.Proofs.YtcaifpjbjghhaaaGreatDoor
set_option linter.unusedVariables false
open Go.RowKit
namespace Form
open Bank (Blk But)
open Poly (alloc_size)

theorem rBits_S (f : M.Fmt) (w : World) (hc : f.c = 1) (hb : f.b = 4 ∨ f.b = 8) (hh : f.h = 1 ∨ f.h = 2) (hk : f.k = 4 ∨ f.k = 8 ∨ f.k = 12 ∨ f.k = 16) (hp : 0 ≤ f.p ∧ f.p ≤ 251) :
    Calls Tryz.prog 56 #[fv f] w fun e w' => e = .returned (.int .i64 (M.bitS f)) ∧ Below w.heap.size w w' := by
  have hx := M.kp_bd hk hp
  obtain ⟨c, r, h, b, k, m, j, p, l, y⟩ := f
  unfold fv M.bitS
  dsimp only at hc hb hh hk hp hx ⊢
  subst hc
  obtain ⟨x, ex⟩ : ∃ x, k * p = x := ⟨_, rfl⟩
  rw [ex] at hx ⊢
  have b0 : 4 ≤ b ∧ b ≤ 8 := by omega
  clear hb hk hp
  by_cases hj : j = 1
  · subst hj
    rw [if_pos rfl]
    rcases hh with rfl | rfl
    · go_enter Tryz.func56, Tryz.ntmps56
      go_wp2
      refine wp_loop_rounds 2 ?_
      rw [rounds_succ]
      go_wp2
      rw [rounds_succ]
      go_wp2
      go_ret
      exact ⟨ret_int (by omega), bel1 _ _⟩
    · go_enter Tryz.func56, Tryz.ntmps56
      go_wp2
      refine wp_loop_rounds 3 ?_
      rw [rounds_succ]
      go_wp2
      rw [rounds_succ]
      go_wp2
      rw [rounds_succ]
      go_wp2
      go_ret
      exact ⟨ret_int (by omega), bel1 _ _⟩
  · have e1 : (j == 1) = false := by simpa using hj
    rw [if_neg hj]
    rcases hh with rfl | rfl
    · go_enter Tryz.func56, Tryz.ntmps56
      go_wp2
      refine wp_loop_rounds 2 ?_
      rw [rounds_succ]
      go_wp2
      rw [rounds_succ]
      go_wp2
      go_ret
      exact ⟨ret_int (by omega), bel1 _ _⟩
    · go_enter Tryz.func56, Tryz.ntmps56
      go_wp2
      refine wp_loop_rounds 3 ?_
      rw [rounds_succ]
      go_wp2
      rw [rounds_succ]
      go_wp2
      rw [rounds_succ]
      go_wp2
      go_ret
      exact ⟨ret_int (by omega), bel1 _ _⟩

end Form
end Go.Proofs.YtcaifpjbjghhaaaGreatDoor

/-
  Contract of an encoder's Reset; samples that are copied into a new block. Conditions: as told at each.
-/
namespace Go.Proofs.YtcaifpjbjghhaaaGreatDoor
set_option linter.unusedVariables false
open Go.RowKit
namespace Sub
open Bank (Blk But)
open Poly (Reads cell_keep alloc_size Spl Joi enc enc_length enc_get add_off enc_one fit16)
open _root_.Go.Proofs.YtcaifpjbjghhaaaGreatDoor.Form (fv fc bel1 box_cells blk_below of_drew)

theorem Enc.fed {p l C B : Nat} {f : M.Fmt} {lo g : Nat → Nat} {L L' : Nat → List Int} {w w2 : World} {q : Nat} {xs : List Int} (h : Enc p l C B f lo g L w) (hq : q < C) (hb : But (g q) w w2) (hx : Spl (lo q) (g q) B xs w2) (hL : L' q = xs) (ho : ∀ c, c ≠ q → L' c = L c) : Enc p l C B f lo g L' w2 :=
  ⟨hb.blk h.obj (by have := h.gl hq; omega), h.spl.fed hq hb hx hL ho, h.lp⟩

set_option maxRecDepth 100000 in
set_option maxHeartbeats 1000000 in
theorem EncReset_ok (p l C B : Nat) (f : M.Fmt) (lo g : Nat → Nat) (L : Nat → List Int) (w : World) (he : Enc p l C B f lo g L w) (C2 : C ≤ 2) (B1 : 1 ≤ B) :
    Calls Tryz.prog 37 #[.pointer (some ⟨p, 0, none⟩)] w fun e w' => e = .returned (.tuple #[]) ∧ Enc p l C B f lo g (fun _ => List.replicate (10 * B) 0) w' ∧ Lns g C w w' := by
  have xs := oc_cells he.obj
  obtain ⟨x0, x1, x2, x3, x4, x5, x6, x7, x8, x9, x10⟩ := xs
  have HE : Hid (Enc p l C B f lo g (fun c => if c < 0 then List.replicate (10 * B) 0 else L c) w) := he.ext fun c _ => by simp
  have i1 : (C : Int) ≤ 2 := by omega
  have i2 : (0 : Int) ≤ C := by omega
  clear he
  go_enter Tryz.func37, Tryz.ntmps37
  go_wp2
  go_loopw [11] (fun i wr => ∃ q : Nat, q ≤ C ∧ i = .int .i64 q ∧ Enc p l C B f lo g (fun c => if c < q then List.replicate (10 * B) 0 else L c) wr ∧ Lns g C w wr) (fun i _ => C - (intOf i).toNat)
  case atStart => exact ⟨0, by omega, rfl, HE.out, Lns.refl _ _ _⟩
  case round =>
    clear HE x0 x1 x2 x3 x4 x5 x6 x7 x8 x9 x10
    obtain ⟨q, hq, rfl, he, hl⟩ := hrel
    by_cases hlt : q < C
    · have hlt' : (q : Int) < C := by omega
      have t9 : wr.cell? ⟨l, q, none⟩ = some (.pointer (some ⟨g q + 1, 0, none⟩)) := he.spl.top' hlt
      have spq : Spl (lo q) (g q) B (L q) wr := by
        have := he.spl.obj q hlt
        simp only [Nat.lt_irrefl, if_false] at this
        exact this
      have hrs := Poly.splitReset (lo q) (g q) B (L q) wr spq B1
      have hnx : ∀ w2, Spl (lo q) (g q) B (List.replicate (10 * B) 0) w2 → But (g q) wr w2 → Enc p l C B f lo g (fun c => if c < q + 1 then List.replicate (10 * B) 0 else L c) w2 ∧ Lns g C w w2 := fun w2 k1 k2 =>
        ⟨he.fed hlt k2 k1 (by simp) fun c hc => by
          by_cases e : c < q
          · rw [if_pos e, if_pos (by omega)]
          · rw [if_neg e, if_neg (by omega)], hl.trans (Lns.of_but k2 hlt)⟩
      have HNx : Hid _ := hnx
      clear he hl spq hnx
      go_wp2_with (go_at_call 95; refine hrs.mono ?_; clear hrs; rintro e w2 ⟨rfl, k1, k2⟩; obtain ⟨e2, l2⟩ := HNx.out w2 k1 k2; have E2 : Hid (Enc _ _ _ _ _ _ _ _ _) := e2; have L2 : Hid (Lns _ _ _ _) := l2; clear k1 k2 e2 l2)
      go_roundw
      case rel => exact ⟨q + 1, by omega, by go_num, E2.out, L2.out⟩
      case measure => simp [intOf]; omega
    · obtain rfl : C = q := by omega
      have E2 : Hid (Enc p l C B f lo g (fun _ => List.replicate (10 * B) 0) wr) := he.ext fun c hc => by simp [hc]
      have L2 : Hid (Lns g C w wr) := hl
      clear he hl
      go_wp2
      go_end0
      exact ⟨rfl, E2.out, L2.out⟩

/-- what is left of a list that is read -/
theorem Reads.rest {k : IntKind} {lo hi L c b off : Nat} {w : World} {zs : List Int} (h : Reads k lo hi w (.slice (some ⟨b, off, none⟩) L c) zs) {a : Nat} (ha : a < L) : Reads k lo hi w (.slice (some ⟨b, off + a, none⟩) (L - a) (c - a)) (zs.drop a) := by
  obtain ⟨a', c', he, hc, hw, hx⟩ := h
  cases he
  rcases hx with h0 | ⟨b', o', h1, h2, h3, h4⟩
  · rw [h0] at ha; simp at ha
  · cases h1
    have hl : (zs.drop a).length = zs.length - a := by simp
    refine ⟨_, c - a, by rw [hl], by rw [hl]; omega, fun z hz => hw z (List.mem_of_mem_drop hz), .inr ⟨b, off + a, rfl, h2, h3, fun j hj => ?_⟩⟩
    rw [hl] at hj
    have := h4 (a + j) (by omega)
    rw [← Nat.add_assoc] at this
    rw [this]
    congr 2
    rw [List.getD_eq_getElem?_getD, List.getD_eq_getElem?_getD, List.getElem?_drop]
theorem sp_tk (N k : Nat) (q : List Int) (hk : k = min q.length N) : splice (enc .i16 (List.replicate N 0)) 0 (enc .i16 (q.take k)) = enc .i16 (M.tk N q) := by
  unfold splice
  have e : enc .i16 (q.take k) ++ (enc .i16 (List.replicate N 0)).drop (0 + (enc .i16 (q.take k)).length) = enc .i16 (q.take k ++ (List.replicate N 0).drop k) := by
    rw [enc_length, List.length_take, show min k q.length = k by omega]
    simp [enc]
  rw [e, List.take_zero, List.nil_append]
  congr 1
  refine M.eq_of_getD (by rw [M.tk_length]; simp; omega) fun i hi => ?_
  simp at hi
  rw [M.getD_append, M.tk_get (by omega)]
  split
  · rename_i h; simp at h; rw [M.getD_take (by omega)]
  · rename_i h
    simp at h
    rw [List.drop_replicate, M.getD_rep, M.getD_out (by omega)]
/-- copied into a new block of n samples -/
theorem copy_tk {wr : World} {g n lo hi b off m c : Nat} {q : List Int} (h : Blk wr g (enc .i16 (List.replicate n 0)).toArray 182) (hq : Reads .i16 lo hi wr (.slice (some ⟨b, off, none⟩) m c) q) (hm : 0 < m) :
    ∃ k : Nat, ∀ ty : TypeId, (Builtin.copy_ #[55, 55] ty #[.slice (some ⟨g, 0, none⟩) n n, .slice (some ⟨b, off, none⟩) m c]).run Tryz.prog wr = .ok (goInt k) (wr.setRow g (enc .i16 (M.tk n q)).toArray) := by
  have hlq : q.length = m := by obtain ⟨_, _, he, _⟩ := hq; cases he; rfl
  obtain ⟨b', o', he, q0, q1, hcx⟩ := hq.cell (by omega)
  cases he
  refine ⟨(enc .i16 (q.take (min m n))).length, fun ty => ?_⟩
  have hcp := run_copy_row (P := Tryz.prog) wr 55 55 ty 182 g 0 n n ⟨b, off, none⟩ m c _ 182 (enc .i16 (q.take (min m n))) Tryz.underlying55 (by kernel_rfl) h
    (by rw [enc_length, List.length_take, hlq]; show min (min m n) m = min m n; omega) (fun j v hv => by
      rw [add_off]
      have hj : j < (q.take (min m n)).length := by have := (List.getElem?_eq_some_iff.1 hv).1; rw [enc_length] at this; exact this
      rw [enc_get hj] at hv
      rw [← Option.some.inj hv]
      have hj2 : j < min m n := by rw [List.length_take, hlq] at hj; omega
      rw [M.getD_take hj2]
      exact hcx j (by omega)) (by rw [enc_length, List.length_take, hlq]; simp [enc_length]; omega) (enc_one _ _)
  rw [hcp]
  have hs := sp_tk n (min m n) q (by rw [hlq])
  unfold splice at hs
  rw [List.append_assoc]
  rw [show (enc .i16 (List.replicate n 0)).toArray.toList = enc .i16 (List.replicate n 0) from rfl, hs]
theorem given_keep {w w' : World} {g0 n cap : Nat} {xs : List Nat} (h : Byt.Given w (.slice (some ⟨g0, 0, none⟩) n cap) xs) (hs : w.heap.size ≤ w'.heap.size) (hk : w'.heap[g0]? = w.heap[g0]?) : Byt.Given w' (.slice (some ⟨g0, 0, none⟩) n cap) xs := by
  obtain ⟨a, c, he, h1, h2, h3, h4⟩ := h
  cases he
  refine ⟨_, _, rfl, h1, h2, h3, ?_⟩
  rcases h4 with h4 | ⟨b, off, hb, hl, hx⟩
  · exact .inl h4
  · cases hb
    exact .inr ⟨g0, 0, rfl, by omega, fun i x hi => (cell_keep hk).trans (hx i x hi)⟩
theorem setRow_below {N : Nat} {a w : World} {g : Nat} (h : Below N a w) (hg : N ≤ g) (cs : Array Value) : Below N a (w.setRow g cs) := by
  refine ⟨h.os, h.tape, h.output, ?_, fun k hk => ?_⟩
  · have := h.size
    have e : (w.setRow g cs).heap.size = w.heap.size := by simp [World.setRow]
    omega
  · exact (setRow_other w g k cs (by omega)).trans (h.block k hk)

end Sub
end Go.Proofs.YtcaifpjbjghhaaaGreatDoor

/-
  Which planes are more than the document's package looks at. Conditions: as told at each.
-/
namespace Go.Proofs.YtcaifpjbjghhaaaGreatDoor
set_option linter.unusedVariables false
open Go.RowKit
namespace Sub
open Qnt (Hd FarL Yes Far_any)

/-- far planes -/
def FarP (N : Nat) (l : Nat → Nat) (m : Nat → Nat → Nat) : Prop := 10 < N ∨ ∃ i, i < N ∧ FarL (l i) (m i)
set_option maxHeartbeats 1000000 in
theorem FarPlanes_any (hi : Nat) (v : Value) (N : Nat) (l : Nat → Nat) (m : Nat → Nat → Nat) (w : World) (h : L3 hi v N l m w) :
    Calls Tryz.prog 12 #[v] w fun e w' => Yes (FarP N l m) w e w' := by
  obtain ⟨ax, cx, rfl⟩ := h.form
  have HZ : Hid (L3 hi (.slice ax N cx) N l m w) := h
  clear h
  by_cases h10 : 10 < N
  · have h10' : (10 : Int) < N := by omega
    go_enter Tryz.func12, Tryz.ntmps12
    go_wp2
    go_ret
    exact ⟨rfl, .inl ⟨rfl, .inl h10⟩⟩
  · have h10' : ¬ (10 : Int) < N := by omega
    have h11 : (N : Int) ≤ 10 := by omega
    go_enter Tryz.func12, Tryz.ntmps12
    go_wp2
    go_loopw [3] (fun i wr => ∃ q : Nat, q ≤ N ∧ i = .int .i64 q ∧ wr = w ∧ ∀ k, k < q → ¬ FarL (l k) (m k)) (fun i _ => N - (intOf i).toNat)
    case atStart => exact ⟨0, by omega, rfl, rfl, fun k hk => absurd hk (by omega)⟩
    case round =>
      obtain ⟨q, hq, rfl, hw, hall⟩ := hrel
      subst hw
      have HA : Hid _ := hall
      clear hall
      by_cases hlt : q < N
      · have hlt' : (q : Int) < N := by omega
        obtain ⟨b, off, rfl, _, hx⟩ := HZ.out.at (by omega)
        obtain ⟨a3, c3, hu, hh⟩ := hx q hlt
        have hf := Far_any hi _ (l q) (m q) wr hh
        clear hx hh
        obtain ⟨z, hz⟩ : ∃ z, l q = z := ⟨_, rfl⟩
        rw [hz] at hu hf
        have HZq : Hid (l q = z) := hz
        clear hz
        by_cases hF : FarL z (m q)
        · have HF : Hid (FarL z (m q)) := hF
          have hf' : Calls Tryz.prog 41 #[.slice a3 z c3] wr fun e w' => e = .returned (.bool true) ∧ w' = wr := hf.mono fun e w' h => h.yes hF
          clear hF hf
          go_wp2_with (go_at_call 41; refine hf'.mono ?_; clear hf'; rintro e w3 ⟨rfl, rfl⟩)
          go_ret
          exact ⟨rfl, .inl ⟨rfl, .inr ⟨q, hlt, by rw [HZq.out]; exact HF.out⟩⟩⟩
        · have HF : Hid (¬ FarL z (m q)) := hF
          have hf' : Calls Tryz.prog 41 #[.slice a3 z c3] wr fun e w' => e = .returned (.bool false) ∧ w' = wr := hf.mono fun e w' h => h.no hF
          clear hF hf
          go_wp2_with (go_at_call 41; refine hf'.mono ?_; clear hf'; rintro e w3 ⟨rfl, rfl⟩)
          go_roundw
          case rel =>
            refine ⟨q + 1, by omega, by go_num, by first | rfl | trivial, fun j hj => ?_⟩
            rcases (by omega : j < q ∨ j = q) with h | rfl
            · exact HA.out j h
            · rw [HZq.out]; exact HF.out
          case measure => simp [intOf]; omega
      · obtain rfl : q = N := by omega
        go_wp2
        go_ret
        refine ⟨rfl, .inr ⟨rfl, ?_⟩⟩
        rintro (h | ⟨i, hi', h⟩)
        · exact h10 h
        · exact HA.out i hi' h

end Sub
end Go.Proofs.YtcaifpjbjghhaaaGreatDoor

/-
  The document's answer for layer 12: offsets and what bands need. Conditions: as told at each.
-/
namespace Go.Proofs.YtcaifpjbjghhaaaGreatDoor
set_option linter.unusedVariables false
open Go.RowKit
namespace M
end M
namespace Alloc
open Bank (Blk But)
open Poly (alloc_size enc cell_keep below_drew Gat)
open _root_.Go.Proofs.YtcaifpjbjghhaaaGreatDoor.Form (fv fc bel1 blk_below box_cells of_drew box_behind)

theorem owns_below {w w' : World} {base e size : Nat} {v : Value} {n : Nat} {xs : List Value} (h : w.ownsRow base e size v n xs) (hb : Below w.heap.size w w') : w'.ownsRow base e size v n xs :=
  h.kept (row := none) ⟨hb.os, hb.tape, hb.output, hb.size, fun k hk _ => hb.block k hk⟩ (by cases v.ownBlock <;> simp)
theorem Gat.grow {k : IntKind} {t : TypeId} {B : Nat} {v : Value} {zs : List Int} {w wr w' : World} (h : Gat k t B v zs w wr) (hb : Below wr.heap.size wr w') : Gat k t B v zs w w' := ⟨owns_below h.1 hb, h.2.1.trans (hb.mono h.size), h.2.2⟩

end Alloc
end Go.Proofs.YtcaifpjbjghhaaaGreatDoor

/-
  The document's answer for layer 12: what bands get. Conditions: as told at each.
-/
namespace Go.Proofs.YtcaifpjbjghhaaaGreatDoor
set_option linter.unusedVariables false
open Go.RowKit
namespace Alloc
open Bank (Blk But)
open Poly (alloc_size enc enc_get cell_keep below_drew Gat Fill)
open _root_.Go.Proofs.YtcaifpjbjghhaaaGreatDoor.Form (fv fc bel1 blk_below box_cells of_drew box_behind)

/-- the bits of N bands in the block that was made first behind W -/
structure Bits (W : World) (N : Nat) (G : Nat → Int) (wr : World) : Prop where
  row : Fill .i64 3 W.heap.size N N G wr
  bel : Below W.heap.size W wr
theorem Bits.set {W w : World} {N k : Nat} {G G' : Nat → Int} (h : Bits W N G w) (hk : k < N) {x : Int} (hx : x = G' k) (ho : ∀ j, j ≠ k → G' j = G j) : Bits W N G' (w.setCell ⟨W.heap.size, k, none⟩ (.int .i64 x)) := by
  obtain ⟨⟨tab, h1, h2, h3⟩, hb⟩ := h
  refine ⟨⟨_, h1.set _ _, by simpa using h2, fun j hj => ?_⟩, hb.setCell (Nat.le_refl _) _⟩
  rw [Array.getElem?_setIfInBounds]
  split
  · rename_i e; subst e; rw [if_pos (by omega), hx]
  · rename_i e; rw [h3 j hj, ho j (fun h => e h.symm)]
theorem Bits.ext {W w : World} {N : Nat} {G G' : Nat → Int} (h : Bits W N G w) (e : ∀ j, j < N → G j = G' j) : Bits W N G' w := by
  obtain ⟨⟨tab, h1, h2, h3⟩, hb⟩ := h
  exact ⟨⟨tab, h1, h2, fun j hj => by rw [h3 j hj, e j hj]⟩, hb⟩
theorem Bits.at {W w : World} {N k : Nat} {G : Nat → Int} (h : Bits W N G w) (hk : k < N) : w.cell? ⟨W.heap.size, k, none⟩ = some (.int .i64 (G k)) := by
  obtain ⟨⟨tab, h1, h2, h3⟩, hb⟩ := h
  exact h1.cell (h3 k hk)
theorem Bits.free {W w : World} {N : Nat} {G : Nat → Int} (h : Bits W N G w) (k : Nat) : w.frozen? ⟨W.heap.size, k, none⟩ = false := by
  obtain ⟨⟨tab, h1, h2, h3⟩, hb⟩ := h
  exact h1.free k
theorem Bits.new (W : World) (N : Nat) : Bits W N (fun _ => 0) (W.alloc (.cells (enc .i64 (List.replicate N 0)).toArray 3)) := by
  refine ⟨⟨_, Blk.new W _ _, by simp [enc], fun j hj => ?_⟩, bel1 _ _⟩
  rw [List.getElem?_toArray, enc_get (by simpa using hj)]
  simp [List.getD, hj]

end Alloc
end Go.Proofs.YtcaifpjbjghhaaaGreatDoor

