import Derived.RegionCalls
import Derived.Test.YtcaifpjbjghhaaaGreatDoorSubP21
/-
  Contracts: samples that are woven. Conditions: as told at each.
-/
namespace Go.Proofs.YtcaifpjbjghhaaaGreatDoor
set_option linter.unusedVariables false
open Go.RowKit
namespace Pcm
open Bank (Blk But)
open Poly

theorem makeBig (w : World) (n : Nat) (hn : n ≤ 140737488355328) : (Instr.makeSlice 55 (.int .i64 n) (.int .i64 n)).run Tryz.prog w = .ok (.slice (some ⟨w.heap.size, 0, none⟩) n n) (w.alloc (.cells (zs16 n) 182)) := by
  obtain ⟨i0, hi, hz0, hz1, hz2⟩ := info_parts info16
  have := run_make (P := Tryz.prog) w 55 182 i0 (.int .i16 0) Tryz.underlying55 hi hz0 .i64 .i64 n n (by omega) (by omega) (by rw [hz2]; omega) (by omega)
  unfold zs16
  rw [this, hz1, enc_rep, ← madeCells_rep]; simp [Value.cells]

def Wov (c n k : Nat) (l : List (List Int)) (w0 w : World) : Prop := Fill .i16 182 w0.heap.size (c * n) k (fun i => (l.getD (i % c) []).getD (i / c) 0) w ∧ w.heap.size = w0.heap.size + 1 ∧ Below w0.heap.size w0 w
theorem Wov.start (c n m : Nat) (l : List (List Int)) (w0 : World) : Wov c n 0 l w0 ((w0.drewN m).alloc (.cells (zs16 (c * n)) 182)) := by
  have b := Blk.new (w0.drewN m) (zs16 (c * n)) 182
  exact ⟨Fill.start b, by simp, (below_drewN (Below.refl _ _) m).alloc (Nat.le_refl _) _⟩
theorem Wov.of_drewN {c n k m : Nat} {l : List (List Int)} {w0 w : World} (h : Wov c n k l (w0.drewN m) w) : Wov c n k l w0 w := ⟨h.1, h.2.1, ⟨h.2.2.os, h.2.2.tape, h.2.2.output, h.2.2.size, h.2.2.block⟩⟩

set_option maxRecDepth 100000 in
set_option maxHeartbeats 1000000 in
theorem Weave_1 (lo hi n : Nat) (v : Value) (xs : List Int) (w : World) (h : Poly.Rows .i16 lo hi w v [xs]) (hh : hi ≤ w.heap.size) (hn : xs.length = n) (hl : n ≤ 70368744177664) :
    Calls Tryz.prog 93 #[v] w fun e w' => e = .returned (.tuple #[.slice (some ⟨w.heap.size, 0, none⟩) n n, .int .i64 0]) ∧ Wov 1 n n [xs] w w' := by
  obtain ⟨a, cp, rfl, _⟩ := h.form
  obtain ⟨b, off, rfl, k0, k1, hx⟩ := h.cell (by simp)
  obtain ⟨u, hu, hr⟩ := hx 0 (by simp)
  simp only [Nat.add_zero] at hu
  have hr : Reads .i16 lo hi w u xs := hr
  obtain ⟨a', c', rfl⟩ := hr.form
  have hcell : ∀ i, i < n → ∃ b' off', a' = some ⟨b', off', none⟩ ∧ b' < w.heap.size ∧ w.cell? ⟨b', off' + i, none⟩ = some (.int .i16 (xs.getD i 0)) := fun i hi' => by
    obtain ⟨b', off', ha, _, hb, hc⟩ := hr.cell (by omega)
    exact ⟨b', off', ha, by omega, hc i (by omega)⟩
  have hb : b < w.heap.size := by omega
  rw [hn] at hu
  have hF : ∀ k, ([xs].getD (k % 1) []).getD (k / 1) 0 = xs.getD k 0 := fun k => by simp [Nat.mod_one]
  have HF : Hid _ := hF
  have HA : Hid _ := hcell
  have n1 : (n : Int) ≤ 70368744177664 := by omega
  have n0 : (0 : Int) ≤ n := by omega
  have hcb := fun wx => canBe_any 1 wx
  rw [show decide ((1 : Int) ≤ 1 ∧ (1 : Int) ≤ 2) = true from rfl] at hcb
  rw [List.length_singleton]
  have Hl : Hid (n ≤ 70368744177664) := hl
  clear hcell h hx hl hn hF hr
  go_enter Tryz.func93, Tryz.ntmps93
  go_wp2
  go_quiet (first | (go_at_call 145; exact Calls.quiet_of_same (hcb _)))
  obtain ⟨W, hW⟩ : ∃ W, W = w.drewN nq := ⟨_, rfl⟩
  rw [← hW]
  have hu2 : W.cell? ⟨b, off, none⟩ = some (.slice a' n c') := by rw [hW]; exact hu
  have hmk := makeBig W n (by have := Hl.out; omega)
  have hst := Wov.start 1 n 0 [xs] W
  rw [show W.drewN 0 = W from rfl, Nat.one_mul] at hst
  generalize zs16 n = cs at hmk hst
  have HW : Hid (W = w.drewN nq) := hW
  have Hb : Hid (b < W.heap.size) := by rw [hW]; exact hb
  clear hW hcb hu hb
  go_wp2
  go_loopw [34] (fun i wr => ∃ k : Nat, k ≤ n ∧ i = .int .i64 k ∧ Wov 1 n k [xs] W wr) (fun i _ => n - (intOf i).toNat)
  case atStart => exact ⟨0, by omega, rfl, hst⟩
  case round =>
    clear hst hmk
    obtain ⟨k, hk, rfl, hf, hs, hbel⟩ := hrel
    by_cases hlt : k < n
    · obtain ⟨b', off', rfl, hb0, hc⟩ := HA.out k hlt
      have hb2 : b' < W.heap.size := by rw [HW.out]; exact hb0
      have hc1 : W.cell? ⟨b', off' + k, none⟩ = some (.int .i16 (xs.getD k 0)) := by rw [HW.out]; exact hc
      have hc2 : wr.cell? ⟨b', off' + k, none⟩ = some (.int .i16 (xs.getD k 0)) := (hbel.cell hb2).trans hc1
      have hu3 : wr.cell? ⟨b, off, none⟩ = some (.slice (some ⟨b', off', none⟩) n c') := (hbel.cell Hb.out).trans hu2
      have i1 : (0 : Int) ≤ k := by omega
      have i2 : (k : Int) < n := by omega
      have e1 : (k : Int).tmod 1 = 0 := by simp
      have e2 : (k : Int).tdiv 1 = k := by simp
      rw [Nat.one_mul] at hf
      obtain ⟨⟨u1, hu1⟩, hfz1⟩ := hf.cell (j := k) hlt
      have hstep := hf.step hlt (x := xs.getD k 0) (HF.out k).symm
      have HS : Hid (Fill _ _ _ _ _ _ _) := hstep
      have HBe : Hid (Below _ _ _) := hbel
      have Hs : Hid (wr.heap.size = _) := hs
      clear hstep hf hbel hs hc hc1 hb0 hb2
      generalize xs.getD k 0 = x at *
      go_wp2
      go_region
      go_wp2
      go_roundw
      case rel => exact ⟨k + 1, by omega, by go_num, by rw [Nat.one_mul]; exact HS.out, by simpa [World.setCell] using Hs.out, below_drew (HBe.out.setCell (Nat.le_refl _) _)⟩
      case measure => simp [intOf]; omega
    · obtain rfl : k = n := by omega
      go_wp2
      go_ret2
      have hw := HW.out
      subst hw
      exact ⟨rfl, Wov.of_drewN ⟨hf, hs, hbel⟩⟩

set_option maxRecDepth 100000 in
set_option maxHeartbeats 1000000 in
theorem Weave_2 (lo hi n : Nat) (v : Value) (xs ys : List Int) (w : World) (h : Poly.Rows .i16 lo hi w v [xs, ys]) (hh : hi ≤ w.heap.size) (hn : xs.length = n) (hm : ys.length = n) (hl : n ≤ 70368744177664) :
    Calls Tryz.prog 93 #[v] w fun e w' => e = .returned (.tuple #[.slice (some ⟨w.heap.size, 0, none⟩) (2 * n) (2 * n), .int .i64 0]) ∧ Wov 2 n (2 * n) [xs, ys] w w' := by
  obtain ⟨a, cp, rfl, _⟩ := h.form
  obtain ⟨b, off, rfl, k0, k1, hx⟩ := h.cell (by simp)
  obtain ⟨u, hu, hr⟩ := hx 0 (by simp)
  obtain ⟨u', hu', hr'⟩ := hx 1 (by simp)
  simp only [Nat.add_zero] at hu
  have hr : Reads .i16 lo hi w u xs := hr
  have hr' : Reads .i16 lo hi w u' ys := hr'
  obtain ⟨a', c', rfl⟩ := hr.form
  obtain ⟨a'', c'', rfl⟩ := hr'.form
  have hcell : ∀ i, i < n → ∃ b' off', a' = some ⟨b', off', none⟩ ∧ b' < w.heap.size ∧ w.cell? ⟨b', off' + i, none⟩ = some (.int .i16 (xs.getD i 0)) := fun i hi' => by
    obtain ⟨b', off', ha, _, hb, hc⟩ := hr.cell (by omega)
    exact ⟨b', off', ha, by omega, hc i (by omega)⟩
  have hcell' : ∀ i, i < n → ∃ b' off', a'' = some ⟨b', off', none⟩ ∧ b' < w.heap.size ∧ w.cell? ⟨b', off' + i, none⟩ = some (.int .i16 (ys.getD i 0)) := fun i hi' => by
    obtain ⟨b', off', ha, _, hb, hc⟩ := hr'.cell (by omega)
    exact ⟨b', off', ha, by omega, hc i (by omega)⟩
  have hb : b < w.heap.size := by omega
  rw [hn] at hu
  rw [hm] at hu'
  have HA : Hid _ := hcell
  have HA' : Hid _ := hcell'
  obtain ⟨N, hN⟩ : ∃ N, 2 * n = N := ⟨_, rfl⟩
  rw [hN]
  have n1 : (n : Int) ≤ 70368744177664 := by omega
  have n0 : (0 : Int) ≤ n := by omega
  have n2 : (N : Int) ≤ 140737488355328 := by omega
  have n3 : 2 * (n : Int) = N := by omega
  have hcb := fun wx => canBe_any 2 wx
  rw [show decide ((1 : Int) ≤ 2 ∧ (2 : Int) ≤ 2) = true from rfl] at hcb
  rw [show ([xs, ys] : List (List Int)).length = 2 from rfl]
  have Hl : Hid (n ≤ 70368744177664 ∧ 2 * n = N) := ⟨hl, hN⟩
  clear hcell hcell' h hx hl hn hr hr' hm hN
  go_enter Tryz.func93, Tryz.ntmps93
  go_wp2
  go_quiet (first | (go_at_call 145; exact Calls.quiet_of_same (hcb _)))
  obtain ⟨W, hW⟩ : ∃ W, W = w.drewN nq := ⟨_, rfl⟩
  rw [← hW]
  have hu2 : W.cell? ⟨b, off, none⟩ = some (.slice a' n c') := by rw [hW]; exact hu
  have hu2' : W.cell? ⟨b, off + 1, none⟩ = some (.slice a'' n c'') := by rw [hW]; exact hu'
  have hmk := makeBig W N (by have := Hl.out; omega)
  have hst := Wov.start 2 n 0 [xs, ys] W
  rw [show W.drewN 0 = W from rfl, Hl.out.2] at hst
  generalize zs16 N = cs at hmk hst
  have HW : Hid (W = w.drewN nq) := hW
  have Hb : Hid (b < W.heap.size) := by rw [hW]; exact hb
  clear hW hcb hu hb hu'
  go_wp2
  go_loopw [34] (fun i wr => ∃ k : Nat, k ≤ N ∧ i = .int .i64 k ∧ Wov 2 n k [xs, ys] W wr) (fun i _ => N - (intOf i).toNat)
  case atStart => exact ⟨0, by omega, rfl, hst⟩
  case round =>
    clear hst hmk
    obtain ⟨k, hk, rfl, hf, hs, hbel⟩ := hrel
    by_cases hlt : k < N
    · rw [Hl.out.2] at hf
      obtain ⟨⟨u1, hu1⟩, hfz1⟩ := hf.cell (j := k) hlt
      obtain ⟨q, hq⟩ : ∃ q, q = k / 2 := ⟨_, rfl⟩
      have hqn : q < n := by have := Hl.out.2; omega
      have i1 : (0 : Int) ≤ k := by omega
      have i2 : (k : Int) < N := by omega
      have i3 : (q : Int) < n := by omega
      have e2 : (k : Int).tdiv 2 = q := by rw [Int.tdiv_eq_ediv_of_nonneg (by omega)]; omega
      have e4 : (k : Int) / 2 = q := by omega
      have hu3 : wr.cell? ⟨b, off, none⟩ = some (.slice a' n c') := (hbel.cell Hb.out).trans hu2
      have hu4 : wr.cell? ⟨b, off + 1, none⟩ = some (.slice a'' n c'') := (hbel.cell Hb.out).trans hu2'
      have HBe : Hid (Below _ _ _) := hbel
      have Hs : Hid (wr.heap.size = _) := hs
      rcases Nat.mod_two_eq_zero_or_one k with hp | hp
      · obtain ⟨b', off', rfl, hb0, hc⟩ := HA.out q hqn
        have hb2 : b' < W.heap.size := by rw [HW.out]; exact hb0
        have hc1 : W.cell? ⟨b', off' + q, none⟩ = some (.int .i16 (xs.getD q 0)) := by rw [HW.out]; exact hc
        have hc2 : wr.cell? ⟨b', off' + q, none⟩ = some (.int .i16 (xs.getD q 0)) := (hbel.cell hb2).trans hc1
        have e1 : (k : Int).tmod 2 = 0 := by rw [Int.tmod_eq_emod_of_nonneg (by omega)]; omega
        have e3 : (k : Int) % 2 = 0 := by omega
        have hstep := hf.step hlt (x := xs.getD q 0) (by show _ = ([xs, ys].getD (k % 2) []).getD (k / 2) 0; rw [hp, ← hq]; rfl)
        have HS : Hid (Fill _ _ _ _ _ _ _) := hstep
        clear hstep hf hbel hs hc hc1 hb0 hb2 hq hp HA HA'
        generalize xs.getD q 0 = x at *
        go_wp2
        go_region
        go_wp2
        go_roundw
        case rel => exact ⟨k + 1, by omega, by go_num, by rw [Hl.out.2]; exact HS.out, by simpa [World.setCell] using Hs.out, below_drew (HBe.out.setCell (Nat.le_refl _) _)⟩
        case measure => simp [intOf]; omega
      · obtain ⟨b', off', rfl, hb0, hc⟩ := HA'.out q hqn
        have hb2 : b' < W.heap.size := by rw [HW.out]; exact hb0
        have hc1 : W.cell? ⟨b', off' + q, none⟩ = some (.int .i16 (ys.getD q 0)) := by rw [HW.out]; exact hc
        have hc2 : wr.cell? ⟨b', off' + q, none⟩ = some (.int .i16 (ys.getD q 0)) := (hbel.cell hb2).trans hc1
        have e1 : (k : Int).tmod 2 = 1 := by rw [Int.tmod_eq_emod_of_nonneg (by omega)]; omega
        have e3 : (k : Int) % 2 = 1 := by omega
        have hstep := hf.step hlt (x := ys.getD q 0) (by show _ = ([xs, ys].getD (k % 2) []).getD (k / 2) 0; rw [hp, ← hq]; rfl)
        have HS : Hid (Fill _ _ _ _ _ _ _) := hstep
        clear hstep hf hbel hs hc hc1 hb0 hb2 hq hp HA HA'
        generalize ys.getD q 0 = x at *
        go_wp2
        go_region
        go_wp2
        go_roundw
        case rel => exact ⟨k + 1, by omega, by go_num, by rw [Hl.out.2]; exact HS.out, by simpa [World.setCell] using Hs.out, below_drew (HBe.out.setCell (Nat.le_refl _) _)⟩
        case measure => simp [intOf]; omega
    · obtain rfl : k = N := by omega
      go_wp2
      go_ret2
      have hw := HW.out
      subst hw
      exact ⟨rfl, Wov.of_drewN ⟨hf, hs, hbel⟩⟩

end Pcm
end Go.Proofs.YtcaifpjbjghhaaaGreatDoor

/-
  Contracts: parted and woven samples as lists, and the errors. Conditions: as told at each.
-/
namespace Go.Proofs.YtcaifpjbjghhaaaGreatDoor
set_option linter.unusedVariables false
open Go.RowKit
namespace Pcm
open Bank (Blk But)
open Poly

theorem reads_fill {g L : Nat} {f : Nat → Int} {w : World} (h : Fill .i16 182 g L L f w) (hf : M.fits16 ((List.range L).map f)) : Reads .i16 g (g + 1) w (.slice (some ⟨g, 0, none⟩) L L) ((List.range L).map f) := by
  have := reads_blk h.whole (fit16.2 hf)
  simpa using this

theorem Part_ok (lo hi c n : Nat) (v : Value) (xs : List Int) (w : World) (h : Reads .i16 lo hi w v xs) (hh : hi ≤ w.heap.size) (hl : xs.length ≤ 65536) (hc : c = 1 ∨ c = 2) (hn : xs.length = c * n) :
    Calls Tryz.prog 85 #[v, .int .i64 c] w fun e w' => ∃ v', e = .returned (.tuple #[v', .int .i64 0]) ∧ Poly.Rows .i16 w.heap.size w'.heap.size w' v' (M.chs n xs c) ∧ Below w.heap.size w w' := by
  have hx : M.fits16 xs := fit16.1 (by obtain ⟨_, _, _, _, hw, _⟩ := h; exact hw)
  rcases hc with rfl | rfl
  · obtain rfl : xs.length = n := by omega
    refine (Part_1 lo hi v xs w h hh hl).mono ?_
    rintro e w' ⟨rfl, hf, hb, hs, hbel⟩
    refine ⟨_, rfl, ⟨some ⟨w.heap.size, 0, none⟩, 1, by rw [M.chs_length], by rw [M.chs_length]; omega, .inr ⟨_, 0, rfl, Nat.le_refl _, by omega, fun i hi => ?_⟩⟩, hbel⟩
    rw [M.chs_length] at hi
    obtain rfl : i = 0 := by omega
    refine ⟨_, hb.cell rfl, ?_⟩
    rw [M.chs_get (by omega)]
    exact (reads_fill hf (M.chn_fits hx)).mono (by omega) (by omega)
  · refine (Part_2 lo hi n v xs w h hh hl hn).mono ?_
    rintro e w' ⟨rfl, hf, hf', hb, hs, hbel⟩
    rw [hn] at hf hf'
    rw [show (2 * n + 1) / 2 = n by omega] at hf
    rw [show 2 * n / 2 = n by omega] at hf'
    refine ⟨_, rfl, ⟨some ⟨w.heap.size, 0, none⟩, 2, by rw [M.chs_length], by rw [M.chs_length]; omega, .inr ⟨_, 0, rfl, Nat.le_refl _, by omega, fun i hi => ?_⟩⟩, hbel⟩
    rw [M.chs_length] at hi
    rcases (by omega : i = 0 ∨ i = 1) with rfl | rfl
    · refine ⟨_, hb.cell rfl, ?_⟩
      rw [M.chs_get (by omega)]
      exact (reads_fill hf (M.chn_fits hx)).mono (by omega) (by omega)
    · refine ⟨_, hb.cell rfl, ?_⟩
      rw [M.chs_get (by omega)]
      exact (reads_fill hf' (M.chn_fits hx)).mono (by omega) (by omega)

theorem Weave_ok (lo hi c n : Nat) (v : Value) (l : List (List Int)) (w : World) (h : Poly.Rows .i16 lo hi w v l) (hh : hi ≤ w.heap.size) (hc : c = 1 ∨ c = 2) (hlc : l.length = c) (hn : ∀ k, k < c → (l.getD k []).length = n) (hf : ∀ k, M.fits16 (l.getD k [])) (hl : n ≤ 70368744177664) :
    Calls Tryz.prog 93 #[v] w fun e w' => ∃ v', e = .returned (.tuple #[v', .int .i64 0]) ∧ Reads .i16 w.heap.size w'.heap.size w' v' (M.wov c n l) ∧ Below w.heap.size w w' := by
  rcases hc with rfl | rfl
  · obtain ⟨xs, rfl⟩ : ∃ xs, l = [xs] := List.length_eq_one_iff.1 hlc
    refine (Weave_1 lo hi n v xs w h hh (hn 0 (by omega)) hl).mono ?_
    rintro e w' ⟨rfl, hw, hs, hbel⟩
    have hr := reads_fill (by rw [Nat.one_mul] at hw ⊢; exact hw) (M.wov_fits hf (c := 1) (n := n))
    rw [Nat.one_mul] at hr
    exact ⟨_, rfl, by unfold M.wov; rw [Nat.one_mul]; exact hr.mono (Nat.le_refl _) (by omega), hbel⟩
  · obtain ⟨xs, ys, rfl⟩ : ∃ xs ys, l = [xs, ys] := by
      match l, hlc with
      | [x, y], _ => exact ⟨x, y, rfl⟩
    refine (Weave_2 lo hi n v xs ys w h hh (hn 0 (by omega)) (hn 1 (by omega)) hl).mono ?_
    rintro e w' ⟨rfl, hw, hs, hbel⟩
    have hr := reads_fill hw (M.wov_fits hf (c := 2) (n := n))
    exact ⟨_, rfl, hr.mono (Nat.le_refl _) (by omega), hbel⟩

end Pcm
end Go.Proofs.YtcaifpjbjghhaaaGreatDoor

