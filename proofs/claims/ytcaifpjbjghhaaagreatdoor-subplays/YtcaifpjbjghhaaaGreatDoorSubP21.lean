import Derived.Deep.AppendLies
import Derived.Test.YtcaifpjbjghhaaaGreatDoorSubP16
/-
  Contracts: a channel (the document's), lists of lists that are made, samples that are parted and woven. Conditions: as told at each.
-/
namespace Go.Proofs.YtcaifpjbjghhaaaGreatDoor
set_option linter.unusedVariables false
open Go.RowKit
namespace M
end M
namespace Pcm
open Bank (Blk But)
open Poly

end Pcm
end Go.Proofs.YtcaifpjbjghhaaaGreatDoor

/-
  Contracts: lists of lists that are made, samples that are parted. Conditions: as told at each.
-/
namespace Go.Proofs.YtcaifpjbjghhaaaGreatDoor
set_option linter.unusedVariables false
open Go.RowKit
namespace Pcm
open Bank (Blk But)
open Poly

def zs16 (n : Nat) : Array Value := (enc .i16 (List.replicate n 0)).toArray
theorem makeZ (w : World) (n : Nat) (hn : n ≤ 65536) : (Instr.makeSlice 55 (.int .i64 n) (.int .i64 n)).run Tryz.prog w = .ok (.slice (some ⟨w.heap.size, 0, none⟩) n n) (w.alloc (.cells (zs16 n) 182)) := make16 w n hn

set_option maxRecDepth 100000 in
theorem lists_1 (n : Nat) (w : World) (hn : n ≤ 65536) : Calls Tryz.prog 146 #[.int .i64 1, .int .i64 n] w fun e w' => e = .returned (.slice (some ⟨w.heap.size, 0, none⟩) 1 1) ∧
    w' = (w.alloc (.cells #[.slice (some ⟨w.heap.size + 1, 0, none⟩) n n] 55)).alloc (.cells (zs16 n) 182) := by
  have hm0 := makeS16 w 1 (by omega)
  have hm1 := makeZ (w.alloc (.cells #[.slice none 0 0] 55)) n hn
  simp only [World.size_alloc] at hm1
  rw [show ((1 : Nat) : Int) = 1 from rfl] at hm0
  rw [show (List.replicate 1 (Value.slice none 0 0)).toArray = #[.slice none 0 0] from rfl] at hm0
  generalize zs16 n = cs at hm1 ⊢
  go_enter Tryz.func146, Tryz.ntmps146
  go_wp2
  refine wp_loop_rounds 2 ?_
  rw [rounds_succ]
  go_wp2
  rw [rounds_succ]
  go_wp2
  go_ret
  exact ⟨rfl, rfl⟩

set_option maxRecDepth 100000 in
theorem lists_2 (n : Nat) (w : World) (hn : n ≤ 65536) : Calls Tryz.prog 146 #[.int .i64 2, .int .i64 n] w fun e w' => e = .returned (.slice (some ⟨w.heap.size, 0, none⟩) 2 2) ∧
    w' = ((w.alloc (.cells #[.slice (some ⟨w.heap.size + 1, 0, none⟩) n n, .slice (some ⟨w.heap.size + 2, 0, none⟩) n n] 55)).alloc (.cells (zs16 n) 182)).alloc (.cells (zs16 n) 182) := by
  have hm0 := makeS16 w 2 (by omega)
  have hm1 := makeZ (w.alloc (.cells #[.slice none 0 0, .slice none 0 0] 55)) n hn
  have hm2 := makeZ ((w.alloc (.cells #[.slice (some ⟨w.heap.size + 1, 0, none⟩) n n, .slice none 0 0] 55)).alloc (.cells (zs16 n) 182)) n hn
  simp only [World.size_alloc] at hm1 hm2
  rw [show ((2 : Nat) : Int) = 2 from rfl] at hm0
  rw [show (List.replicate 2 (Value.slice none 0 0)).toArray = #[.slice none 0 0, .slice none 0 0] from rfl] at hm0
  rw [show w.heap.size + 1 + 1 = w.heap.size + 2 from rfl] at hm2
  generalize zs16 n = cs at hm1 hm2 ⊢
  go_enter Tryz.func146, Tryz.ntmps146
  go_wp2
  refine wp_loop_rounds 3 ?_
  rw [rounds_succ]
  go_wp2
  rw [rounds_succ]
  go_wp2
  rw [rounds_succ]
  go_wp2
  go_ret
  exact ⟨rfl, rfl⟩

def Two (H n m : Nat) (xs : List Int) (w0 w : World) : Prop := Fill .i16 182 (H + 1) n ((m + 1) / 2) (fun j => xs.getD (0 + 2 * j) 0) w ∧ Fill .i16 182 (H + 2) n (m / 2) (fun j => xs.getD (1 + 2 * j) 0) w ∧
  Blk w H #[.slice (some ⟨H + 1, 0, none⟩) n n, .slice (some ⟨H + 2, 0, none⟩) n n] 55 ∧ w.heap.size = H + 3 ∧ Below H w0 w
def One (H n m : Nat) (xs : List Int) (w0 w : World) : Prop := Fill .i16 182 (H + 1) n m (fun j => xs.getD (0 + 1 * j) 0) w ∧
  Blk w H #[.slice (some ⟨H + 1, 0, none⟩) n n] 55 ∧ w.heap.size = H + 2 ∧ Below H w0 w

set_option maxRecDepth 100000 in
set_option maxHeartbeats 1000000 in
theorem Part_1 (lo hi : Nat) (v : Value) (xs : List Int) (w : World) (h : Reads .i16 lo hi w v xs) (hh : hi ≤ w.heap.size) (hl : xs.length ≤ 65536) :
    Calls Tryz.prog 85 #[v, .int .i64 1] w fun e w' => e = .returned (.tuple #[.slice (some ⟨w.heap.size, 0, none⟩) 1 1, .int .i64 0]) ∧ One w.heap.size xs.length xs.length xs w w' := by
  obtain ⟨a, cp, rfl⟩ := h.form
  have hli := lists_1 xs.length w hl
  have h0 : One w.heap.size xs.length 0 xs w ((w.alloc (.cells #[.slice (some ⟨w.heap.size + 1, 0, none⟩) xs.length xs.length] 55)).alloc (.cells (zs16 xs.length) 182)) := by
    have b0 := Blk.new w #[.slice (some ⟨w.heap.size + 1, 0, none⟩) xs.length xs.length] 55
    have b1 := Blk.new (w.alloc (.cells #[.slice (some ⟨w.heap.size + 1, 0, none⟩) xs.length xs.length] 55)) (zs16 xs.length) 182
    rw [alloc_size] at b1
    exact ⟨Fill.start b1, b0.alloc _, by simp, ((Below.refl _ _).alloc (Nat.le_refl _) _).alloc (by simp) _⟩
  obtain ⟨n, hn⟩ : ∃ n, xs.length = n := ⟨_, rfl⟩
  have hA : At w a xs := at_of h
  have hcell : ∀ i, i < n → ∃ b off, a = some ⟨b, off, none⟩ ∧ b < w.heap.size ∧ w.cell? ⟨b, off + i, none⟩ = some (.int .i16 (xs.getD i 0)) := fun i hi' => by
    obtain ⟨b, off, ha, _, hb, hc⟩ := h.cell (by omega)
    exact ⟨b, off, ha, by omega, hc i (by omega)⟩
  rw [hn] at hli h0 ⊢
  have HA : Hid _ := hcell
  have n1 : (n : Int) ≤ 65536 := by omega
  have hcb := canBe_any 1 w
  rw [show decide ((1 : Int) ≤ 1 ∧ (1 : Int) ≤ 2) = true from rfl] at hcb
  have H0 : Hid (One _ _ _ _ _ _) := h0
  have m1 : (n : Int).tmod 1 = 0 := by simp
  have m2 : (n : Int).tdiv 1 = n := by simp
  clear hcell hA h hn hl h0
  go_enter Tryz.func85, Tryz.ntmps85
  go_wp2_with (first
    | (go_at_call 145; refine hcb.mono ?_; clear hcb; rintro e w' ⟨rfl, hw⟩; rw [hw]; clear hw w')
    | (go_at_call 146; refine hli.mono ?_; clear hli; rintro e w1 ⟨rfl, hw⟩; have h1 := H0.out; rw [← hw] at h1; clear hw H0))
  go_loopw [27] (fun i wr => ∃ k : Nat, k ≤ n ∧ i = .int .i64 k ∧ One w.heap.size n k xs w wr) (fun i _ => n - (intOf i).toNat)
  case atStart => exact ⟨0, by omega, rfl, h1⟩
  case round =>
    clear h1
    obtain ⟨k, hk, rfl, hf, hb, hs, hbel⟩ := hrel
    by_cases hlt : k < n
    · obtain ⟨b, off, rfl, hb0, hc⟩ := HA.out k hlt
      have hc2 : wr.cell? ⟨b, off + k, none⟩ = some (.int .i16 (xs.getD k 0)) := (hbel.cell hb0).trans hc
      have i1 : (0 : Int) ≤ k := by omega
      have i2 : (k : Int) < n := by omega
      have e1 : (k : Int).tmod 1 = 0 := by simp
      have e2 : (k : Int).tdiv 1 = k := by simp
      have z0 := hb.cell (o := 0) rfl
      obtain ⟨⟨u1, hu1⟩, hfz1⟩ := hf.cell (j := k) hlt
      have hstep := hf.step hlt (x := xs.getD k 0) (by simp)
      have HS : Hid (Fill _ _ _ _ _ _ _) := hstep
      have HBk : Hid (Blk _ _ _ _) := hb
      have HBe : Hid (Below _ _ _) := hbel
      have Hs : Hid (wr.heap.size = _) := hs
      clear hstep hf hb hbel hs hc
      generalize xs.getD k 0 = x at *
      go_wp2
      go_region
      go_wp2
      go_roundw
      case rel => exact ⟨k + 1, by omega, by go_num, HS.out, HBk.out.set_ne (by simp) _, by simpa [World.setCell] using Hs.out, below_drew (HBe.out.setCell (by simp) _)⟩
      case measure => simp [intOf]; omega
    · obtain rfl : k = n := by omega
      go_wp2
      go_ret2
      exact ⟨rfl, hf, hb, hs, hbel⟩

set_option maxRecDepth 100000 in
set_option maxHeartbeats 1000000 in
theorem Part_2 (lo hi N : Nat) (v : Value) (xs : List Int) (w : World) (h : Reads .i16 lo hi w v xs) (hh : hi ≤ w.heap.size) (hl : xs.length ≤ 65536) (hN : xs.length = 2 * N) :
    Calls Tryz.prog 85 #[v, .int .i64 2] w fun e w' => e = .returned (.tuple #[.slice (some ⟨w.heap.size, 0, none⟩) 2 2, .int .i64 0]) ∧ Two w.heap.size N xs.length xs w w' := by
  obtain ⟨a, cp, rfl⟩ := h.form
  have hli := lists_2 N w (by omega)
  have h0 : Two w.heap.size N 0 xs w (((w.alloc (.cells #[.slice (some ⟨w.heap.size + 1, 0, none⟩) N N, .slice (some ⟨w.heap.size + 2, 0, none⟩) N N] 55)).alloc (.cells (zs16 N) 182)).alloc (.cells (zs16 N) 182)) := by
    have b0 := Blk.new w #[.slice (some ⟨w.heap.size + 1, 0, none⟩) N N, .slice (some ⟨w.heap.size + 2, 0, none⟩) N N] 55
    have b1 := Blk.new (w.alloc (.cells #[.slice (some ⟨w.heap.size + 1, 0, none⟩) N N, .slice (some ⟨w.heap.size + 2, 0, none⟩) N N] 55)) (zs16 N) 182
    have b2 := Blk.new ((w.alloc (.cells #[.slice (some ⟨w.heap.size + 1, 0, none⟩) N N, .slice (some ⟨w.heap.size + 2, 0, none⟩) N N] 55)).alloc (.cells (zs16 N) 182)) (zs16 N) 182
    rw [alloc_size] at b1
    rw [alloc_size, alloc_size] at b2
    exact ⟨Fill.start (b1.alloc _), Fill.start b2, (b0.alloc _).alloc _, by simp, (((Below.refl _ _).alloc (Nat.le_refl _) _).alloc (by simp) _).alloc (by simp; omega) _⟩
  obtain ⟨n, hn⟩ : ∃ n, xs.length = n := ⟨_, rfl⟩
  have hcell : ∀ i, i < n → ∃ b off, a = some ⟨b, off, none⟩ ∧ b < w.heap.size ∧ w.cell? ⟨b, off + i, none⟩ = some (.int .i16 (xs.getD i 0)) := fun i hi' => by
    obtain ⟨b, off, ha, _, hb, hc⟩ := h.cell (by omega)
    exact ⟨b, off, ha, by omega, hc i (by omega)⟩
  rw [hn] at hN ⊢
  have HA : Hid _ := hcell
  have HN : Hid (_ = _) := hN
  have n1 : (n : Int) ≤ 65536 := by omega
  have n2 : (N : Int) ≤ 65536 := by omega
  have hcb := canBe_any 2 w
  rw [show decide ((1 : Int) ≤ 2 ∧ (2 : Int) ≤ 2) = true from rfl] at hcb
  have H0 : Hid (Two _ _ _ _ _ _) := h0
  have m1 : (n : Int).tmod 2 = 0 := by rw [Int.tmod_eq_emod_of_nonneg (by omega)]; omega
  have m2 : (n : Int).tdiv 2 = N := by rw [Int.tdiv_eq_ediv_of_nonneg (by omega)]; omega
  have m3 : (n : Int) % 2 = 0 := by omega
  have m4 : (n : Int) / 2 = N := by omega
  clear hcell h hn hl h0 hN
  go_enter Tryz.func85, Tryz.ntmps85
  go_wp2_with (first
    | (go_at_call 145; refine hcb.mono ?_; clear hcb; rintro e w' ⟨rfl, hw⟩; rw [hw]; clear hw w')
    | (go_at_call 146; refine hli.mono ?_; clear hli; rintro e w1 ⟨rfl, hw⟩; have h1 := H0.out; rw [← hw] at h1; clear hw H0))
  go_loopw [27] (fun i wr => ∃ k : Nat, k ≤ n ∧ i = .int .i64 k ∧ Two w.heap.size N k xs w wr) (fun i _ => n - (intOf i).toNat)
  case atStart => exact ⟨0, by omega, rfl, h1⟩
  case round =>
    clear h1
    obtain ⟨k, hk, rfl, hf, hf', hb, hs, hbel⟩ := hrel
    by_cases hlt : k < n
    · obtain ⟨b, off, rfl, hb0, hc⟩ := HA.out k hlt
      have hc2 : wr.cell? ⟨b, off + k, none⟩ = some (.int .i16 (xs.getD k 0)) := (hbel.cell hb0).trans hc
      have i1 : (0 : Int) ≤ k := by omega
      have i2 : (k : Int) < n := by omega
      have z0 := hb.cell (o := 0) rfl
      have z1 := hb.cell (o := 1) rfl
      have hN := HN.out
      have HBk : Hid (Blk _ _ _ _) := hb
      have HBe : Hid (Below _ _ _) := hbel
      have Hs : Hid (wr.heap.size = _) := hs
      rcases Nat.mod_two_eq_zero_or_one k with hp | hp
      · obtain ⟨q, hq⟩ : ∃ q, q = k / 2 := ⟨_, rfl⟩
        have e1 : (k : Int).tmod 2 = 0 := by rw [Int.tmod_eq_emod_of_nonneg (by omega)]; omega
        have e2 : (k : Int).tdiv 2 = q := by rw [Int.tdiv_eq_ediv_of_nonneg (by omega)]; omega
        have e3 : (k : Int) % 2 = 0 := by omega
        have e4 : (k : Int) / 2 = q := by omega
        have hqN : q < N := by omega
        have j1 : (q : Int) < N := by omega
        have hf2 : Fill .i16 182 (w.heap.size + 1) N q (fun j => xs.getD (0 + 2 * j) 0) wr := by rw [show (k + 1) / 2 = q by omega] at hf; exact hf
        obtain ⟨⟨u1, hu1⟩, hfz1⟩ := hf2.cell (j := q) hqN
        have hstep := hf2.step hqN (x := xs.getD k 0) (by show _ = xs.getD (0 + 2 * q) 0; congr 1; omega)
        have HS : Hid (Fill _ _ _ _ _ _ _) := hstep
        have HF : Hid (Fill _ _ _ _ _ _ _) := hf'
        have Hp1 : Hid ((k + 1 + 1) / 2 = q + 1 ∧ (k + 1) / 2 = k / 2) := by show _ ∧ _; omega
        clear hstep hf hf' hf2 hb hbel hs hc hN hq hp
        generalize xs.getD k 0 = x at *
        go_wp2
        go_region
        go_wp2
        go_roundw
        case rel =>
          refine ⟨k + 1, by omega, by go_num, ?_, ?_, HBk.out.set_ne (by simp) _, by simpa [World.setCell] using Hs.out, below_drew (HBe.out.setCell (by simp) _)⟩
          · rw [Hp1.out.1]; exact HS.out
          · rw [Hp1.out.2]
            obtain ⟨tab, q1, q2, q3⟩ := HF.out
            exact ⟨tab, q1.set_ne (by simp) _, q2, q3⟩
        case measure => simp [intOf]; omega
      · obtain ⟨q, hq⟩ : ∃ q, q = k / 2 := ⟨_, rfl⟩
        have e1 : (k : Int).tmod 2 = 1 := by rw [Int.tmod_eq_emod_of_nonneg (by omega)]; omega
        have e2 : (k : Int).tdiv 2 = q := by rw [Int.tdiv_eq_ediv_of_nonneg (by omega)]; omega
        have e3 : (k : Int) % 2 = 1 := by omega
        have e4 : (k : Int) / 2 = q := by omega
        have hqN : q < N := by omega
        have j1 : (q : Int) < N := by omega
        have hf2 : Fill .i16 182 (w.heap.size + 2) N q (fun j => xs.getD (1 + 2 * j) 0) wr := by rw [show k / 2 = q by omega] at hf'; exact hf'
        obtain ⟨⟨u1, hu1⟩, hfz1⟩ := hf2.cell (j := q) hqN
        have hstep := hf2.step hqN (x := xs.getD k 0) (by show _ = xs.getD (1 + 2 * q) 0; congr 1; omega)
        have HS : Hid (Fill _ _ _ _ _ _ _) := hstep
        have HF : Hid (Fill _ _ _ _ _ _ _) := hf
        have Hp1 : Hid ((k + 1) / 2 = q + 1 ∧ (k + 1 + 1) / 2 = (k + 1) / 2) := by show _ ∧ _; omega
        clear hstep hf hf' hf2 hb hbel hs hc hN hq hp
        generalize xs.getD k 0 = x at *
        go_wp2
        go_region
        go_wp2
        go_roundw
        case rel =>
          refine ⟨k + 1, by omega, by go_num, ?_, ?_, HBk.out.set_ne (by simp) _, by simpa [World.setCell] using Hs.out, below_drew (HBe.out.setCell (by simp) _)⟩
          · rw [Hp1.out.2]
            obtain ⟨tab, q1, q2, q3⟩ := HF.out
            exact ⟨tab, q1.set_ne (by simp) _, q2, q3⟩
          · rw [Hp1.out.1]; exact HS.out
        case measure => simp [intOf]; omega
    · obtain rfl : k = n := by omega
      go_wp2
      go_ret2
      exact ⟨rfl, hf, hf', hb, hs, hbel⟩

end Pcm
end Go.Proofs.YtcaifpjbjghhaaaGreatDoor

