import Derived.Test.YtcaifpjbjghhaaaGreatDoorSubP13
import Derived.Test.YtcaifpjbjghhaaaGreatDoorSubP22
/-
  How lists of lists of numbers are made: contracts of rows, laid and blankParams. Conditions: as told at each.
-/
namespace Go.Proofs.YtcaifpjbjghhaaaGreatDoor
set_option linter.unusedVariables false
open Go.RowKit
namespace Sub
open Bank (Blk But)
open Poly (Reads cell_keep alloc_size enc enc_get)
open _root_.Go.Proofs.YtcaifpjbjghhaaaGreatDoor.Form (fv fc bel1)

theorem infoI : (Tryz.prog.info? 3).map (fun i => (i.zero, i.size, i.bytes)) = some (some (.int .i64 0), 1, 8) := by kernel_rfl
theorem infoSI : (Tryz.prog.info? 25).map (fun i => (i.zero, i.size, i.bytes)) = some (some (.slice none 0 0), 1, 24) := by kernel_rfl
theorem infoSSI : (Tryz.prog.info? 26).map (fun i => (i.zero, i.size, i.bytes)) = some (some (.slice none 0 0), 1, 24) := by kernel_rfl
theorem info32 : (Tryz.prog.info? 21).map (fun i => (i.zero, i.size, i.bytes)) = some (some (.int .i32 0), 1, 4) := by kernel_rfl
theorem infoS32 : (Tryz.prog.info? 97).map (fun i => (i.zero, i.size, i.bytes)) = some (some (.slice none 0 0), 1, 24) := by kernel_rfl
theorem infoSS32 : (Tryz.prog.info? 82).map (fun i => (i.zero, i.size, i.bytes)) = some (some (.slice none 0 0), 1, 24) := by kernel_rfl

def nils (n : Nat) : Array Value := (List.replicate n (.slice none 0 0)).toArray
def zers (k : IntKind) (n : Nat) : Array Value := (enc k (List.replicate n 0)).toArray
theorem nils_size (n : Nat) : (nils n).size = n := by simp [nils]
theorem zers_size (k : IntKind) (n : Nat) : (zers k n).size = n := by simp [zers, enc]
theorem zers_get {k : IntKind} {n b : Nat} (hb : b < n) : (zers k n)[b]? = some (.int k 0) := by
  unfold zers
  rw [List.getElem?_toArray, enc_get (by simpa using hb), List.getD_eq_getElem?_getD, List.getElem?_replicate, if_pos hb]; rfl

theorem mkI (w : World) (n : Nat) (hn : n ≤ 65536) : (Instr.makeSlice 25 (.int .i64 n) (.int .i64 n)).run Tryz.prog w = .ok (.slice (some ⟨w.heap.size, 0, none⟩) n n) (w.alloc (.cells (zers .i64 n) 3)) := by
  obtain ⟨i0, hi, hz0, hz1, hz2⟩ := info_parts infoI
  have := run_make (P := Tryz.prog) w 25 3 i0 (.int .i64 0) Tryz.underlying25 hi hz0 .i64 .i64 n n (by omega) (by omega) (by rw [hz2]; omega) (by omega)
  rw [this, hz1]; unfold zers; rw [Poly.enc_rep, ← Poly.madeCells_rep]; simp [Value.cells]
theorem mkSI (w : World) (n : Nat) (hn : n ≤ 65536) : (Instr.makeSlice 26 (.int .i64 n) (.int .i64 n)).run Tryz.prog w = .ok (.slice (some ⟨w.heap.size, 0, none⟩) n n) (w.alloc (.cells (nils n) 25)) := by
  obtain ⟨i0, hi, hz0, hz1, hz2⟩ := info_parts infoSI
  have := run_make (P := Tryz.prog) w 26 25 i0 (.slice none 0 0) Tryz.underlying26 hi hz0 .i64 .i64 n n (by omega) (by omega) (by rw [hz2]; omega) (by omega)
  rw [this, hz1]; unfold nils; rw [← Poly.madeCells_rep]; simp [Value.cells]
theorem mkSSI (w : World) (n : Nat) (hn : n ≤ 65536) : (Instr.makeSlice 27 (.int .i64 n) (.int .i64 n)).run Tryz.prog w = .ok (.slice (some ⟨w.heap.size, 0, none⟩) n n) (w.alloc (.cells (nils n) 26)) := by
  obtain ⟨i0, hi, hz0, hz1, hz2⟩ := info_parts infoSSI
  have := run_make (P := Tryz.prog) w 27 26 i0 (.slice none 0 0) Tryz.underlying27 hi hz0 .i64 .i64 n n (by omega) (by omega) (by rw [hz2]; omega) (by omega)
  rw [this, hz1]; unfold nils; rw [← Poly.madeCells_rep]; simp [Value.cells]
theorem mkSS32 (w : World) (n : Nat) (hn : n ≤ 65536) : (Instr.makeSlice 24 (.int .i64 n) (.int .i64 n)).run Tryz.prog w = .ok (.slice (some ⟨w.heap.size, 0, none⟩) n n) (w.alloc (.cells (nils n) 82)) := by
  obtain ⟨i0, hi, hz0, hz1, hz2⟩ := info_parts infoSS32
  have := run_make (P := Tryz.prog) w 24 82 i0 (.slice none 0 0) Tryz.underlying24 hi hz0 .i64 .i64 n n (by omega) (by omega) (by rw [hz2]; omega) (by omega)
  rw [this, hz1]; unfold nils; rw [← Poly.madeCells_rep]; simp [Value.cells]

structure Lng (k : IntKind) (tE tR : TypeId) (a n C q : Nat) (w : World) : Prop where
  head : ∃ hd : Array Value, Blk w a hd tR ∧ hd.size = n ∧ ∀ i, i < q → hd[i]? = some (.slice (some ⟨a + 1 + i, 0, none⟩) C C)
  row : ∀ i, i < q → Blk w (a + 1 + i) (zers k C) tE
  size : w.heap.size = a + 1 + q
section
variable {k : IntKind} {tE tR : TypeId} {a n C q : Nat} {w : World}
theorem Lng.start (k : IntKind) (tE tR : TypeId) (n C : Nat) (w : World) : Lng k tE tR w.heap.size n C 0 (w.alloc (.cells (nils n) tR)) :=
  ⟨⟨_, Blk.new _ _ _, nils_size n, fun i hi => absurd hi (by omega)⟩, fun i hi => absurd hi (by omega), by simp⟩
theorem Lng.step (h : Lng k tE tR a n C q w) (hq : q < n) : Lng k tE tR a n C (q + 1) ((w.alloc (.cells (zers k C) tE)).setCell ⟨a, q, none⟩ (.slice (some ⟨a + 1 + q, 0, none⟩) C C)) := by
  obtain ⟨⟨hd, h1, h2, h3⟩, h4, h5⟩ := h
  refine ⟨⟨_, (h1.alloc _).set q _, by simpa using h2, fun i hi => ?_⟩, fun i hi => ?_, by simp [World.setCell, h5]; omega⟩
  · rw [Array.getElem?_setIfInBounds]
    split
    · rename_i e; subst e; rw [if_pos (by omega)]
    · exact h3 i (by omega)
  · by_cases e : i = q
    · subst e
      have := Blk.new w (zers k C) tE
      rw [h5] at this
      exact this.set_ne (by show a + 1 + i ≠ a; omega) _
    · exact ((h4 i (by omega)).alloc _).set_ne (by show a + 1 + i ≠ a; omega) _
theorem Lng.cell (h : Lng k tE tR a n C q w) (hq : q < n) : (∃ u, (w.alloc (.cells (zers k C) tE)).cell? ⟨a, q, none⟩ = some u) ∧ (w.alloc (.cells (zers k C) tE)).frozen? ⟨a, q, none⟩ = false := by
  obtain ⟨⟨hd, h1, h2, h3⟩, h4, h5⟩ := h
  exact ⟨⟨hd[q]'(by omega), (h1.alloc _).cell (by simp [h2, hq])⟩, (h1.alloc _).free q⟩
theorem Lng.grd (h : Lng k tE tR a n C n w) : Grd k tE tR a n C (fun _ _ => 0) w :=
  ⟨h.head, fun i hi => ⟨_, h.row i hi, zers_size k C, fun b hb => zers_get hb⟩⟩
end

set_option maxRecDepth 100000 in
theorem rowsI_any (n C : Nat) (w : World) (hn : n ≤ 16) (hC : C ≤ 16) : Calls Tryz.prog 102 #[.int .i64 n, .int .i64 C] w fun e w' =>
    e = .returned (.slice (some ⟨w.heap.size, 0, none⟩) n n) ∧ Below w.heap.size w w' ∧ Grd .i64 3 25 w.heap.size n C (fun _ _ => 0) w' ∧ w'.heap.size = w.heap.size + 1 + n := by
  have hmk := mkSI w n (by omega)
  have HS : Hid _ := Lng.start .i64 3 25 n C w
  have HL : Hid (Below w.heap.size w _) := bel1 w (.cells (nils n) 25)
  generalize nils n = cs at *
  have n1 : (n : Int) ≤ 16 := by omega
  have C1 : (C : Int) ≤ 16 := by omega
  go_enter Tryz.func102, Tryz.ntmps102
  go_wp2
  go_loopw [11] (fun i wr => ∃ q : Nat, q ≤ n ∧ i = .int .i64 q ∧ Lng .i64 3 25 w.heap.size n C q wr ∧ Below w.heap.size w wr) (fun i _ => n - (intOf i).toNat)
  case atStart => exact ⟨0, by omega, rfl, HS.out, HL.out⟩
  case round =>
    clear HS HL hmk
    obtain ⟨q, hq, rfl, hl, hbw⟩ := hrel
    by_cases hlt : q < n
    · have hlt' : (q : Int) < n := by omega
      have hmk := mkI wr C (by omega)
      rw [hl.size] at hmk
      obtain ⟨⟨u, hu⟩, hfz⟩ := hl.cell hlt
      have HS : Hid (Lng .i64 3 25 w.heap.size n C (q + 1) _) := hl.step hlt
      have HL : Hid (Below w.heap.size w ((wr.alloc (.cells (zers .i64 C) 3)).setCell ⟨w.heap.size, q, none⟩ (.slice (some ⟨w.heap.size + 1 + q, 0, none⟩) C C))) := (hbw.alloc hbw.size _).setCell (by show w.heap.size ≤ w.heap.size; omega) _
      clear hl hbw
      generalize zers .i64 C = cs2 at *
      go_wp2
      go_roundw
      case rel => exact ⟨q + 1, by omega, by go_num, HS.out, HL.out⟩
      case measure => simp [intOf]; omega
    · obtain rfl : q = n := by omega
      have HS : Hid _ := hl
      clear hl
      go_wp2
      go_ret
      exact ⟨rfl, hbw, HS.out.grd, HS.out.size⟩

structure Lnc (k : IntKind) (tE tR tM : TypeId) (a N n C q : Nat) (w : World) : Prop where
  size : w.heap.size = a + 1 + q * (n + 1)
  top : ∃ hd : Array Value, Blk w a hd tM ∧ hd.size = N ∧ ∀ i, i < q → hd[i]? = some (.slice (some ⟨a + 1 + i * (n + 1), 0, none⟩) n n)
  grd : ∀ i, i < q → Grd k tE tR (a + 1 + i * (n + 1)) n C (fun _ _ => 0) w
section
variable {k : IntKind} {tE tR tM : TypeId} {a N n C q : Nat} {w w' : World}
theorem pos_lt (n : Nat) {i q : Nat} (h : i < q) : i * (n + 1) + n + 1 ≤ q * (n + 1) := by
  have := Nat.mul_le_mul_right (n + 1) h
  rw [Nat.succ_mul] at this
  omega
theorem Lnc.start (k : IntKind) (tE tR tM : TypeId) (N n C : Nat) (w : World) : Lnc k tE tR tM w.heap.size N n C 0 (w.alloc (.cells (nils N) tM)) :=
  ⟨by simp, ⟨_, Blk.new _ _ _, nils_size N, fun i hi => absurd hi (by omega)⟩, fun i hi => absurd hi (by omega)⟩
theorem Lnc.step (h : Lnc k tE tR tM a N n C q w) (hq : q < N) (hb : Below w.heap.size w w') (hg : Grd k tE tR w.heap.size n C (fun _ _ => 0) w') (hs : w'.heap.size = w.heap.size + 1 + n) :
    Lnc k tE tR tM a N n C (q + 1) (w'.setCell ⟨a, q, none⟩ (.slice (some ⟨w.heap.size, 0, none⟩) n n)) := by
  obtain ⟨h5, ⟨hd, h1, h2, h3⟩, h4⟩ := h
  have e : (q + 1) * (n + 1) = q * (n + 1) + (n + 1) := Nat.succ_mul _ _
  have e2 : (w'.setCell ⟨a, q, none⟩ (.slice (some ⟨w.heap.size, 0, none⟩) n n)).heap.size = w'.heap.size := by simp [World.setCell]
  refine ⟨by omega, ⟨_, Blk.set ((hb.block a (by omega)).trans h1) q _, by simpa using h2, fun i hi => ?_⟩, fun i hi => ?_⟩
  · rw [Array.getElem?_setIfInBounds]
    split
    · rename_i e; subst e; rw [if_pos (by omega), h5]
    · exact h3 i (by omega)
  · by_cases e : i = q
    · subst e
      rw [h5] at hg
      exact hg.set_ne (.inl (by show a < a + 1 + i * (n + 1); omega)) _
    · have hlt : i < q := by omega
      have := pos_lt n hlt
      exact ((h4 i hlt).below hb (by rw [h5]; omega)).set_ne (.inl (by show a < a + 1 + i * (n + 1); omega)) _
theorem Lnc.cell (h : Lnc k tE tR tM a N n C q w) (hq : q < N) (hb : Below w.heap.size w w') : (∃ u, w'.cell? ⟨a, q, none⟩ = some u) ∧ w'.frozen? ⟨a, q, none⟩ = false := by
  obtain ⟨h5, ⟨hd, h1, h2, h3⟩, h4⟩ := h
  have h1' : Blk w' a hd tM := (hb.block a (by omega)).trans h1
  exact ⟨⟨hd[q]'(by omega), h1'.cell (by simp [h2, hq])⟩, h1'.free q⟩
theorem Lnc.cub (h : Lnc k tE tR tM a N n C N w) : Cub k tE tR tM a w.heap.size N n C (fun i => a + 1 + i * (n + 1)) (fun _ _ _ => 0) w :=
  ⟨fun i hi => by have := pos_lt n hi; have := h.size; exact ⟨by omega, by omega⟩, fun i i' hi _ => by have := pos_lt n hi; show a + 1 + i * (n + 1) + n < a + 1 + i' * (n + 1); omega, h.top, h.grd⟩
end

set_option maxRecDepth 100000 in
theorem laidI_any (N n C : Nat) (w : World) (hN : N ≤ 16) (hn : n ≤ 16) (hC : C ≤ 16) : Calls Tryz.prog 103 #[.int .i64 N, .int .i64 n, .int .i64 C] w fun e w' =>
    e = .returned (.slice (some ⟨w.heap.size, 0, none⟩) N N) ∧ Below w.heap.size w w' ∧ w.heap.size < w'.heap.size ∧ ∃ p, Cub .i64 3 25 26 w.heap.size w'.heap.size N n C p (fun _ _ _ => 0) w' := by
  have hmk := mkSSI w N (by omega)
  have HS : Hid _ := Lnc.start .i64 3 25 26 N n C w
  have HL : Hid (Below w.heap.size w _) := bel1 w (.cells (nils N) 26)
  generalize nils N = cs at *
  have N1 : (N : Int) ≤ 16 := by omega
  have n1 : (n : Int) ≤ 16 := by omega
  have C1 : (C : Int) ≤ 16 := by omega
  go_enter Tryz.func103, Tryz.ntmps103
  go_wp2
  go_loopw [13] (fun i wr => ∃ q : Nat, q ≤ N ∧ i = .int .i64 q ∧ Lnc .i64 3 25 26 w.heap.size N n C q wr ∧ Below w.heap.size w wr) (fun i _ => N - (intOf i).toNat)
  case atStart => exact ⟨0, by omega, rfl, HS.out, HL.out⟩
  case round =>
    clear HS HL hmk
    obtain ⟨q, hq, rfl, hl, hbw⟩ := hrel
    by_cases hlt : q < N
    · have hlt' : (q : Int) < N := by omega
      have hr := rowsI_any n C wr hn hC
      have HC : Hid (∀ w', Below wr.heap.size wr w' → (∃ u, w'.cell? ⟨w.heap.size, q, none⟩ = some u) ∧ w'.frozen? ⟨w.heap.size, q, none⟩ = false) := fun w' hb => hl.cell hlt hb
      have HS : Hid (∀ w', Below wr.heap.size wr w' → Grd .i64 3 25 wr.heap.size n C (fun _ _ => 0) w' → w'.heap.size = wr.heap.size + 1 + n → Lnc .i64 3 25 26 w.heap.size N n C (q + 1) (w'.setCell ⟨w.heap.size, q, none⟩ (.slice (some ⟨wr.heap.size, 0, none⟩) n n))) := fun w' h1 h2 h3 => hl.step hlt h1 h2 h3
      have HL : Hid (Below w.heap.size w wr) := hbw
      clear hl hbw
      go_wp2_with (go_at_call 102; refine hr.mono ?_; clear hr; rintro e w2 ⟨rfl, b2, g2, s2⟩; obtain ⟨⟨u, hu⟩, hfz⟩ := HC.out w2 b2; have B2 : Hid (Below wr.heap.size wr w2) := b2; have G2 : Hid _ := HS.out w2 b2 g2 s2; clear b2 g2 s2)
      go_roundw
      case rel => exact ⟨q + 1, by omega, by go_num, G2.out, (HL.out.trans (B2.out.mono HL.out.size)).setCell (by show w.heap.size ≤ w.heap.size; omega) _⟩
      case measure => simp [intOf]; omega
    · obtain rfl : q = N := by omega
      have HS : Hid _ := hl
      clear hl
      go_wp2
      go_ret
      exact ⟨rfl, hbw, by have := HS.out.size; omega, _, HS.out.cub⟩

end Sub
end Go.Proofs.YtcaifpjbjghhaaaGreatDoor

