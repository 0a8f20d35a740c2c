/-
  Contracts of package alloc: what bands need. Conditions: as told at each; the offsets stand as their initialisers lay them.
-/
import Derived.Test.YthlpbekfjolenaaDoorAllocMem
import Derived.Test.YthlpbekfjolenaaDoorFormTell
import Derived.Deep.RegionHeld3
import Derived.BigQuiet
namespace Go.Proofs.YthlpbekfjolenaaDoor
set_option linter.unusedVariables false
open Go.RowKit
namespace Alloc
open Bank (Blk But)
open Poly (alloc_size Rows Reads enc madeCells_rep enc_rep cell_keep enc_get)
open _root_.Go.Proofs.YthlpbekfjolenaaDoor.Form (fv fc bel1 blk_below box_cells box_behind)

/-- the offsets, as they lie in memory -/
abbrev arr4 : Array Value := #[.int .i64 (-1), .int .i64 0, .int .i64 0, .int .i64 0, .int .i64 (-2), .int .i64 0, .int .i64 0, .int .i64 1, .int .i64 (-2), .int .i64 0, .int .i64 0, .int .i64 1, .int .i64 (-2), .int .i64 0, .int .i64 0, .int .i64 1]
abbrev arr8 : Array Value := #[.int .i64 (-2), .int .i64 0, .int .i64 0, .int .i64 0, .int .i64 0, .int .i64 0, .int .i64 0, .int .i64 1, .int .i64 (-3), .int .i64 0, .int .i64 0, .int .i64 0, .int .i64 0, .int .i64 0, .int .i64 1, .int .i64 2,
  .int .i64 (-4), .int .i64 0, .int .i64 0, .int .i64 0, .int .i64 0, .int .i64 0, .int .i64 1, .int .i64 2, .int .i64 (-4), .int .i64 0, .int .i64 0, .int .i64 0, .int .i64 0, .int .i64 0, .int .i64 1, .int .i64 2]
def Tabs (w : World) : Prop := (∃ t fr, w.heap[0]? = some (.cells arr4 t fr)) ∧ ∃ t fr, w.heap[1]? = some (.cells arr8 t fr)
theorem Tabs.below {w w' : World} {N : Nat} (h : Tabs w) (hb : Below N w w') (hN : w.heap.size ≤ N) : Tabs w' := by
  obtain ⟨⟨t, fr, h1⟩, ⟨t2, fr2, h2⟩⟩ := h
  have l1 := (Array.getElem?_eq_some_iff.1 h1).1
  have l2 := (Array.getElem?_eq_some_iff.1 h2).1
  exact ⟨⟨t, fr, (hb.block _ (by omega)).trans h1⟩, ⟨t2, fr2, (hb.block _ (by omega)).trans h2⟩⟩
theorem tab4_cell {w : World} (h : Tabs w) {i : Nat} (hi : i < 16) : w.cell? ⟨0, i, none⟩ = some (.int .i64 (M.tab4.getD i 0)) := by
  obtain ⟨⟨t, fr, h1⟩, _⟩ := h
  have e : arr4[i]? = some (.int .i64 (M.tab4.getD i 0)) := by
    have : arr4 = (enc .i64 M.tab4).toArray := rfl
    rw [this, List.getElem?_toArray]; exact enc_get (by show i < 16; exact hi)
  simp only [World.cell?, h1]; exact e
theorem tab8_cell {w : World} (h : Tabs w) {i : Nat} (hi : i < 32) : w.cell? ⟨1, i, none⟩ = some (.int .i64 (M.tab8.getD i 0)) := by
  obtain ⟨_, ⟨t, fr, h1⟩⟩ := h
  have e : arr8[i]? = some (.int .i64 (M.tab8.getD i 0)) := by
    have : arr8 = (enc .i64 M.tab8).toArray := rfl
    rw [this, List.getElem?_toArray]; exact enc_get (by show i < 32; exact hi)
  simp only [World.cell?, h1]; exact e

theorem byLoudness_any (x o : Int) (w : World) (h0 : 0 ≤ x) (h1 : x ≤ 15) (o0 : -4 ≤ o) (o1 : o ≤ 2) : Calls Tryd.prog 24 #[.int .i64 x, .int .i64 o] w fun e w' => e = .returned (.int .i64 (M.loud x o)) ∧ w' = w := by
  by_cases hx : x = 0
  · subst hx
    go_enter Tryd.func24, Tryd.ntmps24
    go_wp2
    go_ret
    exact ⟨rfl, rfl⟩
  · have e1 : (x == 0) = false := by simpa using hx
    by_cases hn : 0 < x - o
    · have H : Hid ((x - o).tdiv 2 = M.loud x o) := by
        show (x - o).tdiv 2 = M.loud x o
        unfold M.loud
        rw [if_neg hx, if_pos hn, Int.tdiv_eq_ediv_of_nonneg (by omega)]
      go_enter Tryd.func24, Tryd.ntmps24
      go_wp2
      go_ret
      refine ⟨Form.ret_int ?_, rfl⟩
      first | exact H.out | (have := H.out; rw [Int.tdiv_eq_ediv_of_nonneg (by omega)] at this; exact this)
    · have H : Hid (x - o = M.loud x o) := by
        show x - o = M.loud x o
        unfold M.loud
        rw [if_neg hx, if_neg hn]
      go_enter Tryd.func24, Tryd.ntmps24
      go_wp2
      go_ret
      exact ⟨Form.ret_int H.out, rfl⟩

theorem offset_4 (f : M.Fmt) (r b : Nat) (w : World) (hT : Tabs w) (hB : f.b = 4) (hr : f.r = r) (r3 : r ≤ 3) (hb : b < 4) : Calls Tryd.prog 25 #[fv f, .int .i64 (b : Int)] w fun e w' => e = .returned (.int .i64 (M.off 4 r b)) ∧ Below w.heap.size w w' := by
  have hc := tab4_cell (w := w.alloc (.cells (fc f) 23)) (hT.below (bel1 w _) (Nat.le_refl _)) (i := r * 4 + b) (by omega)
  have HO : Hid (M.tab4.getD (r * 4 + b) 0 = M.off 4 r b) := by show _ = M.off 4 r b; unfold M.off; rw [if_pos rfl, Nat.mul_comm]
  generalize M.tab4.getD (r * 4 + b) 0 = y at *
  generalize M.off 4 r b = z at *
  obtain ⟨c, r', h, b', k, m, j, p, l, y'⟩ := f
  obtain rfl : r' = r := hr
  obtain rfl : b' = 4 := hB
  have r3' : (r : Int) ≤ 3 := by omega
  have hb' : (b : Int) < 4 := by omega
  unfold fc at hc
  unfold fv
  dsimp only at hc ⊢
  clear hT
  go_enter Tryd.func25, Tryd.ntmps25
  go_wp2
  go_ret
  exact ⟨Form.ret_int HO.out, bel1 _ _⟩

theorem offset_8 (f : M.Fmt) (r b : Nat) (w : World) (hT : Tabs w) (hB : f.b = 8) (hr : f.r = r) (r3 : r ≤ 3) (hb : b < 8) : Calls Tryd.prog 25 #[fv f, .int .i64 (b : Int)] w fun e w' => e = .returned (.int .i64 (M.off 8 r b)) ∧ Below w.heap.size w w' := by
  have hc := tab8_cell (w := w.alloc (.cells (fc f) 23)) (hT.below (bel1 w _) (Nat.le_refl _)) (i := r * 8 + b) (by omega)
  have HO : Hid (M.tab8.getD (r * 8 + b) 0 = M.off 8 r b) := by show _ = M.off 8 r b; unfold M.off; rw [if_neg (by decide), Nat.mul_comm]
  generalize M.tab8.getD (r * 8 + b) 0 = y at *
  generalize M.off 8 r b = z at *
  obtain ⟨c, r', h, b', k, m, j, p, l, y'⟩ := f
  obtain rfl : r' = r := hr
  obtain rfl : b' = 8 := hB
  have r3' : (r : Int) ≤ 3 := by omega
  have hb' : (b : Int) < 8 := by omega
  unfold fc at hc
  unfold fv
  dsimp only at hc ⊢
  clear hT
  go_enter Tryd.func25, Tryd.ntmps25
  go_wp2
  go_ret
  exact ⟨Form.ret_int HO.out, bel1 _ _⟩

theorem offset_any (f : M.Fmt) (B r b : Nat) (w : World) (hT : Tabs w) (h48 : B = 4 ∨ B = 8) (hB : f.b = B) (hr : f.r = r) (r3 : r ≤ 3) (hb : b < B) : Calls Tryd.prog 25 #[fv f, .int .i64 (b : Int)] w fun e w' => e = .returned (.int .i64 (M.off B r b)) ∧ Below w.heap.size w w' := by
  rcases h48 with rfl | rfl
  · exact offset_4 f r b w hT hB hr r3 hb
  · exact offset_8 f r b w hT hB hr r3 hb

theorem infoI : (Tryd.prog.info? 3).map (fun i => (i.zero, i.size, i.bytes)) = some (some (.int .i64 0), 1, 8) := by kernel_rfl
theorem infoSI : (Tryd.prog.info? 32).map (fun i => (i.zero, i.size, i.bytes)) = some (some (.slice none 0 0), 1, 24) := by kernel_rfl
theorem makeI (w : World) (n : Nat) (hn : n ≤ 65536) : (Instr.makeSlice 32 (.int .i64 n) (.int .i64 n)).run Tryd.prog w = .ok (.slice (some ⟨w.heap.size, 0, none⟩) n n) (w.alloc (.cells (enc .i64 (List.replicate n 0)).toArray 3)) := by
  obtain ⟨i0, hi, hz0, hz1, hz2⟩ := info_parts infoI
  have := run_make (P := Tryd.prog) w 32 3 i0 (.int .i64 0) Tryd.underlying32 hi hz0 .i64 .i64 n n (by omega) (by omega) (by rw [hz2]; omega) (by omega)
  rw [this, hz1, enc_rep, ← madeCells_rep]; simp [Value.cells]
theorem makeSI (w : World) (n : Nat) (hn : n ≤ 65536) : (Instr.makeSlice 24 (.int .i64 n) (.int .i64 n)).run Tryd.prog w = .ok (.slice (some ⟨w.heap.size, 0, none⟩) n n) (w.alloc (.cells (List.replicate n (.slice none 0 0)).toArray 32)) := by
  obtain ⟨i0, hi, hz0, hz1, hz2⟩ := info_parts infoSI
  have := run_make (P := Tryd.prog) w 24 32 i0 (.slice none 0 0) Tryd.underlying24 hi hz0 .i64 .i64 n n (by omega) (by omega) (by rw [hz2]; omega) (by omega)
  rw [this, hz1, ← madeCells_rep]; simp [Value.cells]

/-- rows that are being made: k of C are laid -/
structure Laid (a C B k : Nat) (w : World) : Prop where
  head : ∃ hd : Array Value, Blk w a hd 32 ∧ hd.size = C ∧ ∀ c, c < k → hd[c]? = some (.slice (some ⟨a + 1 + c, 0, none⟩) B B)
  row : ∀ c, c < k → Blk w (a + 1 + c) (enc .i64 (List.replicate B 0)).toArray 3
  size : w.heap.size = a + 1 + k
theorem Laid.step {a C B k : Nat} {w : World} (h : Laid a C B k w) (hk : k < C) : Laid a C B (k + 1) ((w.alloc (.cells (enc .i64 (List.replicate B 0)).toArray 3)).setCell ⟨a, k, none⟩ (.slice (some ⟨a + 1 + k, 0, none⟩) B B)) := by
  obtain ⟨⟨hd, h1, h2, h3⟩, h4, h5⟩ := h
  refine ⟨⟨_, (h1.alloc _).set _ _, by simpa using h2, fun r hr => ?_⟩, fun r hr => ?_, ?_⟩
  · rw [Array.getElem?_setIfInBounds]
    split
    · rename_i e; subst e; rw [if_pos (by omega)]
    · exact h3 r (by omega)
  · rcases (by omega : r < k ∨ r = k) with h' | rfl
    · exact ((h4 r h').alloc _).set_ne (by show a + 1 + r ≠ a; omega) _
    · refine Blk.set_ne ?_ (by show a + 1 + r ≠ a; omega) _
      rw [← h5]; exact Blk.new w _ _
  · simp [World.setCell, h5]; omega
theorem Laid.cell {a C B k : Nat} {w : World} (h : Laid a C B k w) (hk : k < C) : (∃ u, (w.alloc (.cells (enc .i64 (List.replicate B 0)).toArray 3)).cell? ⟨a, k, none⟩ = some u) ∧ (w.alloc (.cells (enc .i64 (List.replicate B 0)).toArray 3)).frozen? ⟨a, k, none⟩ = false := by
  obtain ⟨⟨hd, h1, h2, h3⟩, h4, h5⟩ := h
  exact ⟨⟨hd[k]'(by omega), (h1.alloc _).cell (by simp [h2, hk])⟩, (h1.alloc _).free k⟩
theorem Laid.grid {a C B : Nat} {w : World} (h : Laid a C B C w) : Grid a C B (fun _ => 0) w := by
  refine ⟨h.head, fun c hc => ⟨_, h.row c hc, by simp [enc], fun b hb => ?_⟩⟩
  rw [List.getElem?_toArray, enc_get (by simpa using hb)]
  rw [List.getD_eq_getElem?_getD, List.getElem?_replicate, if_pos hb]; rfl

set_option maxRecDepth 100000 in
theorem blank_any (f : M.Fmt) (C B : Nat) (w : World) (hC : f.h = C) (hB : f.b = B) (c2 : C ≤ 2) (b8 : B ≤ 8) : Calls Tryd.prog 14 #[fv f] w fun e w' =>
    e = .returned (.slice (some ⟨w.heap.size + 1, 0, none⟩) C C) ∧ Below w.heap.size w w' ∧ Grid (w.heap.size + 1) C B (fun _ => 0) w' ∧ w'.heap.size = w.heap.size + 2 + C := by
  have hmk := makeSI (w.alloc (.cells (fc f) 23)) C (by omega)
  rw [alloc_size] at hmk
  have hst : Laid (w.heap.size + 1) C B 0 ((w.alloc (.cells (fc f) 23)).alloc (.cells (List.replicate C (.slice none 0 0)).toArray 32)) :=
    ⟨⟨_, by rw [← alloc_size w (.cells (fc f) 23)]; exact Blk.new _ _ _, by simp, fun c hc => absurd hc (by omega)⟩, fun c hc => absurd hc (by omega), by simp⟩
  have hbel : Below w.heap.size w ((w.alloc (.cells (fc f) 23)).alloc (.cells (List.replicate C (.slice none 0 0)).toArray 32)) := (bel1 _ _).alloc (bel1 _ _).size _
  have hbox : Blk ((w.alloc (.cells (fc f) 23)).alloc (.cells (List.replicate C (.slice none 0 0)).toArray 32)) w.heap.size (fc f) 23 := (Blk.new w _ _).alloc _
  have HS : Hid _ := hst
  have HL : Hid (Below w.heap.size w _) := hbel
  have HX : Hid (Blk _ w.heap.size (fc f) 23) := hbox
  clear hst hbel hbox
  generalize (List.replicate C (Value.slice none 0 0)).toArray = cs at *
  obtain ⟨c, r, h, b, k, m, j, p, l, y⟩ := f
  obtain rfl : h = C := hC
  obtain rfl : b = B := hB
  have C1 : (C : Int) ≤ 2 := by omega
  have B1 : (B : Int) ≤ 8 := by omega
  unfold fv
  unfold fc at hmk HS HL HX
  dsimp only at hmk ⊢
  go_enter Tryd.func14, Tryd.ntmps14
  go_wp2
  go_loopw [10] (fun i wr => ∃ n : Nat, n ≤ C ∧ i = .int .i64 n ∧ Laid (w.heap.size + 1) C B n wr ∧ Below w.heap.size w wr ∧ Blk wr w.heap.size (fc ⟨c, r, C, B, k, m, j, p, l, y⟩) 23) (fun i _ => C - (intOf i).toNat)
  case atStart => exact ⟨0, by omega, rfl, HS.out, HL.out, HX.out⟩
  case round =>
    clear HS HL HX hmk
    obtain ⟨n, hn, rfl, hl, hbw, hx⟩ := hrel
    by_cases hlt : n < C
    · have hlt' : (n : Int) < C := by omega
      have x3 : wr.cell? ⟨w.heap.size, 3, none⟩ = some (.int .i64 B) := hx.cell rfl
      have hmk := makeI wr B (by omega)
      rw [hl.size] at hmk
      obtain ⟨⟨u, hu⟩, hfz⟩ := hl.cell hlt
      have HS : Hid (Laid (w.heap.size + 1) C B (n + 1) _) := hl.step hlt
      have HL : Hid (Below w.heap.size w ((wr.alloc (.cells (enc .i64 (List.replicate B 0)).toArray 3)).setCell ⟨w.heap.size + 1, n, none⟩ (.slice (some ⟨w.heap.size + 1 + 1 + n, 0, none⟩) B B))) := (hbw.alloc hbw.size _).setCell (by show w.heap.size ≤ w.heap.size + 1; omega) _
      have HX : Hid (Blk ((wr.alloc (.cells (enc .i64 (List.replicate B 0)).toArray 3)).setCell ⟨w.heap.size + 1, n, none⟩ (.slice (some ⟨w.heap.size + 1 + 1 + n, 0, none⟩) B B)) w.heap.size (fc ⟨c, r, C, B, k, m, j, p, l, y⟩) 23) := (hx.alloc _).set_ne (by show w.heap.size ≠ w.heap.size + 1; omega) _
      clear hl hbw hx
      generalize (enc .i64 (List.replicate B 0)).toArray = cs2 at *
      go_wp2
      go_roundw
      case rel => exact ⟨n + 1, by omega, by go_num, HS.out, HL.out, HX.out⟩
      case measure => simp [intOf]; omega
    · obtain rfl : n = C := by omega
      have HS : Hid _ := hl
      clear hl hx
      go_wp2
      go_ret
      exact ⟨rfl, hbw, HS.out.grid, HS.out.size⟩

end Alloc
end Go.Proofs.YthlpbekfjolenaaDoor
