/-
  The walk of the law FormatOnly. Conditions: none.
-/
import Derived.Test.YthmaodjipemflaaFormEnds
namespace Go.Proofs.Ythmaodjipemflaa
set_option linter.unusedVariables false
open Go.RowKit
namespace Form
open Bank (Blk But)
open Poly (alloc_size)

theorem no18 (r h b k m j p y n : Int) (hn : ¬ n = 0) : ¬ M.okF ⟨1, r, h, b, k, m, j, p, n, y⟩ := by
  rintro (h | h)
  · exact hn h.2.2.2.2.2.2.2.2.2.2.1
  · exact absurd (show (1 : Int) = 2 from h.1) (by decide)
theorem no19 (r h b k m j p l n : Int) (hn : ¬ n = 0) : ¬ M.okF ⟨1, r, h, b, k, m, j, p, l, n⟩ := by
  rintro (h | h)
  · exact hn h.2.2.2.2.2.2.2.2.2.2.2.1
  · exact absurd (show (1 : Int) = 2 from h.1) (by decide)
theorem no23 (r h k m j p l y n : Int) (hn : ¬ n = 0) : ¬ M.okF ⟨2, r, h, n, k, m, j, p, l, y⟩ := by
  rintro (h | h)
  · exact absurd (show (2 : Int) = 1 from h.1) (by decide)
  · exact hn h.2.2.2.1.1
theorem no24 (r h b m j p l y n : Int) (hn : ¬ n = 0) : ¬ M.okF ⟨2, r, h, b, n, m, j, p, l, y⟩ := by
  rintro (h | h)
  · exact absurd (show (2 : Int) = 1 from h.1) (by decide)
  · exact hn h.2.2.2.1.2.1
theorem no25 (r h b k j p l y n : Int) (hn : ¬ n = 0) : ¬ M.okF ⟨2, r, h, b, k, n, j, p, l, y⟩ := by
  rintro (h | h)
  · exact absurd (show (2 : Int) = 1 from h.1) (by decide)
  · exact hn h.2.2.2.1.2.2.1
theorem no26 (r h b k m p l y n : Int) (hn : ¬ n = 0) : ¬ M.okF ⟨2, r, h, b, k, m, n, p, l, y⟩ := by
  rintro (h | h)
  · exact absurd (show (2 : Int) = 1 from h.1) (by decide)
  · exact hn h.2.2.2.1.2.2.2.1
theorem no27 (r h b k m j l y n : Int) (hn : ¬ n = 0) : ¬ M.okF ⟨2, r, h, b, k, m, j, n, l, y⟩ := by
  rintro (h | h)
  · exact absurd (show (2 : Int) = 1 from h.1) (by decide)
  · exact hn h.2.2.2.1.2.2.2.2

theorem FormatOnly_no (f : M.Fmt) (n : Int) (w : World) (hno : ¬ M.okF f) : Calls Try.prog 5 #[fv f, .int .i64 n] w fun e w' => e = .returned (.bool true) ∧ Below w.heap.size w w' := by
  have hs := start_any f w
  have hc := fun wx hb bel => call_any (w := w) (f := f) (Check_no f wx hno) hb bel
  clear hno
  obtain ⟨c, r, h, b, k, m, j, p, l, y⟩ := f
  unfold fc at hs
  unfold fv at hc ⊢
  dsimp only at hs hc ⊢
  go_enter Try.func5, Try.ntmps5
  go_wp2_with (first
    | (go_at_call 6; refine hs.mono ?_; clear hs; rintro e w2 ⟨rfl, hb2, bel2⟩; have xs := box_cells (f := ⟨c, r, h, b, k, m, j, p, l, y⟩) hb2; dsimp only at xs; obtain ⟨x0, x1, x2, x3, x4, x5, x6, x7, x8, x9⟩ := xs; replace hc := hc _ hb2 bel2; clear hb2)
    | (go_at_call 8; refine hc.mono ?_; clear hc; rintro e w3 ⟨rfl, -, bel3⟩))
  go_ret
  exact ⟨rfl, bel3⟩

theorem FormatOnly_zero (f : M.Fmt) (w : World) (hok : M.okF f) : Calls Try.prog 5 #[fv f, .int .i64 0] w fun e w' => e = .returned (.bool true) ∧ Below w.heap.size w w' := by
  have hs := start_any f w
  have hc := fun wx hb bel => call_any (w := w) (f := f) (Check_ok f wx hok) hb bel
  clear hok
  obtain ⟨c, r, h, b, k, m, j, p, l, y⟩ := f
  unfold fc at hs
  unfold fv at hc ⊢
  dsimp only at hs hc ⊢
  go_enter Try.func5, Try.ntmps5
  go_wp2_with (first
    | (go_at_call 6; refine hs.mono ?_; clear hs; rintro e w2 ⟨rfl, hb2, bel2⟩; have xs := box_cells (f := ⟨c, r, h, b, k, m, j, p, l, y⟩) hb2; dsimp only at xs; obtain ⟨x0, x1, x2, x3, x4, x5, x6, x7, x8, x9⟩ := xs; replace hc := hc _ hb2 bel2; clear hb2)
    | (go_at_call 8; refine hc.mono ?_; clear hc; rintro e w3 ⟨rfl, -, bel3⟩))
  go_ret
  exact ⟨rfl, bel3⟩

set_option maxRecDepth 100000 in
set_option maxHeartbeats 6400000 in
theorem FormatOnly_ok (f : M.Fmt) (n : Int) (w : World) (hok : M.okF f) (hn : ¬ n = 0) : Calls Try.prog 5 #[fv f, .int .i64 n] w fun e w' => e = .returned (.bool true) ∧ Below w.heap.size w w' := by
  have hs := start_any f w
  have hc := fun wx hb bel => call_any (w := w) (f := f) (Check_ok f wx hok) hb bel
  have hcc : f.c = 1 ∨ f.c = 2 := hok.elim (fun h => .inl h.1) (fun h => .inr h.1)
  have HCC : Hid _ := hcc
  have HN : Hid (¬ n = 0) := hn
  have hn0 : (n == 0) = false := by simpa using hn
  clear hok hcc hn
  obtain ⟨c, r, h, b, k, m, j, p, l, y⟩ := f
  unfold fc at hs
  unfold fv at hc ⊢
  dsimp only at hs hc ⊢
  go_enter Try.func5, Try.ntmps5
  go_wp2_with (first
    | (go_at_call 6; refine hs.mono ?_; clear hs; rintro e w2 ⟨rfl, hb2, bel2⟩; have xs := box_cells (f := ⟨c, r, h, b, k, m, j, p, l, y⟩) hb2; dsimp only at xs; obtain ⟨x0, x1, x2, x3, x4, x5, x6, x7, x8, x9⟩ := xs; replace hc := hc _ hb2 bel2; clear hb2)
    | (go_at_call 8; refine hc.mono ?_; clear hc; rintro e w3 ⟨rfl, hb3, bel3⟩; clear bel2 x0 x1 x2 x3 x4 x5 x6 x7 x8 x9))
  go_loopw [5] (fun i wr => ∃ q : Nat, q ≤ 5 ∧ i = .int .i64 q ∧ Blk wr w.heap.size (fc ⟨c, r, h, b, k, m, j, p, l, y⟩) 23 ∧ Below w.heap.size w wr) (fun i _ => 5 - (intOf i).toNat)
  case atStart => exact ⟨0, by omega, rfl, hb3, bel3⟩
  case round =>
    clear hb3 bel3
    obtain ⟨q, hq, rfl, hb, bel⟩ := hrel
    by_cases hlt : q < 5
    · have xs := box_cells hb
      dsimp only at xs
      obtain ⟨x0, x1, x2, x3, x4, x5, x6, x7, x8, x9⟩ := xs
      have HB : Hid _ := hb
      clear hb
      have hlt' : (q : Int) < 5 := by omega
      go_upto_region 10 with fail
      obtain ⟨W, hW⟩ : ∃ W, W = wr.alloc (.cells #[.int .i64 c, .int .i64 r, .int .i64 h, .int .i64 b, .int .i64 k, .int .i64 m, .int .i64 j, .int .i64 p, .int .i64 l, .int .i64 y] 23) := ⟨_, rfl⟩
      rw [← hW]
      obtain ⟨hbW, hgW, belW, hltW⟩ := copy_box (f := ⟨c, r, h, b, k, m, j, p, l, y⟩) HB.out bel W hW
      clear hW bel HB x0 x1 x2 x3 x4 x5 x6 x7 x8 x9
      generalize wr.heap.size = G at *
      have ne1 : ¬ w.heap.size = G := by omega
      have ne2 : ¬ G = w.heap.size := by omega
      have hxs := box_cells hbW
      have hgs := box_cells hgW
      dsimp only at hxs hgs
      obtain ⟨x0, -, -, -, -, -, -, -, -, -⟩ := hxs
      obtain ⟨g0, g1, g2, g3, g4, g5, g6, g7, g8, g9⟩ := hgs
      have HGW : Hid _ := hgW
      have HBW : Hid _ := hbW
      have HNE : Hid (w.heap.size ≠ G) := ne1
      have HLE : Hid (w.heap.size ≤ G) := Nat.le_of_lt hltW
      have hfree := fun o => hgW.free o
      clear hbW hgW hltW
      rcases HCC.out with hc1 | hc2
      · subst hc1
        rcases (by omega : q = 0 ∨ q = 1 ∨ q = 2 ∨ q = 3 ∨ q = 4) with rfl | rfl | rfl | rfl | rfl
        · have fr := hfree 8
          have hcm := fun wx => Check_no ⟨1, r, h, b, k, m, j, p, n, y⟩ wx (no18 r h b k m j p y n HN.out)
          have hpm := fun wx => Payload_no ⟨1, r, h, b, k, m, j, p, n, y⟩ wx (no18 r h b k m j p y n HN.out)
          unfold fv at hcm hpm
          dsimp only at hcm hpm
          clear hfree
          go_wp2_with (first
            | (go_at_call 8; refine (hcm _).mono ?_; clear hcm; rintro e w7 ⟨rfl, bel7⟩; have hb7 := box_next (f := ⟨1, r, h, b, k, m, j, p, n, y⟩) bel7 (Blk.set HGW.out 8 _); have hv7 := box_next bel7 (Blk.set_ne HBW.out HNE.out _); have belX : Below w.heap.size w (W.setCell ⟨G, 8, none⟩ (.int .i64 n)) := belW.setCell HLE.out _; have bel8 := belX.trans (bel7.mono belX.size); clear bel7 belX; have ts := box_cells hb7; dsimp only at ts; obtain ⟨t0, t1, t2, t3, t4, t5, t6, t7, t8, t9⟩ := ts; have HV7 : Hid _ := hv7; clear hb7 hv7)
            | (go_at_call 11; refine (hpm _).mono ?_; clear hpm; rintro e w9 ⟨rfl, bel9⟩; have hv9 := box_next bel9 HV7.out; have belE := bel8.trans (bel9.mono bel8.size)))
          go_roundw
          case rel => exact ⟨1, by omega, rfl, hv9, belE⟩
          case measure => simp [intOf]
        · have fr := hfree 9
          have hcm := fun wx => Check_no ⟨1, r, h, b, k, m, j, p, l, n⟩ wx (no19 r h b k m j p l n HN.out)
          have hpm := fun wx => Payload_no ⟨1, r, h, b, k, m, j, p, l, n⟩ wx (no19 r h b k m j p l n HN.out)
          unfold fv at hcm hpm
          dsimp only at hcm hpm
          clear hfree
          go_wp2_with (first
            | (go_at_call 8; refine (hcm _).mono ?_; clear hcm; rintro e w7 ⟨rfl, bel7⟩; have hb7 := box_next (f := ⟨1, r, h, b, k, m, j, p, l, n⟩) bel7 (Blk.set HGW.out 9 _); have hv7 := box_next bel7 (Blk.set_ne HBW.out HNE.out _); have belX : Below w.heap.size w (W.setCell ⟨G, 9, none⟩ (.int .i64 n)) := belW.setCell HLE.out _; have bel8 := belX.trans (bel7.mono belX.size); clear bel7 belX; have ts := box_cells hb7; dsimp only at ts; obtain ⟨t0, t1, t2, t3, t4, t5, t6, t7, t8, t9⟩ := ts; have HV7 : Hid _ := hv7; clear hb7 hv7)
            | (go_at_call 11; refine (hpm _).mono ?_; clear hpm; rintro e w9 ⟨rfl, bel9⟩; have hv9 := box_next bel9 HV7.out; have belE := bel8.trans (bel9.mono bel8.size)))
          go_roundw
          case rel => exact ⟨2, by omega, rfl, hv9, belE⟩
          case measure => simp [intOf]
        · have fr := hfree 9
          have hcm := fun wx => Check_no ⟨1, r, h, b, k, m, j, p, l, n⟩ wx (no19 r h b k m j p l n HN.out)
          have hpm := fun wx => Payload_no ⟨1, r, h, b, k, m, j, p, l, n⟩ wx (no19 r h b k m j p l n HN.out)
          unfold fv at hcm hpm
          dsimp only at hcm hpm
          clear hfree
          go_wp2_with (first
            | (go_at_call 8; refine (hcm _).mono ?_; clear hcm; rintro e w7 ⟨rfl, bel7⟩; have hb7 := box_next (f := ⟨1, r, h, b, k, m, j, p, l, n⟩) bel7 (Blk.set HGW.out 9 _); have hv7 := box_next bel7 (Blk.set_ne HBW.out HNE.out _); have belX : Below w.heap.size w (W.setCell ⟨G, 9, none⟩ (.int .i64 n)) := belW.setCell HLE.out _; have bel8 := belX.trans (bel7.mono belX.size); clear bel7 belX; have ts := box_cells hb7; dsimp only at ts; obtain ⟨t0, t1, t2, t3, t4, t5, t6, t7, t8, t9⟩ := ts; have HV7 : Hid _ := hv7; clear hb7 hv7)
            | (go_at_call 11; refine (hpm _).mono ?_; clear hpm; rintro e w9 ⟨rfl, bel9⟩; have hv9 := box_next bel9 HV7.out; have belE := bel8.trans (bel9.mono bel8.size)))
          go_roundw
          case rel => exact ⟨3, by omega, rfl, hv9, belE⟩
          case measure => simp [intOf]
        · have fr := hfree 9
          have hcm := fun wx => Check_no ⟨1, r, h, b, k, m, j, p, l, n⟩ wx (no19 r h b k m j p l n HN.out)
          have hpm := fun wx => Payload_no ⟨1, r, h, b, k, m, j, p, l, n⟩ wx (no19 r h b k m j p l n HN.out)
          unfold fv at hcm hpm
          dsimp only at hcm hpm
          clear hfree
          go_wp2_with (first
            | (go_at_call 8; refine (hcm _).mono ?_; clear hcm; rintro e w7 ⟨rfl, bel7⟩; have hb7 := box_next (f := ⟨1, r, h, b, k, m, j, p, l, n⟩) bel7 (Blk.set HGW.out 9 _); have hv7 := box_next bel7 (Blk.set_ne HBW.out HNE.out _); have belX : Below w.heap.size w (W.setCell ⟨G, 9, none⟩ (.int .i64 n)) := belW.setCell HLE.out _; have bel8 := belX.trans (bel7.mono belX.size); clear bel7 belX; have ts := box_cells hb7; dsimp only at ts; obtain ⟨t0, t1, t2, t3, t4, t5, t6, t7, t8, t9⟩ := ts; have HV7 : Hid _ := hv7; clear hb7 hv7)
            | (go_at_call 11; refine (hpm _).mono ?_; clear hpm; rintro e w9 ⟨rfl, bel9⟩; have hv9 := box_next bel9 HV7.out; have belE := bel8.trans (bel9.mono bel8.size)))
          go_roundw
          case rel => exact ⟨4, by omega, rfl, hv9, belE⟩
          case measure => simp [intOf]
        · have fr := hfree 9
          have hcm := fun wx => Check_no ⟨1, r, h, b, k, m, j, p, l, n⟩ wx (no19 r h b k m j p l n HN.out)
          have hpm := fun wx => Payload_no ⟨1, r, h, b, k, m, j, p, l, n⟩ wx (no19 r h b k m j p l n HN.out)
          unfold fv at hcm hpm
          dsimp only at hcm hpm
          clear hfree
          go_wp2_with (first
            | (go_at_call 8; refine (hcm _).mono ?_; clear hcm; rintro e w7 ⟨rfl, bel7⟩; have hb7 := box_next (f := ⟨1, r, h, b, k, m, j, p, l, n⟩) bel7 (Blk.set HGW.out 9 _); have hv7 := box_next bel7 (Blk.set_ne HBW.out HNE.out _); have belX : Below w.heap.size w (W.setCell ⟨G, 9, none⟩ (.int .i64 n)) := belW.setCell HLE.out _; have bel8 := belX.trans (bel7.mono belX.size); clear bel7 belX; have ts := box_cells hb7; dsimp only at ts; obtain ⟨t0, t1, t2, t3, t4, t5, t6, t7, t8, t9⟩ := ts; have HV7 : Hid _ := hv7; clear hb7 hv7)
            | (go_at_call 11; refine (hpm _).mono ?_; clear hpm; rintro e w9 ⟨rfl, bel9⟩; have hv9 := box_next bel9 HV7.out; have belE := bel8.trans (bel9.mono bel8.size)))
          go_roundw
          case rel => exact ⟨5, by omega, rfl, hv9, belE⟩
          case measure => simp [intOf]
      · subst hc2
        rcases (by omega : q = 0 ∨ q = 1 ∨ q = 2 ∨ q = 3 ∨ q = 4) with rfl | rfl | rfl | rfl | rfl
        · have fr := hfree 3
          have hcm := fun wx => Check_no ⟨2, r, h, n, k, m, j, p, l, y⟩ wx (no23 r h k m j p l y n HN.out)
          have hpm := fun wx => Payload_no ⟨2, r, h, n, k, m, j, p, l, y⟩ wx (no23 r h k m j p l y n HN.out)
          unfold fv at hcm hpm
          dsimp only at hcm hpm
          clear hfree
          go_wp2_with (first
            | (go_at_call 8; refine (hcm _).mono ?_; clear hcm; rintro e w7 ⟨rfl, bel7⟩; have hb7 := box_next (f := ⟨2, r, h, n, k, m, j, p, l, y⟩) bel7 (Blk.set HGW.out 3 _); have hv7 := box_next bel7 (Blk.set_ne HBW.out HNE.out _); have belX : Below w.heap.size w (W.setCell ⟨G, 3, none⟩ (.int .i64 n)) := belW.setCell HLE.out _; have bel8 := belX.trans (bel7.mono belX.size); clear bel7 belX; have ts := box_cells hb7; dsimp only at ts; obtain ⟨t0, t1, t2, t3, t4, t5, t6, t7, t8, t9⟩ := ts; have HV7 : Hid _ := hv7; clear hb7 hv7)
            | (go_at_call 11; refine (hpm _).mono ?_; clear hpm; rintro e w9 ⟨rfl, bel9⟩; have hv9 := box_next bel9 HV7.out; have belE := bel8.trans (bel9.mono bel8.size)))
          go_roundw
          case rel => exact ⟨1, by omega, rfl, hv9, belE⟩
          case measure => simp [intOf]
        · have fr := hfree 4
          have hcm := fun wx => Check_no ⟨2, r, h, b, n, m, j, p, l, y⟩ wx (no24 r h b m j p l y n HN.out)
          have hpm := fun wx => Payload_no ⟨2, r, h, b, n, m, j, p, l, y⟩ wx (no24 r h b m j p l y n HN.out)
          unfold fv at hcm hpm
          dsimp only at hcm hpm
          clear hfree
          go_wp2_with (first
            | (go_at_call 8; refine (hcm _).mono ?_; clear hcm; rintro e w7 ⟨rfl, bel7⟩; have hb7 := box_next (f := ⟨2, r, h, b, n, m, j, p, l, y⟩) bel7 (Blk.set HGW.out 4 _); have hv7 := box_next bel7 (Blk.set_ne HBW.out HNE.out _); have belX : Below w.heap.size w (W.setCell ⟨G, 4, none⟩ (.int .i64 n)) := belW.setCell HLE.out _; have bel8 := belX.trans (bel7.mono belX.size); clear bel7 belX; have ts := box_cells hb7; dsimp only at ts; obtain ⟨t0, t1, t2, t3, t4, t5, t6, t7, t8, t9⟩ := ts; have HV7 : Hid _ := hv7; clear hb7 hv7)
            | (go_at_call 11; refine (hpm _).mono ?_; clear hpm; rintro e w9 ⟨rfl, bel9⟩; have hv9 := box_next bel9 HV7.out; have belE := bel8.trans (bel9.mono bel8.size)))
          go_roundw
          case rel => exact ⟨2, by omega, rfl, hv9, belE⟩
          case measure => simp [intOf]
        · have fr := hfree 5
          have hcm := fun wx => Check_no ⟨2, r, h, b, k, n, j, p, l, y⟩ wx (no25 r h b k j p l y n HN.out)
          have hpm := fun wx => Payload_no ⟨2, r, h, b, k, n, j, p, l, y⟩ wx (no25 r h b k j p l y n HN.out)
          unfold fv at hcm hpm
          dsimp only at hcm hpm
          clear hfree
          go_wp2_with (first
            | (go_at_call 8; refine (hcm _).mono ?_; clear hcm; rintro e w7 ⟨rfl, bel7⟩; have hb7 := box_next (f := ⟨2, r, h, b, k, n, j, p, l, y⟩) bel7 (Blk.set HGW.out 5 _); have hv7 := box_next bel7 (Blk.set_ne HBW.out HNE.out _); have belX : Below w.heap.size w (W.setCell ⟨G, 5, none⟩ (.int .i64 n)) := belW.setCell HLE.out _; have bel8 := belX.trans (bel7.mono belX.size); clear bel7 belX; have ts := box_cells hb7; dsimp only at ts; obtain ⟨t0, t1, t2, t3, t4, t5, t6, t7, t8, t9⟩ := ts; have HV7 : Hid _ := hv7; clear hb7 hv7)
            | (go_at_call 11; refine (hpm _).mono ?_; clear hpm; rintro e w9 ⟨rfl, bel9⟩; have hv9 := box_next bel9 HV7.out; have belE := bel8.trans (bel9.mono bel8.size)))
          go_roundw
          case rel => exact ⟨3, by omega, rfl, hv9, belE⟩
          case measure => simp [intOf]
        · have fr := hfree 6
          have hcm := fun wx => Check_no ⟨2, r, h, b, k, m, n, p, l, y⟩ wx (no26 r h b k m p l y n HN.out)
          have hpm := fun wx => Payload_no ⟨2, r, h, b, k, m, n, p, l, y⟩ wx (no26 r h b k m p l y n HN.out)
          unfold fv at hcm hpm
          dsimp only at hcm hpm
          clear hfree
          go_wp2_with (first
            | (go_at_call 8; refine (hcm _).mono ?_; clear hcm; rintro e w7 ⟨rfl, bel7⟩; have hb7 := box_next (f := ⟨2, r, h, b, k, m, n, p, l, y⟩) bel7 (Blk.set HGW.out 6 _); have hv7 := box_next bel7 (Blk.set_ne HBW.out HNE.out _); have belX : Below w.heap.size w (W.setCell ⟨G, 6, none⟩ (.int .i64 n)) := belW.setCell HLE.out _; have bel8 := belX.trans (bel7.mono belX.size); clear bel7 belX; have ts := box_cells hb7; dsimp only at ts; obtain ⟨t0, t1, t2, t3, t4, t5, t6, t7, t8, t9⟩ := ts; have HV7 : Hid _ := hv7; clear hb7 hv7)
            | (go_at_call 11; refine (hpm _).mono ?_; clear hpm; rintro e w9 ⟨rfl, bel9⟩; have hv9 := box_next bel9 HV7.out; have belE := bel8.trans (bel9.mono bel8.size)))
          go_roundw
          case rel => exact ⟨4, by omega, rfl, hv9, belE⟩
          case measure => simp [intOf]
        · have fr := hfree 7
          have hcm := fun wx => Check_no ⟨2, r, h, b, k, m, j, n, l, y⟩ wx (no27 r h b k m j l y n HN.out)
          have hpm := fun wx => Payload_no ⟨2, r, h, b, k, m, j, n, l, y⟩ wx (no27 r h b k m j l y n HN.out)
          unfold fv at hcm hpm
          dsimp only at hcm hpm
          clear hfree
          go_wp2_with (first
            | (go_at_call 8; refine (hcm _).mono ?_; clear hcm; rintro e w7 ⟨rfl, bel7⟩; have hb7 := box_next (f := ⟨2, r, h, b, k, m, j, n, l, y⟩) bel7 (Blk.set HGW.out 7 _); have hv7 := box_next bel7 (Blk.set_ne HBW.out HNE.out _); have belX : Below w.heap.size w (W.setCell ⟨G, 7, none⟩ (.int .i64 n)) := belW.setCell HLE.out _; have bel8 := belX.trans (bel7.mono belX.size); clear bel7 belX; have ts := box_cells hb7; dsimp only at ts; obtain ⟨t0, t1, t2, t3, t4, t5, t6, t7, t8, t9⟩ := ts; have HV7 : Hid _ := hv7; clear hb7 hv7)
            | (go_at_call 11; refine (hpm _).mono ?_; clear hpm; rintro e w9 ⟨rfl, bel9⟩; have hv9 := box_next bel9 HV7.out; have belE := bel8.trans (bel9.mono bel8.size)))
          go_roundw
          case rel => exact ⟨5, by omega, rfl, hv9, belE⟩
          case measure => simp [intOf]
    · obtain rfl : q = 5 := by omega
      go_wp2
      go_ret
      exact ⟨rfl, bel⟩

theorem FormatOnly_walk (f : M.Fmt) (n : Int) (w : World) : Calls Try.prog 5 #[fv f, .int .i64 n] w fun e w' => e = .returned (.bool true) ∧ Below w.heap.size w w' := by
  by_cases hok : M.okF f
  · by_cases hn : n = 0
    · subst hn
      exact FormatOnly_zero f w hok
    · exact FormatOnly_ok f n w hok hn
  · exact FormatOnly_no f n w hok

end Form
end Go.Proofs.Ythmaodjipemflaa
