/-
  The walk of the law of the pad: any calls to a pad of any bytes do what the document's pad does. Conditions: the calls stand in memory.
-/
import Derived.Test.YtafjepneekomiaaBitsBytes
import Derived.Laws.BytesArg
import Derived.Deep.DrawnRows
import Derived.Deep.RegionWith
namespace Go.Proofs.Ytafjepneekomiaa
set_option linter.unusedVariables false
open Go.RowKit
namespace Bits
attribute [local go_sem ↓] Go.wp_at_zero Go.wp_at_succ

/-- 'string(b)' of bytes that a call made -/
theorem conv_owns {w : World} {base n cap : Nat} {a : Option Addr} {B : Nat → Bool} (h : w.ownsRow base 5 1 (.slice a n cap) n ((bytesL n B).map fun x : Nat => Value.int .u8 x)) :
    (convert 37 9 (.slice a n cap)).run Try.prog w = .ok (.string (strOfNums ((bytesL n B).map fun x : Nat => (x : Int)))) w := by
  have hc : ∀ g, a = some ⟨g, 0, none⟩ → ∀ i, i < n → w.cell? ⟨g, 0 + i, none⟩ = some (.int .u8 (((bytesL n B).map fun x : Nat => (x : Int)).getD i 0)) := fun g hg i hi => by
    obtain ⟨g', he, _, hc⟩ := owns_cell h hi
    rw [hg] at he
    cases he
    rw [Nat.zero_add, hc]
    have hl : i < (bytesL n B).length := by rw [bytesL_length]; exact hi
    simp [List.getD, List.getElem?_eq_getElem hl]
  obtain ⟨_, ⟨he, h0⟩ | ⟨g, cap', cur, he, _⟩⟩ := h
  · cases he
    exact run_convert_bytes_nil w _ _ Try.underlying37 Try.underlying5 _ _ _ Try.underlying9
  · cases he
    exact run_convert_bytes_arg w _ _ Try.underlying37 Try.underlying5 g 0 n cap _ (by simp [bytesL_length]) (hc g rfl) _ Try.underlying9
theorem owns_below {w w' : World} {base n size N : Nat} {e : TypeId} {v : Value} {xs : List Value} (h : w.ownsRow base e size v n xs) (u : Below N w w') (hN : w.heap.size ≤ N) : w'.ownsRow base e size v n xs := by
  obtain ⟨h0, h1 | ⟨g, cap, cur, hv, hg, hh, h2⟩⟩ := h
  · exact ⟨h0, .inl h1⟩
  · exact ⟨h0, .inr ⟨g, cap, cur, hv, hg, (u.block g (by have := (Array.getElem?_eq_some_iff.1 hh).1; omega)).trans hh, h2⟩⟩

set_option maxRecDepth 100000 in
set_option maxHeartbeats 20000000 in
theorem write_main (n : Nat) (v : Value) (zs : List Act) (w : World) (hA : Acts w v zs) (hn : n ≤ 512) (hlen : zs.length ≤ 100) :
    Calls Try.prog 3 #[.int .i64 n, v] w fun e w' => e = .returned (.bool true) ∧ Below w.heap.size w w' := by
  have hA0 := hA
  obtain ⟨a, cp, rfl, hvs, _⟩ := hA
  have l1 : ¬ (100 : Int) < (zs.length : Int) := by omega
  go_enter Try.func3, Try.ntmps3
  go_wp2_with (first
    | (go_at_call 7; refine (alive_any _).mono ?_; rintro e wa ⟨rfl, bela⟩)
    | (go_at_call 8; refine (New_ok n _ hn).mono ?_; rintro e w1 ⟨p, b, c, d, rfl, lp, lb, lc, ld, up, ub, uc, ud, bel1, ho⟩)
    | (go_at_call 9; refine (RNew_ok n _ hn).mono ?_; rintro e w2 ⟨r, rfl, rd, lr, lrd, ur, urd, bel2, hr⟩))
  have sa := bela.size
  have s1 := bel1.size
  have s2 := bel2.size
  have belw : Below w.heap.size w w2 := (bela.trans (Below.less bel1 sa)).trans (Below.less bel2 (by omega))
  have ho2 := ho.below bel2 up ub uc ud
  go_loopw [9] (fun i wr => ∃ (j : Nat) (B : Nat → Bool) (h t : Nat), j ≤ zs.length ∧ i = .int .i64 j ∧ Below w.heap.size w wr ∧ Own 62 wr p b c d n B h t ∧ M.Good (8 * n) B h t ∧ Ref wr r rd n B h t ∧ w2.heap.size ≤ wr.heap.size) (fun i _ => zs.length - (intOf i).toNat)
  case atStart => exact ⟨0, fun _ => false, 0, 0, by omega, rfl, belw, ho2, M.Good.zero _, hr, Nat.le_refl _⟩
  case round =>
    obtain ⟨j, B, h, t, hj, rfl, belr, hO, hg, hR, hNr⟩ := hrel
    by_cases hlt : j < zs.length
    · obtain ⟨⟨bk, x, k⟩, hz⟩ : ∃ z, zs[j]? = some z := ⟨_, List.getElem?_eq_getElem hlt⟩
      have hx : x < 4294967296 := hvs _ (List.mem_of_getElem? hz)
      obtain ⟨a', c', he', _, hnil | ⟨b0, off, rfl, hb0, hcells⟩⟩ := hA0
      · rw [hnil] at hlt; simp at hlt
      cases he'
      obtain ⟨k0, k1, k2⟩ := hcells j bk x k hz
      have r0 : wr.cell? ⟨b0, off + j * 3, none⟩ = some (.bool bk) := (belr.cell hb0).trans k0
      have r1 : wr.cell? ⟨b0, off + j * 3 + 1, none⟩ = some (.int .u32 x) := (belr.cell hb0).trans k1
      have r2 : wr.cell? ⟨b0, off + j * 3 + 2, none⟩ = some (.int .i64 k) := (belr.cell hb0).trans k2
      clear k0 k1 k2 hcells
      have i1 : (0 : Int) ≤ (j : Int) := by omega
      have i2 : (j : Int) < (zs.length : Int) := by omega
      have sr := belr.size
      cases bk with
      | false =>
        have bel3 : Below wr.heap.size wr (wr.alloc (.cells #[.bool false, .int .u32 x, .int .i64 k] 33)) := (Below.refl _ _).alloc (Nat.le_refl _) _
        have hblk : Blk (wr.alloc (.cells #[.bool false, .int .u32 x, .int .i64 k] 33)) wr.heap.size #[.bool false, .int .u32 x, .int .i64 k] 33 := Blk.new _ _ _
        have hF := FrontP_any p b c d n h t x k B _ (hO.below bel3 (by omega) (by omega) (by omega) (by omega)) hn hg hx
        have hR3 := hR.below bel3 (by omega) (by omega)
        have hg2 := Good.next (f := true) hg x k
        obtain ⟨er, her⟩ : ∃ e, e = M.mayv (8 * n) h t x k := ⟨_, rfl⟩
        obtain ⟨B2, hB2⟩ : ∃ e, e = M.nB true (8 * n) B h t x k := ⟨_, rfl⟩
        obtain ⟨h2, hh2⟩ : ∃ e, e = M.nh true (8 * n) h t x k := ⟨_, rfl⟩
        obtain ⟨t2, ht2⟩ : ∃ e, e = M.nt true (8 * n) h t x k := ⟨_, rfl⟩
        rw [← her, ← hB2, ← hh2, ← ht2] at hF
        rw [← hB2, ← hh2, ← ht2] at hg2
        have hP := fun (w4 : World) (q : Ref w4 r rd n B h t) => Put_any r rd n h t x k true B w4 q hn hg.1 hx
        rw [← her, ← hB2, ← hh2, ← ht2] at hP
        clear her hB2 hh2 ht2
        obtain ⟨str, hstr⟩ : ∃ e, e = strOfNums ((bytesL n B2).map fun x : Nat => (x : Int)) := ⟨_, rfl⟩
        have s3 : (wr.alloc (.cells #[.bool false, .int .u32 x, .int .i64 k] 33)).heap.size = wr.heap.size + 1 := World.size_alloc _ _
        go_wp2_with (go_at_call 11; refine hF.mono ?_; rintro e w4 ⟨rfl, bt4, ho4⟩
                     have s4 := bt4.size; rw [s3] at s4
                     have hblk4 := bt4.blk hblk (by omega) (by omega)
                     have hR4 := hR3.but bt4 (by omega) (by omega) (by omega) (by omega)
                     have kq4 : w4.cell? ⟨wr.heap.size, 0, none⟩ = some (.bool false) ∧ w4.cell? ⟨wr.heap.size, 1, none⟩ = some (.int .u32 x) ∧ w4.cell? ⟨wr.heap.size, 2, none⟩ = some (.int .i64 k) := ⟨hblk4.cell rfl, hblk4.cell rfl, hblk4.cell rfl⟩)
        obtain ⟨kc0, kc1, kc2⟩ := kq4
        go_region_with
          (first
            | (go_at_call 12; refine (hP _ (by exact hR4)).mono ?_; rintro e w5 ⟨rfl, bt5', hR5⟩
               have bt5 : But r rd w4 w5 := ⟨bt5'.os, bt5'.tape, bt5'.output, bt5'.size, bt5'.block⟩
               have s5 : w4.heap.size ≤ w5.heap.size := bt5.size
               have hblk5 : Blk w5 wr.heap.size _ _ := bt5.blk hblk4 (by omega) (by omega)
               have ho5 := ho4.but bt5 (by omega) (by omega)
               have kq5 : w5.cell? ⟨wr.heap.size, 0, none⟩ = some (.bool false) ∧ w5.cell? ⟨wr.heap.size, 1, none⟩ = some (.int .u32 x) ∧ w5.cell? ⟨wr.heap.size, 2, none⟩ = some (.int .i64 k) := ⟨hblk5.cell rfl, hblk5.cell rfl, hblk5.cell rfl⟩)
            | (go_at_call 13; refine (LeftP p b c d n _ _ B2 _ (by exact ho5) hn hg2.1).mono ?_; rintro e w' ⟨rfl, m1, rfl⟩)
            | (go_at_call 14; refine (RLeft r rd n _ _ B2 _ (by exact hR5) hn hg2.1).mono ?_; rintro e w' ⟨rfl, m2, rfl⟩)
            | (go_at_call 15; refine (BytesP p b c d n _ _ B2 _ (by exact ho5) hn).mono ?_; rintro e w6 ⟨a6, cap6, rfl, hown6, bel6'⟩
               have bel6 : Below w5.heap.size w5 w6 := ⟨bel6'.os, bel6'.tape, bel6'.output, bel6'.size, bel6'.block⟩
               have s6 : w5.heap.size ≤ w6.heap.size := bel6.size
               have ho6 : Own 62 w6 p b c d n B2 h2 t2 := ho5.below bel6 (show p < w5.heap.size by omega) (show b < w5.heap.size by omega) (show c < w5.heap.size by omega) (show d < w5.heap.size by omega)
               have hR6 : Ref w6 r rd n B2 h2 t2 := hR5.below bel6 (show r < w5.heap.size by omega) (show rd < w5.heap.size by omega)
               have hblk6 : Blk w6 wr.heap.size _ _ := Below.blk bel6 hblk5 (show wr.heap.size < w5.heap.size by omega)
               have cv6 := conv_owns hown6
               rw [← hstr] at cv6
               have kq6 : w6.cell? ⟨wr.heap.size, 0, none⟩ = some (.bool false) ∧ w6.cell? ⟨wr.heap.size, 1, none⟩ = some (.int .u32 x) ∧ w6.cell? ⟨wr.heap.size, 2, none⟩ = some (.int .i64 k) := ⟨hblk6.cell rfl, hblk6.cell rfl, hblk6.cell rfl⟩)
            | (go_at_call 16; refine (RBytes r rd n _ _ B2 _ hR6 hn).mono ?_; rintro e w7 ⟨a7, cap7, rfl, hown7, bel7⟩
               have s7 : w6.heap.size ≤ w7.heap.size := bel7.size
               have hblk7 : Blk w7 wr.heap.size _ _ := Below.blk bel7 hblk6 (show wr.heap.size < w6.heap.size by omega)
               have ho7 := ho6.below bel7 (show p < w6.heap.size by omega) (show b < w6.heap.size by omega) (show c < w6.heap.size by omega) (show d < w6.heap.size by omega)
               have hR7 := hR6.below bel7 (show r < w6.heap.size by omega) (show rd < w6.heap.size by omega)
               have belz : Below w.heap.size w w7 := (((((belr.trans (Below.less bel3 sr)).trans (bt4.below (by omega) (by omega) (by rw [s3]; omega))).trans (bt5.below (by omega) (by omega) (by omega))).trans (Below.less bel6 (by omega))).trans (Below.less bel7 (by omega)))
               have cv7 := conv_owns hown7
               have cv67 := conv_owns (owns_below hown6 bel7 (Nat.le_refl _))
               rw [← hstr] at cv7 cv67
               have kq7 : w7.cell? ⟨wr.heap.size, 0, none⟩ = some (.bool false) ∧ w7.cell? ⟨wr.heap.size, 1, none⟩ = some (.int .u32 x) ∧ w7.cell? ⟨wr.heap.size, 2, none⟩ = some (.int .i64 k) := ⟨hblk7.cell rfl, hblk7.cell rfl, hblk7.cell rfl⟩))
        all_goals (
          go_wp2
          go_roundw
          case rel => exact ⟨j + 1, B2, h2, t2, by omega, by go_num, belz, ho7, hg2, hR7, by omega⟩
          case measure => simp [intOf]; omega)
      | true =>
        have bel3 : Below wr.heap.size wr (wr.alloc (.cells #[.bool true, .int .u32 x, .int .i64 k] 33)) := (Below.refl _ _).alloc (Nat.le_refl _) _
        have hblk : Blk (wr.alloc (.cells #[.bool true, .int .u32 x, .int .i64 k] 33)) wr.heap.size #[.bool true, .int .u32 x, .int .i64 k] 33 := Blk.new _ _ _
        have hF := BackP_any p b c d n h t x k B _ (hO.below bel3 (by omega) (by omega) (by omega) (by omega)) hn hg hx
        have hR3 := hR.below bel3 (by omega) (by omega)
        have hg2 := Good.next (f := false) hg x k
        obtain ⟨er, her⟩ : ∃ e, e = M.mayv (8 * n) h t x k := ⟨_, rfl⟩
        obtain ⟨B2, hB2⟩ : ∃ e, e = M.nB false (8 * n) B h t x k := ⟨_, rfl⟩
        obtain ⟨h2, hh2⟩ : ∃ e, e = M.nh false (8 * n) h t x k := ⟨_, rfl⟩
        obtain ⟨t2, ht2⟩ : ∃ e, e = M.nt false (8 * n) h t x k := ⟨_, rfl⟩
        rw [← her, ← hB2, ← hh2, ← ht2] at hF
        rw [← hB2, ← hh2, ← ht2] at hg2
        have hP := fun (w4 : World) (q : Ref w4 r rd n B h t) => Put_any r rd n h t x k false B w4 q hn hg.1 hx
        rw [← her, ← hB2, ← hh2, ← ht2] at hP
        clear her hB2 hh2 ht2
        obtain ⟨str, hstr⟩ : ∃ e, e = strOfNums ((bytesL n B2).map fun x : Nat => (x : Int)) := ⟨_, rfl⟩
        have s3 : (wr.alloc (.cells #[.bool true, .int .u32 x, .int .i64 k] 33)).heap.size = wr.heap.size + 1 := World.size_alloc _ _
        go_wp2_with (go_at_call 10; refine hF.mono ?_; rintro e w4 ⟨rfl, bt4, ho4⟩
                     have s4 := bt4.size; rw [s3] at s4
                     have hblk4 := bt4.blk hblk (by omega) (by omega)
                     have hR4 := hR3.but bt4 (by omega) (by omega) (by omega) (by omega)
                     have kq4 : w4.cell? ⟨wr.heap.size, 0, none⟩ = some (.bool true) ∧ w4.cell? ⟨wr.heap.size, 1, none⟩ = some (.int .u32 x) ∧ w4.cell? ⟨wr.heap.size, 2, none⟩ = some (.int .i64 k) := ⟨hblk4.cell rfl, hblk4.cell rfl, hblk4.cell rfl⟩)
        obtain ⟨kc0, kc1, kc2⟩ := kq4
        go_region_with
          (first
            | (go_at_call 12; refine (hP _ (by exact hR4)).mono ?_; rintro e w5 ⟨rfl, bt5', hR5⟩
               have bt5 : But r rd w4 w5 := ⟨bt5'.os, bt5'.tape, bt5'.output, bt5'.size, bt5'.block⟩
               have s5 : w4.heap.size ≤ w5.heap.size := bt5.size
               have hblk5 : Blk w5 wr.heap.size _ _ := bt5.blk hblk4 (by omega) (by omega)
               have ho5 := ho4.but bt5 (by omega) (by omega)
               have kq5 : w5.cell? ⟨wr.heap.size, 0, none⟩ = some (.bool true) ∧ w5.cell? ⟨wr.heap.size, 1, none⟩ = some (.int .u32 x) ∧ w5.cell? ⟨wr.heap.size, 2, none⟩ = some (.int .i64 k) := ⟨hblk5.cell rfl, hblk5.cell rfl, hblk5.cell rfl⟩)
            | (go_at_call 13; refine (LeftP p b c d n _ _ B2 _ (by exact ho5) hn hg2.1).mono ?_; rintro e w' ⟨rfl, m1, rfl⟩)
            | (go_at_call 14; refine (RLeft r rd n _ _ B2 _ (by exact hR5) hn hg2.1).mono ?_; rintro e w' ⟨rfl, m2, rfl⟩)
            | (go_at_call 15; refine (BytesP p b c d n _ _ B2 _ (by exact ho5) hn).mono ?_; rintro e w6 ⟨a6, cap6, rfl, hown6, bel6'⟩
               have bel6 : Below w5.heap.size w5 w6 := ⟨bel6'.os, bel6'.tape, bel6'.output, bel6'.size, bel6'.block⟩
               have s6 : w5.heap.size ≤ w6.heap.size := bel6.size
               have ho6 : Own 62 w6 p b c d n B2 h2 t2 := ho5.below bel6 (show p < w5.heap.size by omega) (show b < w5.heap.size by omega) (show c < w5.heap.size by omega) (show d < w5.heap.size by omega)
               have hR6 : Ref w6 r rd n B2 h2 t2 := hR5.below bel6 (show r < w5.heap.size by omega) (show rd < w5.heap.size by omega)
               have hblk6 : Blk w6 wr.heap.size _ _ := Below.blk bel6 hblk5 (show wr.heap.size < w5.heap.size by omega)
               have cv6 := conv_owns hown6
               rw [← hstr] at cv6
               have kq6 : w6.cell? ⟨wr.heap.size, 0, none⟩ = some (.bool true) ∧ w6.cell? ⟨wr.heap.size, 1, none⟩ = some (.int .u32 x) ∧ w6.cell? ⟨wr.heap.size, 2, none⟩ = some (.int .i64 k) := ⟨hblk6.cell rfl, hblk6.cell rfl, hblk6.cell rfl⟩)
            | (go_at_call 16; refine (RBytes r rd n _ _ B2 _ hR6 hn).mono ?_; rintro e w7 ⟨a7, cap7, rfl, hown7, bel7⟩
               have s7 : w6.heap.size ≤ w7.heap.size := bel7.size
               have hblk7 : Blk w7 wr.heap.size _ _ := Below.blk bel7 hblk6 (show wr.heap.size < w6.heap.size by omega)
               have ho7 := ho6.below bel7 (show p < w6.heap.size by omega) (show b < w6.heap.size by omega) (show c < w6.heap.size by omega) (show d < w6.heap.size by omega)
               have hR7 := hR6.below bel7 (show r < w6.heap.size by omega) (show rd < w6.heap.size by omega)
               have belz : Below w.heap.size w w7 := (((((belr.trans (Below.less bel3 sr)).trans (bt4.below (by omega) (by omega) (by rw [s3]; omega))).trans (bt5.below (by omega) (by omega) (by omega))).trans (Below.less bel6 (by omega))).trans (Below.less bel7 (by omega)))
               have cv7 := conv_owns hown7
               have cv67 := conv_owns (owns_below hown6 bel7 (Nat.le_refl _))
               rw [← hstr] at cv7 cv67
               have kq7 : w7.cell? ⟨wr.heap.size, 0, none⟩ = some (.bool true) ∧ w7.cell? ⟨wr.heap.size, 1, none⟩ = some (.int .u32 x) ∧ w7.cell? ⟨wr.heap.size, 2, none⟩ = some (.int .i64 k) := ⟨hblk7.cell rfl, hblk7.cell rfl, hblk7.cell rfl⟩))
        all_goals (
          go_wp2
          go_roundw
          case rel => exact ⟨j + 1, B2, h2, t2, by omega, by go_num, belz, ho7, hg2, hR7, by omega⟩
          case measure => simp [intOf]; omega)
    · obtain rfl : j = zs.length := by omega
      go_wp2
      go_ret
      exact ⟨rfl, belr⟩

set_option maxRecDepth 100000 in
theorem BitsWrite_walk (n : Int) (v : Value) (zs : List Act) (w : World) (hA : Acts w v zs) :
    Calls Try.prog 3 #[.int .i64 n, v] w fun e w' => e = .returned (.bool true) ∧ Below w.heap.size w w' := by
  by_cases hl : zs.length ≤ 100
  · rcases (by omega : n < 0 ∨ 512 < n ∨ (0 ≤ n ∧ n ≤ 512)) with h | h | ⟨h0, h1⟩
    · obtain ⟨a, cp, rfl, _⟩ := hA
      have l1 : ¬ (100 : Int) < (zs.length : Int) := by omega
      go_enter Try.func3, Try.ntmps3
      go_wp2_with (first
        | (go_at_call 7; refine (alive_any _).mono ?_; rintro e wa ⟨rfl, bela⟩)
        | (go_at_call 8; refine (New_lo n _ h).mono ?_; rintro e w1 ⟨rfl, hw⟩; rw [hw]; clear hw w1)
        | (go_at_call 9; refine (RNew_lo n _ h).mono ?_; rintro e w1 ⟨rfl, hw⟩; rw [hw]; clear hw w1))
      go_loopw [9] (fun i wr => i = .int .i64 0 ∧ wr = wa) (fun _ _ => 0)
      case atStart => exact ⟨rfl, rfl⟩
      case round =>
        obtain ⟨rfl, rfl⟩ := hrel
        rcases Nat.eq_zero_or_pos zs.length with hz | hz
        · rw [hz]
          go_wp2
          go_ret
          exact ⟨rfl, bela⟩
        · have i2 : (0 : Int) < (zs.length : Int) := by omega
          go_wp2
          go_ret
          exact ⟨rfl, bela⟩
    · obtain ⟨a, cp, rfl, _⟩ := hA
      have l1 : ¬ (100 : Int) < (zs.length : Int) := by omega
      go_enter Try.func3, Try.ntmps3
      go_wp2_with (first
        | (go_at_call 7; refine (alive_any _).mono ?_; rintro e wa ⟨rfl, bela⟩)
        | (go_at_call 8; refine (New_hi n _ h).mono ?_; rintro e w1 ⟨rfl, hw⟩; rw [hw]; clear hw w1)
        | (go_at_call 9; refine (RNew_hi n _ h).mono ?_; rintro e w1 ⟨rfl, hw⟩; rw [hw]; clear hw w1))
      go_loopw [9] (fun i wr => i = .int .i64 0 ∧ wr = wa) (fun _ _ => 0)
      case atStart => exact ⟨rfl, rfl⟩
      case round =>
        obtain ⟨rfl, rfl⟩ := hrel
        rcases Nat.eq_zero_or_pos zs.length with hz | hz
        · rw [hz]
          go_wp2
          go_ret
          exact ⟨rfl, bela⟩
        · have i2 : (0 : Int) < (zs.length : Int) := by omega
          go_wp2
          go_ret
          exact ⟨rfl, bela⟩
    · obtain ⟨m, rfl⟩ := Int.eq_ofNat_of_zero_le h0
      exact write_main m v zs w hA (by omega) hl
  · obtain ⟨a, cp, rfl, _⟩ := hA
    have l1 : (100 : Int) < (zs.length : Int) := by omega
    go_enter Try.func3, Try.ntmps3
    go_wp2_with (go_at_call 7; refine (alive_any _).mono ?_; rintro e wa ⟨rfl, bela⟩)
    go_ret
    exact ⟨rfl, bela⟩

end Bits
end Go.Proofs.Ytafjepneekomiaa
