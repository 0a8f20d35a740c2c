/-
  New lappers and unlappers. Conditions: the polynomial's numbers stand as their initialiser lays them; one goroutine.
-/
import Derived.Test.YtjfhlaahgfdmnaaDoorLapdWindow
namespace Go.Proofs.YtjfhlaahgfdmnaaDoor
set_option linter.unusedVariables false
open Go.RowKit
namespace Lapd
open Bank (Blk But)
open Poly (Reads enc enc_get enc_length enc_rep fit16 fit32 Fill make16 make32 reads_blk reads_own cell_keep below_but below_drewN below_drew alloc_size zeros16 zeros32)

theorem tabl_cn (n : Nat) : M.tabl 0 (8 * n) = enc .i16 (M.cn n) := by
  unfold M.tabl enc M.cn
  rw [List.map_map]
  rfl
/-- the numbers that hang on a length -/
def Lens (n N2 Nh N4 N8 : Nat) : Prop := (n = 40 ∧ N2 = 80 ∧ Nh = 20 ∧ N4 = 10 ∧ N8 = 320) ∨ (n = 60 ∧ N2 = 120 ∧ Nh = 30 ∧ N4 = 15 ∧ N8 = 480) ∨ (n = 80 ∧ N2 = 160 ∧ Nh = 40 ∧ N4 = 20 ∧ N8 = 640) ∨ (n = 120 ∧ N2 = 240 ∧ Nh = 60 ∧ N4 = 30 ∧ N8 = 960)

/-- a cell of a block that is no table and no bank turns no bank -/
theorem bank_set {b N c : Nat} {D : List (Nat × Nat)} {t : Int} {w : World} {cur : Array Value} {ty : TypeId} (h : Bank.Bank b D t N w) (hc : Blk w c cur ty) (h1 : ty ≠ 56) (h2 : ty ≠ 79) (o : Nat) (v : Value) : Bank.Bank b D t N (w.setCell ⟨c, o, none⟩ v) := by
  obtain ⟨k1, k2, cb, k3, k4, k5, k6, k7⟩ := h
  have nb : b ≠ c := k3.ne hc (fun e => h2 e.symm)
  refine ⟨k1, by simpa [World.setCell] using k2, cb, k3.set_ne nb _, k4, k5, k6, fun κ n hok => ⟨(k7 κ n hok).1, fun hd => ?_⟩⟩
  obtain ⟨r1, g, r2, r3, r4, r5⟩ := (k7 κ n hok).2 hd
  exact ⟨r1, g, r2, r3, r4, r5.set_ne (r5.ne hc (fun e => h1 e.symm)) _⟩
theorem three {w : World} {c : Nat} {ty : TypeId} (h : Blk w c #[.int .i64 0, .slice none 0 0, .slice none 0 0] ty) (x y z : Value) :
    Blk (((w.setCell ⟨c, 0, none⟩ x).setCell ⟨c, 1, none⟩ y).setCell ⟨c, 2, none⟩ z) c #[x, y, z] ty := by
  have := ((h.set 0 x).set 1 y).set 2 z
  simpa using this
theorem Reads.set_ne {k : IntKind} {lo hi c o : Nat} {w : World} {v u : Value} {zs : List Int} (h : Reads k lo hi w v zs) (hc : c < lo ∨ hi ≤ c) : Reads k lo hi (w.setCell ⟨c, o, none⟩ u) v zs :=
  Poly.Reads.keep h fun b h0 h1 => Below.heap_setCell _ _ _ _ (by show b ≠ c; omega)

set_option maxRecDepth 100000 in
set_option maxHeartbeats 1000000 in
theorem ask_ok (n N2 Nh N4 N8 b N : Nat) (D : List (Nat × Nat)) (t : Int) (w : World) (hn : Lens n N2 Nh N4 N8) (hT : Wave.Tab w) (hB : Bank.Bank b D t N w) (hD : D.length ≤ 900) (t0 : 0 ≤ t) (t1 : t ≤ 900) :
    Calls Tryd.prog 29 #[.pointer (some ⟨b, 0, none⟩), .int .i64 n] w fun e w' => ∃ wa wc ta tc, e = .returned (.tuple #[.agg #[.int .i64 n, .slice wa N2 wc, .slice ta N8 tc], .int .i64 0]) ∧
      Reads .i16 w.heap.size w'.heap.size w' (.slice wa N2 wc) (M.wns n) ∧ Reads .i16 w.heap.size w'.heap.size w' (.slice ta N8 tc) (M.cn n) ∧ (∃ X, Bank.Bank b (Bank.ins (Bank.ins D 1 Nh) 0 N8) (t + 2) X w') ∧ But b w w' := by
  unfold Lens at hn
  have hbw : b < w.heap.size := by have := hB.1; have := hB.2.1; omega
  have nT : 0 ≠ b := by
    obtain ⟨_, _, cur, h3, h4, _⟩ := hB
    exact Bank.tab_ne hT h3 (by omega)
  have hwin : ∀ w1, Below w.heap.size w w1 → Calls Tryd.prog 8 #[.pointer (some ⟨b, 0, none⟩), .int .i64 n] w1 fun e w2 => ∃ g, e = .returned (.tuple #[.slice (some ⟨g, 0, none⟩) N2 N2, .int .i64 0]) ∧ w.heap.size < w2.heap.size ∧ But b w1 w2 ∧
      Calls Tryd.prog 43 #[.pointer (some ⟨b, 0, none⟩), .int .i64 N8] w2 fun e w3 => ∃ ta tc, e = .returned (.tuple #[.slice ta N8 tc, .int .i64 0]) ∧ But b w1 w3 ∧
        Reads .i16 w1.heap.size w3.heap.size w3 (.slice (some ⟨g, 0, none⟩) N2 N2) (M.wns n) ∧ Reads .i16 w1.heap.size w3.heap.size w3 (.slice ta N8 tc) (M.cn n) ∧ ∃ X, Bank.Bank b (Bank.ins (Bank.ins D 1 Nh) 0 N8) (t + 2) X w3 := by
    intro w1 bel
    have s1 := bel.size
    refine (Window_ok n N2 Nh N4 b N D t w1 (by omega) (Bank.tab_below bel (Nat.le_refl _) hT) (hB.below bel hB.2.1) (by omega) t0 (by omega)).mono ?_
    rintro e w2 ⟨g, rfl, hg, hr, hs, ⟨X, hX⟩, bt⟩
    refine ⟨g, rfl, by omega, bt, ?_⟩
    have hl : (Bank.ins D 1 Nh).length ≤ D.length + 1 := by unfold Bank.ins; split <;> simp
    refine (Bank.turn_ok N8 b (Bank.ins D 1 Nh) (t + 1) X w2 (.inl ⟨rfl, by omega, by omega, by omega⟩) (bt.tab (Bank.tab_below bel (Nat.le_refl _) hT) nT) hX (by omega) (by omega) (by omega)).mono ?_
    rintro e w3 ⟨v, rfl, X2, k1, k2, k3, k4⟩
    have e2 : M.ts 0 N8 = (M.cn n).length := by rw [M.cn_length]; show N8 = 8 * n; omega
    have hM : N8 = 8 * n := by omega
    rw [e2, hM, tabl_cn] at k1
    have s3 := k4.size
    have hr2 := (reads_own k1 (fit16.2 (M.cn_fits (by omega)))).mono (lo' := w1.heap.size) (by omega) (Nat.le_refl _)
    obtain ⟨ta, tc, rfl⟩ := hr2.form
    rw [M.cn_length, ← hM] at hr2 ⊢
    refine ⟨ta, tc, rfl, bt.trans k4, (hr.but k4 (by omega) (.inl (by omega))).mono (by omega) (by omega), hr2, X2, ?_⟩
    rw [show t + 2 = t + 1 + 1 from by omega, hM]
    exact hM ▸ k3
  have HW : Hid _ := hwin
  have i8 : 8 * (n : Int) = (N8 : Int) := by omega
  have b1 : (n : Int) ≤ 120 := by omega
  have b0 : (1 : Int) ≤ n := by omega
  clear hwin hT hB hn nT
  have hB0 := Blk.new w #[.int .i64 0, .slice none 0 0, .slice none 0 0] 81
  have bel0 : Below w.heap.size w (w.alloc (.cells #[.int .i64 0, .slice none 0 0, .slice none 0 0] 81)) := (Below.refl _ _).alloc (Nat.le_refl _) _
  have HB0 : Hid (Blk _ _ _ _) := hB0
  have hw1 := HW.out _ bel0
  have HL0 : Hid (Below _ _ _) := bel0
  clear hB0 bel0 HW
  go_enter Tryd.func29, Tryd.ntmps29
  go_wp2_with (first
    | (go_at_call 8; refine hw1.mono ?_; clear hw1; rintro e w2 ⟨g, rfl, hs2, bt2, ht⟩; clear bt2)
    | (go_at_call 43; refine ht.mono ?_; clear ht; rintro e w3 ⟨ta, tc, rfl, bt3, hr1, hr2, hX⟩; have h3 := bt3.blk HB0.out (by omega); have c0 := h3.cell (o := 0) rfl; have c1 := h3.cell (o := 1) rfl; have c2 := h3.cell (o := 2) rfl; have f0 := h3.free 0; have f1 := h3.free 1; have f2 := h3.free 2; have HB3 : Hid (Blk _ _ _ _) := h3; have HX : Hid _ := hX; have H1 : Hid (Reads _ _ _ _ _ _) := hr1; have H2 : Hid (Reads _ _ _ _ _ _) := hr2; have HBt : Hid (But _ _ _) := bt3; clear hX hr1 hr2 bt3 h3))
  have hfin : ∃ W, W = ((w3.setCell ⟨w.heap.size, 0, none⟩ (.int .i64 (n : Int))).setCell ⟨w.heap.size, 1, none⟩ (.slice (some ⟨g, 0, none⟩) N2 N2)).setCell ⟨w.heap.size, 2, none⟩ (.slice ta N8 tc) := ⟨_, rfl⟩
  obtain ⟨W, hW⟩ := hfin
  have hblk := three HB3.out (.int .i64 (n : Int)) (.slice (some ⟨g, 0, none⟩) N2 N2) (.slice ta N8 tc)
  have hr1 := Reads.set_ne (c := w.heap.size) (o := 2) (u := .slice ta N8 tc) (Reads.set_ne (c := w.heap.size) (o := 1) (u := .slice (some ⟨g, 0, none⟩) N2 N2) (Reads.set_ne (c := w.heap.size) (o := 0) (u := .int .i64 (n : Int)) H1.out (.inl (by rw [alloc_size]; omega))) (.inl (by rw [alloc_size]; omega))) (.inl (by rw [alloc_size]; omega))
  have hr2 := Reads.set_ne (c := w.heap.size) (o := 2) (u := .slice ta N8 tc) (Reads.set_ne (c := w.heap.size) (o := 1) (u := .slice (some ⟨g, 0, none⟩) N2 N2) (Reads.set_ne (c := w.heap.size) (o := 0) (u := .int .i64 (n : Int)) H2.out (.inl (by rw [alloc_size]; omega))) (.inl (by rw [alloc_size]; omega))) (.inl (by rw [alloc_size]; omega))
  have hbk : ∃ X, Bank.Bank b (Bank.ins (Bank.ins D 1 Nh) 0 N8) (t + 2) X W := by
    obtain ⟨X, hX⟩ := HX.out
    have k0 := bank_set hX HB3.out (by decide) (by decide) 0 (.int .i64 (n : Int))
    have k1 := bank_set k0 (HB3.out.set _ _) (by decide) (by decide) 1 (.slice (some ⟨g, 0, none⟩) N2 N2)
    have k2 := bank_set k1 ((HB3.out.set _ _).set _ _) (by decide) (by decide) 2 (.slice ta N8 tc)
    exact ⟨X, by rw [hW]; exact k2⟩
  have hbt : But b w W := by
    rw [hW]
    have h0 := (Bank.But.of_below HL0.out (Nat.le_refl _)).trans HBt.out
    exact ((h0.set (.inr (Nat.le_refl _)) _).set (.inr (Nat.le_refl _)) _).set (.inr (Nat.le_refl _)) _
  have hsz : W.heap.size = w3.heap.size := by rw [hW]; simp [World.setCell]
  have s0 : w.heap.size ≤ (w.alloc (.cells #[.int .i64 0, .slice none 0 0, .slice none 0 0] 81)).heap.size := by rw [alloc_size]; omega
  rw [← hW] at hblk hr1 hr2 ⊢
  rw [← hsz] at hr1 hr2
  have d0 := hblk.cell (o := 0) rfl
  have d1 := hblk.cell (o := 1) rfl
  have d2 := hblk.cell (o := 2) rfl
  clear hW
  refine bodyPost_ret (v := .tuple #[.agg #[.int .i64 (n : Int), .slice (some ⟨g, 0, none⟩) N2 N2, .slice ta N8 tc], .int .i64 0]) (by simp [results, Tryd.results29, go_sem, d0, d1, d2]) rfl ?_
  exact ⟨_, _, _, _, rfl, hr1.mono s0 (Nat.le_refl _), hr2.mono s0 (Nat.le_refl _), hbk, hbt⟩

theorem ask_err (n : Int) (v : Value) (w : World) (h : ¬ (n = 40 ∨ n = 60 ∨ n = 80 ∨ n = 120)) :
    Calls Tryd.prog 29 #[v, .int .i64 n] w fun e w' => e = .returned (.tuple #[.agg #[.int .i64 0, .slice none 0 0, .slice none 0 0], .int .i64 1]) ∧ Below w.heap.size w w' := by
  have hB0 := Blk.new w #[.int .i64 0, .slice none 0 0, .slice none 0 0] 81
  have bel0 : Below w.heap.size w (w.alloc (.cells #[.int .i64 0, .slice none 0 0, .slice none 0 0] 81)) := (Below.refl _ _).alloc (Nat.le_refl _) _
  have hw1 := Window_err n v (w.alloc (.cells #[.int .i64 0, .slice none 0 0, .slice none 0 0] 81)) h
  have HB0 : Hid (Blk _ _ _ _) := hB0
  have HL0 : Hid (Below _ _ _) := bel0
  have HH : Hid (¬ (n = 40 ∨ n = 60 ∨ n = 80 ∨ n = 120)) := h
  clear hB0 bel0 h
  go_enter Tryd.func29, Tryd.ntmps29
  go_wp2_with (go_at_call 8; refine hw1.mono ?_; clear hw1; rintro e w2 ⟨rfl, bel2⟩; have h3 : Blk w2 w.heap.size #[.int .i64 0, .slice none 0 0, .slice none 0 0] 81 := (bel2.block _ (by rw [alloc_size]; omega)).trans HB0.out; have c0 := h3.cell (o := 0) rfl; have c1 := h3.cell (o := 1) rfl; have c2 := h3.cell (o := 2) rfl; have f0 := h3.free 0; have f1 := h3.free 1; have f2 := h3.free 2; have HB3 : Hid (Blk _ _ _ _) := h3; have HB2 : Hid (Below _ _ _) := bel2; clear h3 bel2)
  have hfin : ∃ W, W = ((w2.setCell ⟨w.heap.size, 0, none⟩ (.int .i64 0)).setCell ⟨w.heap.size, 1, none⟩ (.slice none 0 0)).setCell ⟨w.heap.size, 2, none⟩ (.slice none 0 0) := ⟨_, rfl⟩
  obtain ⟨W, hW⟩ := hfin
  have hblk := three HB3.out (.int .i64 0) (.slice none 0 0) (.slice none 0 0)
  have hbel : Below w.heap.size w W := by
    rw [hW]
    have h0 := HL0.out.trans (HB2.out.mono (by rw [alloc_size]; omega))
    exact ((h0.setCell (Nat.le_refl _) _).setCell (Nat.le_refl _) _).setCell (Nat.le_refl _) _
  rw [← hW] at hblk ⊢
  have d0 := hblk.cell (o := 0) rfl
  have d1 := hblk.cell (o := 1) rfl
  have d2 := hblk.cell (o := 2) rfl
  clear hW
  refine bodyPost_ret (v := .tuple #[.agg #[.int .i64 0, .slice none 0 0, .slice none 0 0], .int .i64 1]) (by simp [results, Tryd.results29, go_sem, d0, d1, d2]) rfl ?_
  exact ⟨rfl, hbel⟩

/-- what a lapper and an unlapper have: n the length, xs its numbers, in block gl; its tables in blocks from lo on -/
def Ob (k : IntKind) (te ty : TypeId) (lo gl n : Nat) (xs : List Int) (w : World) : Prop :=
  lo ≤ gl ∧ gl + 2 ≤ w.heap.size ∧ Blk w gl (enc k xs).toArray te ∧ xs.length = n ∧ (∀ z ∈ xs, (Lit.int k z).wf = true) ∧
    ∃ wa wc ta tc, Blk w (gl + 1) #[.int .i64 n, .slice wa (2 * n) wc, .slice ta (8 * n) tc, .slice (some ⟨gl, 0, none⟩) n n] ty ∧ Reads .i16 lo gl w (.slice wa (2 * n) wc) (M.wns n) ∧ Reads .i16 lo gl w (.slice ta (8 * n) tc) (M.cn n)
section
variable {k : IntKind} {te ty : TypeId} {lo gl n : Nat} {xs : List Int} {w w' : World}
theorem Ob.keep (h : Ob k te ty lo gl n xs w) (hs : w.heap.size ≤ w'.heap.size) (hk : ∀ b, lo ≤ b → b < gl + 2 → w'.heap[b]? = w.heap[b]?) : Ob k te ty lo gl n xs w' := by
  obtain ⟨h0, h1, h2, h3, h4, wa, wc, ta, tc, h5, h6, h7⟩ := h
  exact ⟨h0, by omega, (hk gl (by omega) (by omega)).trans h2, h3, h4, wa, wc, ta, tc, (hk (gl + 1) (by omega) (by omega)).trans h5, h6.keep fun b k0 k1 => hk b k0 (by omega), h7.keep fun b k0 k1 => hk b k0 (by omega)⟩
theorem Ob.but {g : Nat} (h : Ob k te ty lo gl n xs w) (hb : But g w w') (hg : g < lo ∨ gl + 2 ≤ g) : Ob k te ty lo gl n xs w' :=
  h.keep hb.size fun b h0 h1 => hb.block b (by have := h.2.1; omega) (by omega)
theorem Ob.below {B : Nat} (h : Ob k te ty lo gl n xs w) (hb : Below B w w') (hg : gl + 2 ≤ B) : Ob k te ty lo gl n xs w' :=
  h.keep hb.size fun b h0 h1 => hb.block b (by omega)
theorem Ob.drewN (h : Ob k te ty lo gl n xs w) (m : Nat) : Ob k te ty lo gl n xs (w.drewN m) := h
theorem Ob.drew (h : Ob k te ty lo gl n xs w) : Ob k te ty lo gl n xs w.drew := h
theorem Ob.mono {lo' : Nat} (h : Ob k te ty lo gl n xs w) (hl : lo' ≤ lo) : Ob k te ty lo' gl n xs w := by
  obtain ⟨h0, h1, h2, h3, h4, wa, wc, ta, tc, h5, h6, h7⟩ := h
  exact ⟨by omega, h1, h2, h3, h4, wa, wc, ta, tc, h5, h6.mono hl (Nat.le_refl _), h7.mono hl (Nat.le_refl _)⟩
/-- its numbers have turned, and nothing else of it -/
theorem Ob.relay {ys : List Int} (h : Ob k te ty lo gl n xs w) (hb : But gl w w') (hy : Blk w' gl (enc k ys).toArray te) (hl : ys.length = n) (hf : ∀ z ∈ ys, (Lit.int k z).wf = true) : Ob k te ty lo gl n ys w' := by
  obtain ⟨h0, h1, h2, h3, h4, wa, wc, ta, tc, h5, h6, h7⟩ := h
  have hs := hb.size
  exact ⟨h0, by omega, hy, hl, hf, wa, wc, ta, tc, hb.blk h5 (by omega), h6.but hb (by omega) (.inr (Nat.le_refl _)), h7.but hb (by omega) (.inr (Nat.le_refl _))⟩
end
abbrev Lap (lo gl n : Nat) (xs : List Int) (w : World) : Prop := Ob .i16 56 85 lo gl n xs w
abbrev Unl (lo gl n : Nat) (xs : List Int) (w : World) : Prop := Ob .i32 21 87 lo gl n xs w

/-- a box, a list and an object are made -/
theorem three_new {b B lo : Nat} {w0 w1 : World} {k : IntKind} {te ty tb : TypeId} {n N2 N8 m : Nat} {wa ta : Option Addr} {wc tc : Nat} (box : Array Value) (e2 : 2 * n = N2) (e8 : 8 * n = N8) (hB : B = w1.heap.size + 1)
    (h1 : Reads .i16 lo w1.heap.size w1 (.slice wa N2 wc) (M.wns n)) (h2 : Reads .i16 lo w1.heap.size w1 (.slice ta N8 tc) (M.cn n)) (hz : ∀ z ∈ List.replicate n (0 : Int), (Lit.int k z).wf = true) (hlo : lo ≤ w1.heap.size) (hbt : But b w0 w1) {W : World}
    (hW : W = (((w1.alloc (.cells box tb)).drewN m).alloc (.cells (enc k (List.replicate n 0)).toArray te)).alloc (.cells #[.int .i64 n, .slice wa N2 wc, .slice ta N8 tc, .slice (some ⟨B, 0, none⟩) n n] ty)) :
    Ob k te ty lo B n (List.replicate n 0) W ∧ W.heap.size = B + 2 ∧ But b w0 W ∧ Below w1.heap.size w1 W := by
  subst hB
  have bel1 : Below w1.heap.size w1 (w1.alloc (.cells box tb)) := (Below.refl _ _).alloc (Nat.le_refl _) _
  have bel2 : Below w1.heap.size w1 (((w1.alloc (.cells box tb)).drewN m).alloc (.cells (enc k (List.replicate n 0)).toArray te)) := (below_drewN bel1 m).alloc (by show w1.heap.size ≤ (w1.alloc (.cells box tb)).heap.size; rw [alloc_size]; omega) _
  have bel3 : Below w1.heap.size w1 W := by rw [hW]; exact bel2.alloc bel2.size _
  have hb2 := Blk.new ((w1.alloc (.cells box tb)).drewN m) (enc k (List.replicate n 0)).toArray te
  have hb3 := Blk.new (((w1.alloc (.cells box tb)).drewN m).alloc (.cells (enc k (List.replicate n 0)).toArray te)) #[.int .i64 n, .slice wa N2 wc, .slice ta N8 tc, .slice (some ⟨w1.heap.size + 1, 0, none⟩) n n] ty
  have hs2 : ((w1.alloc (.cells box tb)).drewN m).heap.size = w1.heap.size + 1 := alloc_size _ _
  rw [alloc_size, hs2] at hb3
  rw [hs2] at hb2
  have hsz : W.heap.size = w1.heap.size + 1 + 2 := by rw [hW, alloc_size, alloc_size, hs2]
  have hb4 := hb2.alloc (.cells #[.int .i64 n, .slice wa N2 wc, .slice ta N8 tc, .slice (some ⟨w1.heap.size + 1, 0, none⟩) n n] ty)
  rw [← hW] at hb3 hb4
  refine ⟨⟨by omega, by omega, hb4, by simp, hz, wa, wc, ta, tc, ?_, ?_, ?_⟩, hsz, Poly.But.below' hbt bel3 hbt.size, bel3⟩
  · rw [e2, e8]; exact hb3
  · rw [e2]; exact (Poly.Reads.below h1 bel3 (Nat.le_refl _)).mono (Nat.le_refl _) (by omega)
  · rw [e8]; exact (Poly.Reads.below h2 bel3 (Nat.le_refl _)).mono (Nat.le_refl _) (by omega)

set_option maxRecDepth 100000 in
set_option maxHeartbeats 1000000 in
theorem newLapper_ok (n N2 Nh N4 N8 b N : Nat) (D : List (Nat × Nat)) (t : Int) (w : World) (hn : Lens n N2 Nh N4 N8) (hT : Wave.Tab w) (hB : Bank.Bank b D t N w) (hD : D.length ≤ 900) (t0 : 0 ≤ t) (t1 : t ≤ 900) :
    Calls Tryd.prog 10 #[.pointer (some ⟨b, 0, none⟩), .int .i64 n] w fun e w' => ∃ gl, e = .returned (.tuple #[.pointer (some ⟨gl + 1, 0, none⟩), .int .i64 0]) ∧
      Lap w.heap.size gl n (List.replicate n 0) w' ∧ w'.heap.size = gl + 2 ∧ (∃ X, Bank.Bank b (Bank.ins (Bank.ins D 1 Nh) 0 N8) (t + 2) X w') ∧ But b w w' := by
  have hask := ask_ok n N2 Nh N4 N8 b N D t w hn hT hB hD t0 t1
  unfold Lens at hn
  have hmk : ∀ wx : World, (Instr.makeSlice 23 (.int .i64 n) (.int .i64 n)).run Tryd.prog wx = .ok (.slice (some ⟨wx.heap.size, 0, none⟩) n n) (wx.alloc (.cells (enc .i16 (List.replicate n 0)).toArray 56)) := fun wx => make16 wx n (by omega)
  have e2 : Hid (2 * n = N2) := by show 2 * n = N2; omega
  have e8 : Hid (8 * n = N8) := by show 8 * n = N8; omega
  have b1 : (n : Int) ≤ 120 := by omega
  clear hn hT hB
  have HZ : Hid (∀ z ∈ List.replicate n (0 : Int), (Lit.int .i16 z).wf = true) := fit16.2 (zeros16 n)
  obtain ⟨cs, hcs⟩ : ∃ cs, (enc .i16 (List.replicate n 0)).toArray = cs := ⟨_, rfl⟩
  rw [hcs] at hmk
  have HCs : Hid (_ = cs) := hcs
  clear hcs
  go_enter Tryd.func10, Tryd.ntmps10
  go_wp2_with (go_at_call 29; refine hask.mono ?_; clear hask; rintro e w1 ⟨wa, wc, ta, tc, rfl, hr1, hr2, hX, bt⟩; have H1 : Hid (Reads _ _ _ _ _ _) := hr1; have H2 : Hid (Reads _ _ _ _ _ _) := hr2; have HX : Hid _ := hX; have HBt : Hid (But _ _ _) := bt; clear hr1 hr2 hX bt)
  go_region
  all_goals
    go_wp2
    go_ret2
    have hcs := HCs.out
    subst hcs
    obtain ⟨q1, q2, q3, q4⟩ := three_new (m := 1) (tb := 81) (te := 56) (ty := 85) #[.int .i64 n, .slice wa N2 wc, .slice ta N8 tc] e2.out e8.out rfl H1.out H2.out HZ.out (Bank.But.size HBt.out) HBt.out rfl
    obtain ⟨X, hX⟩ := HX.out
    exact ⟨w1.heap.size + 1, rfl, q1, q2, ⟨X, hX.below q4 hX.2.1⟩, q3⟩

theorem newLapper_err (n : Int) (v : Value) (w : World) (h : ¬ (n = 40 ∨ n = 60 ∨ n = 80 ∨ n = 120)) :
    Calls Tryd.prog 10 #[v, .int .i64 n] w fun e w' => e = .returned (.tuple #[.pointer none, .int .i64 1]) ∧ Below w.heap.size w w' := by
  have hask := ask_err n v w h
  clear h
  go_enter Tryd.func10, Tryd.ntmps10
  go_wp2_with (go_at_call 29; refine hask.mono ?_; clear hask; rintro e w1 ⟨rfl, bel⟩)
  go_ret2
  exact ⟨rfl, bel.alloc bel.size _⟩

set_option maxRecDepth 100000 in
set_option maxHeartbeats 1000000 in
theorem newUnlapper_ok (n N2 Nh N4 N8 b N : Nat) (D : List (Nat × Nat)) (t : Int) (w : World) (hn : Lens n N2 Nh N4 N8) (hT : Wave.Tab w) (hB : Bank.Bank b D t N w) (hD : D.length ≤ 900) (t0 : 0 ≤ t) (t1 : t ≤ 900) :
    Calls Tryd.prog 11 #[.pointer (some ⟨b, 0, none⟩), .int .i64 n] w fun e w' => ∃ gl, e = .returned (.tuple #[.pointer (some ⟨gl + 1, 0, none⟩), .int .i64 0]) ∧
      Unl w.heap.size gl n (List.replicate n 0) w' ∧ w'.heap.size = gl + 2 ∧ (∃ X, Bank.Bank b (Bank.ins (Bank.ins D 1 Nh) 0 N8) (t + 2) X w') ∧ But b w w' := by
  have hask := ask_ok n N2 Nh N4 N8 b N D t w hn hT hB hD t0 t1
  unfold Lens at hn
  have hmk : ∀ wx : World, (Instr.makeSlice 40 (.int .i64 n) (.int .i64 n)).run Tryd.prog wx = .ok (.slice (some ⟨wx.heap.size, 0, none⟩) n n) (wx.alloc (.cells (enc .i32 (List.replicate n 0)).toArray 21)) := fun wx => make32 wx n (by omega)
  have e2 : Hid (2 * n = N2) := by show 2 * n = N2; omega
  have e8 : Hid (8 * n = N8) := by show 8 * n = N8; omega
  have b1 : (n : Int) ≤ 120 := by omega
  clear hn hT hB
  have HZ : Hid (∀ z ∈ List.replicate n (0 : Int), (Lit.int .i32 z).wf = true) := fit32.2 (zeros32 n)
  obtain ⟨cs, hcs⟩ : ∃ cs, (enc .i32 (List.replicate n 0)).toArray = cs := ⟨_, rfl⟩
  rw [hcs] at hmk
  have HCs : Hid (_ = cs) := hcs
  clear hcs
  go_enter Tryd.func11, Tryd.ntmps11
  go_wp2_with (go_at_call 29; refine hask.mono ?_; clear hask; rintro e w1 ⟨wa, wc, ta, tc, rfl, hr1, hr2, hX, bt⟩; have H1 : Hid (Reads _ _ _ _ _ _) := hr1; have H2 : Hid (Reads _ _ _ _ _ _) := hr2; have HX : Hid _ := hX; have HBt : Hid (But _ _ _) := bt; clear hr1 hr2 hX bt)
  go_region
  all_goals
    go_wp2
    go_ret2
    have hcs := HCs.out
    subst hcs
    obtain ⟨q1, q2, q3, q4⟩ := three_new (m := 1) (tb := 81) (te := 21) (ty := 87) #[.int .i64 n, .slice wa N2 wc, .slice ta N8 tc] e2.out e8.out rfl H1.out H2.out HZ.out (Bank.But.size HBt.out) HBt.out rfl
    obtain ⟨X, hX⟩ := HX.out
    exact ⟨w1.heap.size + 1, rfl, q1, q2, ⟨X, hX.below q4 hX.2.1⟩, q3⟩

theorem newUnlapper_err (n : Int) (v : Value) (w : World) (h : ¬ (n = 40 ∨ n = 60 ∨ n = 80 ∨ n = 120)) :
    Calls Tryd.prog 11 #[v, .int .i64 n] w fun e w' => e = .returned (.tuple #[.pointer none, .int .i64 1]) ∧ Below w.heap.size w w' := by
  have hask := ask_err n v w h
  clear h
  go_enter Tryd.func11, Tryd.ntmps11
  go_wp2_with (go_at_call 29; refine hask.mono ?_; clear hask; rintro e w1 ⟨rfl, bel⟩)
  go_ret2
  exact ⟨rfl, bel.alloc bel.size _⟩

end Lapd
end Go.Proofs.YtjfhlaahgfdmnaaDoor
