import Derived.Test.YtcaifpjbjghhaaaGreatDoorSubP45
import Derived.Test.YtcaifpjbjghhaaaGreatDoorSubP29
import Derived.Test.YtcaifpjbjghhaaaGreatDoorSubP44
import Derived.Test.YtcaifpjbjghhaaaGreatDoorSubP20
import Derived.Test.YtcaifpjbjghhaaaGreatDoorSubP17
import Derived.Test.YtcaifpjbjghhaaaGreatDoorSubP28
import Derived.Test.YtcaifpjbjghhaaaGreatDoorSubP12
/-
  The law SubPlays: the samples of any planes, one behind the other. Conditions: the polynomial's numbers stand as their initialiser lays them; one goroutine.
-/
namespace Go.Proofs.YtcaifpjbjghhaaaGreatDoor
set_option linter.unusedVariables false
open Go.RowKit
namespace Sub
open Bank (Blk But)
open Poly (Reads cell_keep alloc_size Spl Joi enc)
open _root_.Go.Proofs.YtcaifpjbjghhaaaGreatDoor.Form (fv fc bel1 box_cells blk_below of_drew Says)

theorem info3 : (Tryz.prog.info? 24).map (fun i => (i.zero, i.size, i.bytes)) = some (some (.slice none 0 0), 1, 24) := by kernel_rfl

structure PlI (p l C B N q B4 : Nat) (f : M.Fmt) (lo g : Nat → Nat) (X : Nat → Nat → Nat → Int) (v u : Value) (W4 wr : World) : Prop where
  dec : Dec p l C B f lo g (fun c => M.lnR N B (X c) q) wr
  own : ∃ us, wr.ownsRow B4 24 1 u q us ∧ ∀ (i : Nat) (x : Value), us[i]? = some x → x = v
  lns : Lns g C W4 wr

theorem Dec.ext {p l C B : Nat} {f : M.Fmt} {lo g : Nat → Nat} {L L' : Nat → List Int} {w : World} (h : Dec p l C B f lo g L w) (e : ∀ c, c < C → L c = L' c) : Dec p l C B f lo g L' w :=
  ⟨h.obj, ⟨h.joi.top, fun c hc => by rw [← e c hc]; exact h.joi.obj c hc, h.joi.low, h.joi.ord⟩, h.lp⟩
theorem Lns.below_at {g : Nat → Nat} {C B : Nat} {a w w' : World} (h : Lns g C a w) (hb : Below B w w') (hB : a.heap.size ≤ B) : Lns g C a w' :=
  ⟨hb.os.trans h.os, hb.tape.trans h.tape, hb.output.trans h.output, Nat.le_trans h.size hb.size, fun k h0 h1 => (hb.block k (by omega)).trans (h.block k h0 h1)⟩
theorem own_lns {g : Nat → Nat} {C B4 n : Nat} {t : TypeId} {v : Value} {xs : List Value} {w w' : World} (h : w.ownsRow B4 t 1 v n xs) (hl : Lns g C w w') (hg : ∀ c, c < C → g c < B4) : w'.ownsRow B4 t 1 v n xs := by
  refine ⟨h.1, ?_⟩
  rcases h.2 with hn | ⟨k, cap, cur, rfl, hb, hk, rest⟩
  · exact .inl hn
  · exact .inr ⟨k, cap, cur, rfl, hb, (hl.block k (Array.getElem?_eq_some_iff.1 hk).1 fun c hc e => by have := hg c hc; omega).trans hk, rest⟩

set_option maxRecDepth 100000 in
set_option maxHeartbeats 1000000 in
theorem plays_far (f : M.Fmt) (v : Value) (N : Nat) (ln : Nat → Nat) (mn : Nat → Nat → Nat) (tm : Int) (w : World) (hT : Wave.Tab w ∧ Alloc.Tabs w) (h3 : L3 w.heap.size v N ln mn w) (hf : FarP N ln mn) :
    Calls Tryz.prog 6 #[fv f, v, .int .u8 tm] w fun e w' => e = .returned (.bool true) ∧ Below w.heap.size w w' := by
  have bel := bel1 w (.cells (fc f) 23)
  have hal := alive_any (w.alloc (.cells (fc f) 23)) (Bank.tab_below bel (Nat.le_refl _) hT.1) (hT.2.below bel (Nat.le_refl _))
  have HB : Hid (Below w.heap.size w _) := bel
  have hfp : ∀ wx, Below w.heap.size w wx → Calls Tryz.prog 12 #[v] wx fun e w' => e = .returned (.bool true) ∧ w' = wx := fun wx hb => (FarPlanes_any w.heap.size v N ln mn wx (h3.below hb (Nat.le_refl _))).mono fun e w' h => h.yes hf
  have HFp : Hid _ := hfp
  obtain ⟨va, vc, rfl⟩ := h3.form
  clear hT bel h3 hf hfp
  obtain ⟨c_, r_, h_, b_, k_, m_, j_, p_, l_, y_⟩ := f
  unfold fv
  dsimp only
  obtain ⟨W1, hW1⟩ : ∃ W1, w.alloc (.cells (fc ⟨c_, r_, h_, b_, k_, m_, j_, p_, l_, y_⟩) 23) = W1 := ⟨_, rfl⟩
  rw [hW1] at hal HB
  unfold fc at hW1
  dsimp only at hW1
  go_enter Tryz.func6, Tryz.ntmps6
  go_wp2_with (first
    | (go_at_call 11; refine hal.mono ?_; clear hal; rintro e w1 ⟨rfl, b1⟩; have B1 : Hid (Below w.heap.size w w1) := HB.out.trans (b1.mono HB.out.size); clear b1)
    | (go_at_call 12; refine (HFp.out _ B1.out).mono ?_; rintro e w2 ⟨rfl, rfl⟩))
  go_ret
  exact ⟨rfl, B1.out⟩

theorem not_farP {N : Nat} {ln : Nat → Nat} {mn : Nat → Nat → Nat} (h : ¬ FarP N ln mn) : N ≤ 65536 ∧ ∀ i, i < N → ln i ≤ 65536 ∧ ∀ j, j < ln i → mn i j ≤ 65536 := by
  refine ⟨Nat.le_of_not_lt fun h1 => h (.inl (by omega)), fun i hi => ⟨Nat.le_of_not_lt fun h1 => h (.inr ⟨i, hi, .inl (by omega)⟩), fun j hj => Nat.le_of_not_lt fun h1 => h (.inr ⟨i, hi, .inr ⟨j, hj, by omega⟩⟩)⟩⟩

set_option maxRecDepth 100000 in
set_option maxHeartbeats 2000000 in
theorem plays_none (f : M.Fmt) (v : Value) (N : Nat) (ln : Nat → Nat) (mn : Nat → Nat → Nat) (tm : Int) (w : World) (hT : Wave.Tab w ∧ Alloc.Tabs w) (h3 : L3 w.heap.size v N ln mn w) (hf : ¬ FarP N ln mn) (hn : ¬ M.okS f) :
    Calls Tryz.prog 6 #[fv f, v, .int .u8 tm] w fun e w' => e = .returned (.bool true) ∧ Below w.heap.size w w' := by
  have bel := bel1 w (.cells (fc f) 23)
  have hal := alive_any (w.alloc (.cells (fc f) 23)) (Bank.tab_below bel (Nat.le_refl _) hT.1) (hT.2.below bel (Nat.le_refl _))
  have HB : Hid (Below w.heap.size w _) := bel
  have hfp : ∀ wx, Below w.heap.size w wx → Calls Tryz.prog 12 #[v] wx fun e w' => e = .returned (.bool false) ∧ w' = wx := fun wx hb => (FarPlanes_any w.heap.size v N ln mn wx (h3.below hb (Nat.le_refl _))).mono fun e w' h => h.no hf
  have HFp : Hid _ := hfp
  have hnw := fun wx => Bank.new_any wx
  have HNw : Hid (∀ wx, Calls _ _ _ wx _) := hnw
  have hne := fun b wx => NewDecoder_no (.pointer (some ⟨b, 0, none⟩)) ⟨_, rfl⟩ f 110 (by decide) wx fun wy => ofJoiner_form _ ⟨_, rfl⟩ f wy hn
  have HNe : Hid (∀ b wx, Calls _ _ _ wx _) := hne
  have hsb := fun wx => Alloc.rSub_no f wx hn
  have HSb : Hid (∀ wx, Calls _ _ _ wx _) := hsb
  have hcl : ∀ wx, Below (w.alloc (.cells (fc f) 23)).heap.size (w.alloc (.cells (fc f) 23)) wx → Blk wx w.heap.size (fc f) 23 := fun wx hb => blk_below hb (Blk.new w _ _) (by simp)
  have HCl : Hid _ := hcl
  obtain ⟨va, vc, rfl⟩ := h3.form
  clear hnw hne hcl hT bel hn hsb hfp h3 hf
  obtain ⟨c_, r_, h_, b_, k_, m_, j_, p_, l_, y_⟩ := f
  unfold fv at HNe HSb
  unfold fv
  dsimp only at HNe HSb ⊢
  obtain ⟨W1, hW1⟩ : ∃ W1, w.alloc (.cells (fc ⟨c_, r_, h_, b_, k_, m_, j_, p_, l_, y_⟩) 23) = W1 := ⟨_, rfl⟩
  rw [hW1] at hal HB HCl
  unfold fc at hW1
  dsimp only at hW1
  go_enter Tryz.func6, Tryz.ntmps6
  go_wp2_with (first
    | (go_at_call 11; refine hal.mono ?_; clear hal; rintro e w1 ⟨rfl, b1⟩; have B1 : Hid (Below _ _ w1) := b1; clear b1)
    | (go_at_call 12; refine (HFp.out _ (HB.out.trans (B1.out.mono HB.out.size))).mono ?_; rintro e w1b ⟨rfl, hw1b⟩; have B1b : Hid (Below W1.heap.size W1 w1b) := (hw1b ▸ B1.out); clear hw1b))
  have C0 : Hid ((fun wx => wx.cell? ⟨w.heap.size, 0, none⟩ = some (.int .i64 c_) ∧ wx.cell? ⟨w.heap.size, 1, none⟩ = some (.int .i64 r_) ∧ wx.cell? ⟨w.heap.size, 2, none⟩ = some (.int .i64 h_) ∧ wx.cell? ⟨w.heap.size, 3, none⟩ = some (.int .i64 b_) ∧ wx.cell? ⟨w.heap.size, 4, none⟩ = some (.int .i64 k_) ∧ wx.cell? ⟨w.heap.size, 5, none⟩ = some (.int .i64 m_) ∧ wx.cell? ⟨w.heap.size, 6, none⟩ = some (.int .i64 j_) ∧ wx.cell? ⟨w.heap.size, 7, none⟩ = some (.int .i64 p_) ∧ wx.cell? ⟨w.heap.size, 8, none⟩ = some (.int .i64 l_) ∧ wx.cell? ⟨w.heap.size, 9, none⟩ = some (.int .i64 y_)) w1b.drew) := show _ ∧ _ from box_cells (f := ⟨c_, r_, h_, b_, k_, m_, j_, p_, l_, y_⟩) (HCl.out w1b B1b.out)
  go_region_held3 (fun wx => wx.cell? ⟨w.heap.size, 0, none⟩ = some (.int .i64 c_) ∧ wx.cell? ⟨w.heap.size, 1, none⟩ = some (.int .i64 r_) ∧ wx.cell? ⟨w.heap.size, 2, none⟩ = some (.int .i64 h_) ∧ wx.cell? ⟨w.heap.size, 3, none⟩ = some (.int .i64 b_) ∧ wx.cell? ⟨w.heap.size, 4, none⟩ = some (.int .i64 k_) ∧ wx.cell? ⟨w.heap.size, 5, none⟩ = some (.int .i64 m_) ∧ wx.cell? ⟨w.heap.size, 6, none⟩ = some (.int .i64 j_) ∧ wx.cell? ⟨w.heap.size, 7, none⟩ = some (.int .i64 p_) ∧ wx.cell? ⟨w.heap.size, 8, none⟩ = some (.int .i64 l_) ∧ wx.cell? ⟨w.heap.size, 9, none⟩ = some (.int .i64 y_))
    (first | exact C0.out | exact C1.out | exact C2.out)
    (first
      | (go_at_call 28; refine (HNw.out _).mono ?_; clear HNw; rintro e w2 ⟨rfl, s2, hB2, b2⟩; have B2 : Hid (Below W1.heap.size W1 w2) := B1b.out.trans ((of_drew b2).mono B1b.out.size); have C1 : Hid ((fun wx => wx.cell? ⟨w.heap.size, 0, none⟩ = some (.int .i64 c_) ∧ wx.cell? ⟨w.heap.size, 1, none⟩ = some (.int .i64 r_) ∧ wx.cell? ⟨w.heap.size, 2, none⟩ = some (.int .i64 h_) ∧ wx.cell? ⟨w.heap.size, 3, none⟩ = some (.int .i64 b_) ∧ wx.cell? ⟨w.heap.size, 4, none⟩ = some (.int .i64 k_) ∧ wx.cell? ⟨w.heap.size, 5, none⟩ = some (.int .i64 m_) ∧ wx.cell? ⟨w.heap.size, 6, none⟩ = some (.int .i64 j_) ∧ wx.cell? ⟨w.heap.size, 7, none⟩ = some (.int .i64 p_) ∧ wx.cell? ⟨w.heap.size, 8, none⟩ = some (.int .i64 l_) ∧ wx.cell? ⟨w.heap.size, 9, none⟩ = some (.int .i64 y_)) w2) := show _ ∧ _ from box_cells (f := ⟨c_, r_, h_, b_, k_, m_, j_, p_, l_, y_⟩) (HCl.out w2 B2.out); clear hB2 b2 s2)
      | (go_at_call 32; refine (HNe.out _ _).mono ?_; clear HNe; rintro e w3 ⟨rfl, b3⟩; have B3 : Hid (Below W1.heap.size W1 w3) := B2.out.trans (b3.mono B2.out.size); have C2 : Hid ((fun wx => wx.cell? ⟨w.heap.size, 0, none⟩ = some (.int .i64 c_) ∧ wx.cell? ⟨w.heap.size, 1, none⟩ = some (.int .i64 r_) ∧ wx.cell? ⟨w.heap.size, 2, none⟩ = some (.int .i64 h_) ∧ wx.cell? ⟨w.heap.size, 3, none⟩ = some (.int .i64 b_) ∧ wx.cell? ⟨w.heap.size, 4, none⟩ = some (.int .i64 k_) ∧ wx.cell? ⟨w.heap.size, 5, none⟩ = some (.int .i64 m_) ∧ wx.cell? ⟨w.heap.size, 6, none⟩ = some (.int .i64 j_) ∧ wx.cell? ⟨w.heap.size, 7, none⟩ = some (.int .i64 p_) ∧ wx.cell? ⟨w.heap.size, 8, none⟩ = some (.int .i64 l_) ∧ wx.cell? ⟨w.heap.size, 9, none⟩ = some (.int .i64 y_)) w3) := show _ ∧ _ from box_cells (f := ⟨c_, r_, h_, b_, k_, m_, j_, p_, l_, y_⟩) (HCl.out w3 B3.out); clear b3))
  all_goals (
    obtain ⟨x0, x1, x2, x3, x4, x5, x6, x7, x8, x9⟩ := C2.out
    clear C0 C1 C2 HCl
    go_wp2_with (go_at_call 16; refine (HSb.out _).mono ?_; clear HSb; rintro e w5 ⟨rfl, b5⟩; have B5 : Hid (Below w3.heap.size w3 w5) := b5; clear b5)
    go_ret
    exact ⟨rfl, HB.out.trans ((B3.out.trans (B5.out.mono B3.out.size)).mono HB.out.size)⟩)

set_option maxRecDepth 100000 in
set_option maxHeartbeats 4000000 in
theorem plays_misfit (f : M.Fmt) (C B N r : Nat) (v : Value) (nn : Nat) (ln : Nat → Nat) (mn : Nat → Nat → Nat) (tm : Int) (w : World) (hT : Wave.Tab w ∧ Alloc.Tabs w) (hF : Sb f C B N r) (h3 : L3 w.heap.size v nn ln mn w) (hf : ¬ FarP nn ln mn) (hno : ¬ isL nn ln mn f.h f.k f.b) (ht : 0 ≤ tm ∧ tm ≤ 255) :
    Calls Tryz.prog 6 #[fv f, v, .int .u8 tm] w fun e w' => e = .returned (.bool true) ∧ Below w.heap.size w w' := by
  obtain ⟨W1, hW1⟩ : ∃ W1, w.alloc (.cells (fc f) 23) = W1 := ⟨_, rfl⟩
  have bel : Below w.heap.size w W1 := by rw [← hW1]; exact bel1 _ _
  have sz1 : W1.heap.size = w.heap.size + 1 := by rw [← hW1]; simp
  have hf1 : Blk W1 w.heap.size (fc f) 23 := by rw [← hW1]; exact Blk.new w _ _
  have hal := alive_any W1 (Bank.tab_below bel (Nat.le_refl _) hT.1) (hT.2.below bel (Nat.le_refl _))
  have HB : Hid (Below w.heap.size w W1) := bel
  have hnw := fun wx => Bank.new_any wx
  have HNw : Hid (∀ wx, Calls _ _ _ wx _) := hnw
  have hne := fun b X wx (hb : Below w.heap.size w wx) hB => NewDecoder_ok b f C B N r X wx (Bank.tab_below hb (Nat.le_refl _) hT.1) hB hF
  have HNe : Hid _ := hne
  have hsb := fun wx => Alloc.rSub_ok f wx hF.ok
  have HSb : Hid (∀ wx, Calls _ _ _ wx _) := hsb
  have hcl : ∀ wx, Below W1.heap.size W1 wx → Blk wx w.heap.size (fc f) 23 := fun wx hb => blk_below hb hf1 (by omega)
  have HCl : Hid _ := hcl
  obtain ⟨Z, hZ⟩ : ∃ Z : Nat → List Int, (fun _ => List.replicate (20 * B) 0) = Z := ⟨_, rfl⟩
  rw [hZ] at HNe
  have HZ : Hid _ := hZ
  have hfp : ∀ wx, Below w.heap.size w wx → Calls Tryz.prog 12 #[v] wx fun e w' => e = .returned (.bool false) ∧ w' = wx := fun wx hb => (FarPlanes_any w.heap.size v nn ln mn wx (h3.below hb (Nat.le_refl _))).mono fun e w' h => h.no hf
  have HFp : Hid _ := hfp
  have hlen := not_farP hf
  have hpl := fun p l lo g L W (hb : Below w.heap.size w W) he => Play_no w.heap.size p l C B f lo g L v nn ln mn W he (h3.below hb (Nat.le_refl _)) hb.size hlen.1 hlen.2 hno
  have HPl : Hid _ := hpl
  have hft : ∀ W, Below w.heap.size w W → Calls Tryz.prog 17 #[fv f, v] W fun e w' => e = .returned (.bool false) ∧ Below W.heap.size W w' := fun W hb => (Fits_any w.heap.size f v nn ln mn W (h3.below hb (Nat.le_refl _)) hb.size hlen.1 hlen.2).mono fun e w' (hs : Says _ W e w') => by
    obtain ⟨b, rfl, hb, hq⟩ := hs
    cases b with
    | false => exact ⟨rfl, hb⟩
    | true => exact absurd (hq.1 rfl) hno
  have HFt : Hid _ := hft
  obtain ⟨va, vc, rfl⟩ := h3.form
  have hN := hF.hN
  have hC := hF.hC
  have hBB := hF.hB
  obtain ⟨t3, ht3, ht4⟩ : ∃ t3 : Nat, tm.tmod 3 = t3 ∧ t3 ≤ 2 := ⟨(tm % 3).toNat, by rw [Int.tmod_eq_emod_of_nonneg ht.1]; omega, by omega⟩
  clear hnw hne hcl hT bel hsb hf1 hfp h3 hf hno hlen hpl hft hZ hF
  obtain ⟨c_, r_, h_, b_, k_, m_, j_, p_, l_, y_⟩ := f
  obtain rfl : h_ = C := hC
  obtain rfl : b_ = B := hBB
  obtain rfl : k_ = N := hN
  unfold fv at HNe HSb HFt
  unfold fv
  unfold fc at hW1
  dsimp only at HNe HSb HFt hW1 ⊢
  go_enter Tryz.func6, Tryz.ntmps6
  go_wp2_with (first
    | (go_at_call 11; refine hal.mono ?_; clear hal; rintro e w1 ⟨rfl, b1⟩; have B1 : Hid (Below _ _ w1) := b1; clear b1)
    | (go_at_call 12; refine (HFp.out _ (HB.out.trans (B1.out.mono HB.out.size))).mono ?_; rintro e w1b ⟨rfl, hw1b⟩; have B1b : Hid (Below W1.heap.size W1 w1b) := (hw1b ▸ B1.out); clear hw1b))
  have C0 : Hid ((fun wx => wx.cell? ⟨w.heap.size, 0, none⟩ = some (.int .i64 c_) ∧ wx.cell? ⟨w.heap.size, 1, none⟩ = some (.int .i64 r_) ∧ wx.cell? ⟨w.heap.size, 2, none⟩ = some (.int .i64 (C : Int)) ∧ wx.cell? ⟨w.heap.size, 3, none⟩ = some (.int .i64 (B : Int)) ∧ wx.cell? ⟨w.heap.size, 4, none⟩ = some (.int .i64 (N : Int)) ∧ wx.cell? ⟨w.heap.size, 5, none⟩ = some (.int .i64 m_) ∧ wx.cell? ⟨w.heap.size, 6, none⟩ = some (.int .i64 j_) ∧ wx.cell? ⟨w.heap.size, 7, none⟩ = some (.int .i64 p_) ∧ wx.cell? ⟨w.heap.size, 8, none⟩ = some (.int .i64 l_) ∧ wx.cell? ⟨w.heap.size, 9, none⟩ = some (.int .i64 y_)) w1b.drew) := show _ ∧ _ from box_cells (f := ⟨c_, r_, C, B, N, m_, j_, p_, l_, y_⟩) (HCl.out w1b B1b.out)
  go_region_held3 (fun wx => wx.cell? ⟨w.heap.size, 0, none⟩ = some (.int .i64 c_) ∧ wx.cell? ⟨w.heap.size, 1, none⟩ = some (.int .i64 r_) ∧ wx.cell? ⟨w.heap.size, 2, none⟩ = some (.int .i64 (C : Int)) ∧ wx.cell? ⟨w.heap.size, 3, none⟩ = some (.int .i64 (B : Int)) ∧ wx.cell? ⟨w.heap.size, 4, none⟩ = some (.int .i64 (N : Int)) ∧ wx.cell? ⟨w.heap.size, 5, none⟩ = some (.int .i64 m_) ∧ wx.cell? ⟨w.heap.size, 6, none⟩ = some (.int .i64 j_) ∧ wx.cell? ⟨w.heap.size, 7, none⟩ = some (.int .i64 p_) ∧ wx.cell? ⟨w.heap.size, 8, none⟩ = some (.int .i64 l_) ∧ wx.cell? ⟨w.heap.size, 9, none⟩ = some (.int .i64 y_))
    (first | exact C0.out | exact C1.out | exact C2.out)
    (first
      | (go_at_call 28; refine (HNw.out _).mono ?_; clear HNw; rintro e w2 ⟨rfl, s2, hB2, b2⟩; have B2 : Hid (Below W1.heap.size W1 w2) := B1b.out.trans ((of_drew b2).mono B1b.out.size); have C1 : Hid ((fun wx => wx.cell? ⟨w.heap.size, 0, none⟩ = some (.int .i64 c_) ∧ wx.cell? ⟨w.heap.size, 1, none⟩ = some (.int .i64 r_) ∧ wx.cell? ⟨w.heap.size, 2, none⟩ = some (.int .i64 (C : Int)) ∧ wx.cell? ⟨w.heap.size, 3, none⟩ = some (.int .i64 (B : Int)) ∧ wx.cell? ⟨w.heap.size, 4, none⟩ = some (.int .i64 (N : Int)) ∧ wx.cell? ⟨w.heap.size, 5, none⟩ = some (.int .i64 m_) ∧ wx.cell? ⟨w.heap.size, 6, none⟩ = some (.int .i64 j_) ∧ wx.cell? ⟨w.heap.size, 7, none⟩ = some (.int .i64 p_) ∧ wx.cell? ⟨w.heap.size, 8, none⟩ = some (.int .i64 l_) ∧ wx.cell? ⟨w.heap.size, 9, none⟩ = some (.int .i64 y_)) w2) := show _ ∧ _ from box_cells (f := ⟨c_, r_, C, B, N, m_, j_, p_, l_, y_⟩) (HCl.out w2 B2.out); have hne := HNe.out _ _ w2 (HB.out.trans (B2.out.mono HB.out.size)) hB2; have HNe2 : Hid (Calls _ _ _ _ _) := hne; have Z2 : Hid (w1b.drew.heap.size < w2.heap.size) := (show w1b.drew.heap.size < w2.heap.size by omega); clear hB2 b2 s2 hne)
      | (go_at_call 32; refine HNe2.out.mono ?_; clear HNe2; rintro e w3 ⟨p, l, lo, g, rfl, hl3, en3, bt3⟩; have B3 : Hid (Below W1.heap.size W1 w3) := Poly.below_but B2.out bt3 (Nat.le_refl _) (by show W1.heap.size ≤ w1b.heap.size; exact B1b.out.size); have C2 : Hid ((fun wx => wx.cell? ⟨w.heap.size, 0, none⟩ = some (.int .i64 c_) ∧ wx.cell? ⟨w.heap.size, 1, none⟩ = some (.int .i64 r_) ∧ wx.cell? ⟨w.heap.size, 2, none⟩ = some (.int .i64 (C : Int)) ∧ wx.cell? ⟨w.heap.size, 3, none⟩ = some (.int .i64 (B : Int)) ∧ wx.cell? ⟨w.heap.size, 4, none⟩ = some (.int .i64 (N : Int)) ∧ wx.cell? ⟨w.heap.size, 5, none⟩ = some (.int .i64 m_) ∧ wx.cell? ⟨w.heap.size, 6, none⟩ = some (.int .i64 j_) ∧ wx.cell? ⟨w.heap.size, 7, none⟩ = some (.int .i64 p_) ∧ wx.cell? ⟨w.heap.size, 8, none⟩ = some (.int .i64 l_) ∧ wx.cell? ⟨w.heap.size, 9, none⟩ = some (.int .i64 y_)) w3) := show _ ∧ _ from box_cells (f := ⟨c_, r_, C, B, N, m_, j_, p_, l_, y_⟩) (HCl.out w3 B3.out); have E3 : Hid (Dec p l C B ⟨c_, r_, C, B, N, m_, j_, p_, l_, y_⟩ lo g Z w3) := en3; have Z3 : Hid (w2.heap.size ≤ l) := hl3; clear hl3 en3 bt3))
  all_goals (
    obtain ⟨x0, x1, x2, x3, x4, x5, x6, x7, x8, x9⟩ := C2.out
    have hb03 : Below w.heap.size w w3 := HB.out.trans (B3.out.mono HB.out.size)
    have HB03 : Hid (Below w.heap.size w w3) := hb03
    have F3 : Hid (∀ wx, Below w3.heap.size w3 wx → Blk wx w.heap.size (fc ⟨c_, r_, C, B, N, m_, j_, p_, l_, y_⟩) 23) := fun wx hb => HCl.out wx (B3.out.trans (hb.mono B3.out.size))
    clear C0 C1 C2 HCl Z3 Z2 hb03
    go_wp2_with (go_at_call 16; refine (HSb.out _).mono ?_; clear HSb; rintro e w5 ⟨rfl, b5⟩; have B5 : Hid (Below w3.heap.size w3 w5) := b5; have HB5 : Hid (Below w.heap.size w w5) := HB03.out.trans (b5.mono HB03.out.size); have D5 : Hid (Dec p l C B ⟨c_, r_, C, B, N, m_, j_, p_, l_, y_⟩ lo g Z w5) := E3.out.below b5 E3.out.lt; clear b5 x0 x1 x2 x3 x4 x5 x6 x7 x8 x9)
    refine wp_loop_rounds 1 ?_
    rw [rounds_succ]
    go_wp2_with (first
      | (go_at_call 33; refine (HPl.out p l lo g Z w5 HB5.out D5.out).mono ?_; clear HPl; rintro e w6 ⟨rfl, b6⟩; have B6 : Hid (Below w5.heap.size w5 w6) := b6; have HB6 : Hid (Below w.heap.size w w6) := HB5.out.trans (b6.mono HB5.out.size); have xs := box_cells (F3.out w6 (B5.out.trans (b6.mono B5.out.size))); dsimp only at xs; obtain ⟨x0, x1, x2, x3, x4, x5, x6, x7, x8, x9⟩ := xs; clear b6)
      | (go_at_call 17; refine (HFt.out _ HB6.out).mono ?_; clear HFt; rintro e w7 ⟨rfl, b7⟩; have B7 : Hid (Below w.heap.size w w7) := HB6.out.trans (b7.mono HB6.out.size); clear b7))
    go_ret
    exact ⟨rfl, B7.out⟩)

theorem all_in {w : World} {B g n cap : Nat} {t : TypeId} {v : Value} {us : List Value} (h : w.ownsRow B t 1 (.slice (some ⟨g, 0, none⟩) (n + 1) cap) (n + 1) (us ++ [v])) (hl : us.length = n) (hu : ∀ (i : Nat) (x : Value), us[i]? = some x → x = v) : ∀ i, i < n + 1 → w.cell? ⟨g, 0 + i, none⟩ = some v := by
  intro i hi
  have e : (us ++ [v])[i]? = some v := by
    rcases Nat.lt_or_ge i us.length with h1 | h1
    · rw [List.getElem?_append_left h1]
      obtain ⟨x, hx⟩ : ∃ x, us[i]? = some x := ⟨_, List.getElem?_eq_getElem h1⟩
      rw [hx, hu i x hx]
    · rw [List.getElem?_append_right h1, show i - us.length = 0 by omega]
      rfl
  have := h.cells (g := g) rfl i v e
  rw [Poly.add_at] at this
  rw [Nat.zero_add]; exact this

set_option maxRecDepth 100000 in
set_option maxHeartbeats 8000000 in
theorem plays_fit (f : M.Fmt) (C B N r : Nat) (v : Value) (X : Nat → Nat → Nat → Int) (tm : Int) (w : World) (hT : Wave.Tab w ∧ Alloc.Tabs w) (hF : Sb f C B N r) (h3 : V3 .i32 w.heap.size v C N B X w) (hX : ∀ c, Qnt.F32 (X c)) (ht : 0 ≤ tm ∧ tm ≤ 255) :
    Calls Tryz.prog 6 #[fv f, v, .int .u8 tm] w fun e w' => e = .returned (.bool true) ∧ Below w.heap.size w w' := by
  obtain ⟨i0, hi0, hz0, hz1, hz2⟩ := info_parts info3
  have n16 := hF.n16
  have c2 := hF.c2
  have b8 := hF.b8
  obtain ⟨W1, hW1⟩ : ∃ W1, w.alloc (.cells (fc f) 23) = W1 := ⟨_, rfl⟩
  have bel : Below w.heap.size w W1 := by rw [← hW1]; exact bel1 _ _
  have sz1 : W1.heap.size = w.heap.size + 1 := by rw [← hW1]; simp
  have hf1 : Blk W1 w.heap.size (fc f) 23 := by rw [← hW1]; exact Blk.new w _ _
  have hal := alive_any W1 (Bank.tab_below bel (Nat.le_refl _) hT.1) (hT.2.below bel (Nat.le_refl _))
  have HB : Hid (Below w.heap.size w W1) := bel
  have hnw := fun wx => Bank.new_any wx
  have HNw : Hid (∀ wx, Calls _ _ _ wx _) := hnw
  have hne := fun b X wx (hb : Below w.heap.size w wx) hB => NewDecoder_ok b f C B N r X wx (Bank.tab_below hb (Nat.le_refl _) hT.1) hB hF
  have HNe : Hid _ := hne
  have hsb := fun wx => Alloc.rSub_ok f wx hF.ok
  have HSb : Hid (∀ wx, Calls _ _ _ wx _) := hsb
  have hcl : ∀ wx, Below W1.heap.size W1 wx → Blk wx w.heap.size (fc f) 23 := fun wx hb => blk_below hb hf1 (by omega)
  have HCl : Hid _ := hcl
  obtain ⟨Z, hZ⟩ : ∃ Z : Nat → List Int, (fun _ => List.replicate (20 * B) 0) = Z := ⟨_, rfl⟩
  rw [hZ] at HNe
  have HZ : Hid _ := hZ
  have hnf : ¬ FarP C (fun _ => N) (fun _ _ => B) := by
    rintro (h | ⟨i, hi, h | ⟨j, hj, h⟩⟩)
    · omega
    · have h : 40 < N := h; omega
    · have h : 40 < B := h; omega
  have hfp : ∀ wx, Below w.heap.size w wx → Calls Tryz.prog 12 #[v] wx fun e w' => e = .returned (.bool false) ∧ w' = wx := fun wx hb => (FarPlanes_any w.heap.size v C _ _ wx (h3.l3.below hb (Nat.le_refl _))).mono fun e w' h => h.no hnf
  have HFp : Hid _ := hfp
  have hpl := fun p l lo g L W (hb : Below w.heap.size w W) he (hg : ∀ c, c < C → w.heap.size ≤ g c) => Play_ok p l C B N r f lo g L 0 w.heap.size X v W hF he (h3.below hb (Nat.le_refl _)).b3 hX hb.size (fun c hc => .inr (hg c hc))
  have HPl : Hid _ := hpl
  have hft : ∀ W, Below w.heap.size w W → Calls Tryz.prog 17 #[fv f, v] W fun e w' => e = .returned (.bool true) ∧ Below W.heap.size W w' := fun W hb => (Fits_any w.heap.size f v C _ _ W (h3.below hb (Nat.le_refl _)).l3 hb.size (by omega) (fun i hi => ⟨by omega, fun j hj => by omega⟩)).mono fun e w' (hs : Says _ W e w') => by
    obtain ⟨b, rfl, hb, hq⟩ := hs
    obtain rfl : b = true := hq.2 ⟨hF.hC.symm, fun i _ => ⟨hF.hN.symm, fun j _ => hF.hB.symm⟩⟩
    exact ⟨rfl, hb⟩
  have HFt : Hid _ := hft
  have hrp := fun R ab ac W (hR : R ≤ 2) (hb : Below w.heap.size w W) => rPlay_any w.heap.size f C B N r R ab 0 ac v X W hF hR (h3.below hb (Nat.le_refl _)) hX hb.size
  have HRp : Hid _ := hrp
  obtain ⟨vb, vo, vc, rfl⟩ := h3.form
  have hN := hF.hN
  have hC := hF.hC
  have hBB := hF.hB
  have hNBl : C * (N * B) ≤ 1000000 := by
    have h1 := Nat.mul_le_mul (show N ≤ 16 by omega) (show B ≤ 8 by omega)
    have := Nat.mul_le_mul (show C ≤ 2 by omega) h1
    omega
  have HNBl : Hid (C * (N * B) ≤ 1000000) := hNBl
  obtain ⟨t3, ht3, ht4⟩ : ∃ t3 : Nat, tm.tmod 3 = t3 ∧ t3 ≤ 2 := ⟨(tm % 3).toNat, by rw [Int.tmod_eq_emod_of_nonneg ht.1]; omega, by omega⟩
  clear hnw hne hcl hT bel hsb hf1 hfp h3 hnf hpl hft hZ hF hrp hX hNBl
  obtain ⟨c_, r_, h_, b_, k_, m_, j_, p_, l_, y_⟩ := f
  obtain rfl : h_ = C := hC
  obtain rfl : b_ = B := hBB
  obtain rfl : k_ = N := hN
  unfold fv at HNe HSb HFt HRp
  unfold fv
  unfold fc at hW1
  dsimp only at HNe HSb HFt HRp hW1 ⊢
  have j1 : (t3 : Int) ≤ 2 := by omega
  go_enter Tryz.func6, Tryz.ntmps6
  go_wp2_with (first
    | (go_at_call 11; refine hal.mono ?_; clear hal; rintro e w1 ⟨rfl, b1⟩; have B1 : Hid (Below _ _ w1) := b1; clear b1)
    | (go_at_call 12; refine (HFp.out _ (HB.out.trans (B1.out.mono HB.out.size))).mono ?_; rintro e w1b ⟨rfl, hw1b⟩; have B1b : Hid (Below W1.heap.size W1 w1b) := (hw1b ▸ B1.out); clear hw1b))
  have C0 : Hid ((fun wx => wx.cell? ⟨w.heap.size, 0, none⟩ = some (.int .i64 c_) ∧ wx.cell? ⟨w.heap.size, 1, none⟩ = some (.int .i64 r_) ∧ wx.cell? ⟨w.heap.size, 2, none⟩ = some (.int .i64 (C : Int)) ∧ wx.cell? ⟨w.heap.size, 3, none⟩ = some (.int .i64 (B : Int)) ∧ wx.cell? ⟨w.heap.size, 4, none⟩ = some (.int .i64 (N : Int)) ∧ wx.cell? ⟨w.heap.size, 5, none⟩ = some (.int .i64 m_) ∧ wx.cell? ⟨w.heap.size, 6, none⟩ = some (.int .i64 j_) ∧ wx.cell? ⟨w.heap.size, 7, none⟩ = some (.int .i64 p_) ∧ wx.cell? ⟨w.heap.size, 8, none⟩ = some (.int .i64 l_) ∧ wx.cell? ⟨w.heap.size, 9, none⟩ = some (.int .i64 y_)) w1b.drew) := show _ ∧ _ from box_cells (f := ⟨c_, r_, C, B, N, m_, j_, p_, l_, y_⟩) (HCl.out w1b B1b.out)
  go_region_held3 (fun wx => wx.cell? ⟨w.heap.size, 0, none⟩ = some (.int .i64 c_) ∧ wx.cell? ⟨w.heap.size, 1, none⟩ = some (.int .i64 r_) ∧ wx.cell? ⟨w.heap.size, 2, none⟩ = some (.int .i64 (C : Int)) ∧ wx.cell? ⟨w.heap.size, 3, none⟩ = some (.int .i64 (B : Int)) ∧ wx.cell? ⟨w.heap.size, 4, none⟩ = some (.int .i64 (N : Int)) ∧ wx.cell? ⟨w.heap.size, 5, none⟩ = some (.int .i64 m_) ∧ wx.cell? ⟨w.heap.size, 6, none⟩ = some (.int .i64 j_) ∧ wx.cell? ⟨w.heap.size, 7, none⟩ = some (.int .i64 p_) ∧ wx.cell? ⟨w.heap.size, 8, none⟩ = some (.int .i64 l_) ∧ wx.cell? ⟨w.heap.size, 9, none⟩ = some (.int .i64 y_))
    (first | exact C0.out | exact C1.out | exact C2.out)
    (first
      | (go_at_call 28; refine (HNw.out _).mono ?_; clear HNw; rintro e w2 ⟨rfl, s2, hB2, b2⟩; have B2 : Hid (Below W1.heap.size W1 w2) := B1b.out.trans ((of_drew b2).mono B1b.out.size); have C1 : Hid ((fun wx => wx.cell? ⟨w.heap.size, 0, none⟩ = some (.int .i64 c_) ∧ wx.cell? ⟨w.heap.size, 1, none⟩ = some (.int .i64 r_) ∧ wx.cell? ⟨w.heap.size, 2, none⟩ = some (.int .i64 (C : Int)) ∧ wx.cell? ⟨w.heap.size, 3, none⟩ = some (.int .i64 (B : Int)) ∧ wx.cell? ⟨w.heap.size, 4, none⟩ = some (.int .i64 (N : Int)) ∧ wx.cell? ⟨w.heap.size, 5, none⟩ = some (.int .i64 m_) ∧ wx.cell? ⟨w.heap.size, 6, none⟩ = some (.int .i64 j_) ∧ wx.cell? ⟨w.heap.size, 7, none⟩ = some (.int .i64 p_) ∧ wx.cell? ⟨w.heap.size, 8, none⟩ = some (.int .i64 l_) ∧ wx.cell? ⟨w.heap.size, 9, none⟩ = some (.int .i64 y_)) w2) := show _ ∧ _ from box_cells (f := ⟨c_, r_, C, B, N, m_, j_, p_, l_, y_⟩) (HCl.out w2 B2.out); have hne := HNe.out _ _ w2 (HB.out.trans (B2.out.mono HB.out.size)) hB2; have HNe2 : Hid (Calls _ _ _ _ _) := hne; have Z2 : Hid (w1b.drew.heap.size < w2.heap.size) := (show w1b.drew.heap.size < w2.heap.size by omega); clear hB2 b2 s2 hne)
      | (go_at_call 32; refine HNe2.out.mono ?_; clear HNe2; rintro e w3 ⟨p, l, lo, g, rfl, hl3, en3, bt3⟩; have B3 : Hid (Below W1.heap.size W1 w3) := Poly.below_but B2.out bt3 (Nat.le_refl _) (by show W1.heap.size ≤ w1b.heap.size; exact B1b.out.size); have C2 : Hid ((fun wx => wx.cell? ⟨w.heap.size, 0, none⟩ = some (.int .i64 c_) ∧ wx.cell? ⟨w.heap.size, 1, none⟩ = some (.int .i64 r_) ∧ wx.cell? ⟨w.heap.size, 2, none⟩ = some (.int .i64 (C : Int)) ∧ wx.cell? ⟨w.heap.size, 3, none⟩ = some (.int .i64 (B : Int)) ∧ wx.cell? ⟨w.heap.size, 4, none⟩ = some (.int .i64 (N : Int)) ∧ wx.cell? ⟨w.heap.size, 5, none⟩ = some (.int .i64 m_) ∧ wx.cell? ⟨w.heap.size, 6, none⟩ = some (.int .i64 j_) ∧ wx.cell? ⟨w.heap.size, 7, none⟩ = some (.int .i64 p_) ∧ wx.cell? ⟨w.heap.size, 8, none⟩ = some (.int .i64 l_) ∧ wx.cell? ⟨w.heap.size, 9, none⟩ = some (.int .i64 y_)) w3) := show _ ∧ _ from box_cells (f := ⟨c_, r_, C, B, N, m_, j_, p_, l_, y_⟩) (HCl.out w3 B3.out); have E3 : Hid (Dec p l C B ⟨c_, r_, C, B, N, m_, j_, p_, l_, y_⟩ lo g Z w3) := en3; have Z3 : Hid (w2.heap.size ≤ l) := hl3; clear hl3 en3 bt3))
  all_goals (
    obtain ⟨x0, x1, x2, x3, x4, x5, x6, x7, x8, x9⟩ := C2.out
    have hb03 : Below w.heap.size w w3 := HB.out.trans (B3.out.mono HB.out.size)
    have HB03 : Hid (Below w.heap.size w w3) := hb03
    have hwl : w.heap.size < l := by have := Z3.out; have := B2.out.size; omega
    have F3 : Hid (∀ wx, Below w3.heap.size w3 wx → Blk wx w.heap.size (fc ⟨c_, r_, C, B, N, m_, j_, p_, l_, y_⟩) 23) := fun wx hb => HCl.out wx (B3.out.trans (hb.mono B3.out.size))
    clear C0 C1 C2 HCl Z3 Z2 hb03
    go_wp2_with (go_at_call 16; refine (HSb.out _).mono ?_; clear HSb; rintro e w5 ⟨rfl, b5⟩; have B5 : Hid (Below w3.heap.size w3 w5) := b5; have HB5 : Hid (Below w.heap.size w w5) := HB03.out.trans (b5.mono HB03.out.size); have D5 : Hid (Dec p l C B ⟨c_, r_, C, B, N, m_, j_, p_, l_, y_⟩ lo g Z w5) := E3.out.below b5 E3.out.lt; clear b5 x0 x1 x2 x3 x4 x5 x6 x7 x8 x9)
    have hgl : ∀ c, c < C → w.heap.size < g c ∧ g c < w5.heap.size := fun c hc => by have h1 := D5.out.gl hc; have h2 := D5.out.lt; exact ⟨by omega, by omega⟩
    have HGl : Hid (∀ c, c < C → w.heap.size < g c ∧ g c < w5.heap.size) := hgl
    have F5 : Hid (Blk w5 w.heap.size (fc ⟨c_, r_, C, B, N, m_, j_, p_, l_, y_⟩) 23) := F3.out w5 B5.out
    obtain ⟨B6, hB6⟩ : ∃ B6, w5.heap.size = B6 := ⟨_, rfl⟩
    have I0 : Hid (PlI p l C B N 0 B6 ⟨c_, r_, C, B, N, m_, j_, p_, l_, y_⟩ lo g X (.slice (some ⟨vb, vo, none⟩) C vc) (.slice none 0 0) w5 w5) := ⟨D5.out.ext fun c _ => by rw [← HZ.out]; exact (M.lnR_zero _ _ _).symm, ⟨[], World.ownsRow_nil _ _ _ _, fun i x h => by simp at h⟩, Lns.refl _ _ _⟩
    have HB6 : Hid (w5.heap.size = B6) := hB6
    have HPB : Hid (p < B6) := by have := D5.out.lt; show p < B6; omega
    clear hgl hB6 D5 E3 F3 hwl
    go_wp2
    go_loopw [9, 10] (fun u i wr => ∃ q : Nat, q ≤ t3 + 1 ∧ i = .int .i64 q ∧ PlI p l C B N q B6 ⟨c_, r_, C, B, N, m_, j_, p_, l_, y_⟩ lo g X (.slice (some ⟨vb, vo, none⟩) C vc) u w5 wr) (fun _ i _ => t3 + 1 - (intOf i).toNat)
    case atStart => exact ⟨0, by omega, rfl, I0.out⟩
    case round =>
      clear I0
      obtain ⟨q, hq, rfl, hI⟩ := hrel
      have HI : Hid (PlI _ _ _ _ _ _ _ _ _ _ _ _ _ _ _) := hI
      have hBw : Below w.heap.size w wr := HB5.out.trans (hI.lns.to_below (fun c hc => by have := (HGl.out c hc).1; omega) HB5.out.size)
      have HBw : Hid (Below w.heap.size w wr) := hBw
      by_cases hlt : q < t3 + 1
      · have hlt' : (q : Int) < 1 + (t3 : Int) := by omega
        have hpl := HPl.out p l lo g _ wr hBw hI.dec (fun c hc => by have := (HGl.out c hc).1; omega)
        have HPl2 : Hid (Calls _ _ _ _ _) := hpl
        have q2 : q ≤ 2 := by omega
        have hpB : p < B6 := HPB.out
        have hwB : w.heap.size ≤ B6 := by have h1 := HB5.out.size; have h2 := HB6.out; omega
        have h9 : ∀ k, Value.ownBlock u9 = some k → B6 ≤ k ∧ k < wr.heap.size := by
          obtain ⟨us1, hown1, _⟩ := HI.out.own
          exact hown1.lt
        have H9 : Hid _ := h9
        clear h9
        clear hI hBw hpl
        go_wp2_with (first
          | (go_at_call 33; refine HPl2.out.mono ?_; clear HPl2; rintro e w6 ⟨u6b, rfl, r6, d6, l6⟩; have R6 : Hid (Reads .i16 wr.heap.size w6.heap.size w6 u6b (M.wov C (N * B) ((List.range C).map fun c => M.jsm B (X c) (M.lnR N B (X c) q) N))) := r6; have D6 : Hid (Dec p l C B ⟨c_, r_, C, B, N, m_, j_, p_, l_, y_⟩ lo g (fun c => M.lnR N B (X c) (q + 1)) w6) := d6.ext (fun c _ => M.jst_all N B (X c) q); have L6 : Hid (Lns g C w5 w6) := HI.out.lns.trans l6; obtain ⟨us, hown, hus⟩ := HI.out.own; have hown6 := own_lns hown l6 (fun c hc => by have h1 := (HGl.out c hc).2; have h2 := HB6.out; omega); have HUs : Hid (∀ (i : Nat) (x : Value), us[i]? = some x → x = .slice (some ⟨vb, vo, none⟩) C vc) := hus; have HBl6 : Hid (Below w.heap.size w w6) := HBw.out.trans (l6.to_below (fun c hc => by have := (HGl.out c hc).1; omega) HBw.out.size); have xs := box_cells (L6.out.blk F5.out (fun c hc => by have := (HGl.out c hc).1; omega)); dsimp only at xs; obtain ⟨x0, x1, x2, x3, x4, x5, x6, x7, x8, x9⟩ := xs; have hs6 : B6 ≤ w6.heap.size := (by have h1 := L6.out.size; have h2 := HB6.out; omega); clear r6 d6 l6 hown hus)
          | (go_at_call 17; refine (HFt.out _ HBl6.out).mono ?_; rintro e w7 ⟨rfl, b7⟩; have B7 : Hid (Below w6.heap.size w6 w7) := b7; have hown7 := hown6.kept (row := none) ⟨b7.os, b7.tape, b7.output, b7.size, fun k hk _ => b7.block k hk⟩ (by cases hv : Value.ownBlock u9 <;> simp); have hs7 : B6 ≤ w7.heap.size := Nat.le_trans hs6 b7.size; clear b7 hown6)
          | (at_builtin; refine wpList_append_lies _ rfl (.tmp 61) (.tmp 63) 69 rfl B6 24 i0 (.slice none 0 0) 1 24 Tryz.underlying69 hi0 hz0 hz1 hz2 rfl (by decide) _ _ _ rfl (hown7.alloc _) ⟨_, 0, none⟩ 1 1 [.slice (some ⟨vb, vo, none⟩) C vc] rfl rfl (cell_one_new _ _ _) (by intro u hu; simp at hu; subst hu; rfl) (by omega) (by unfold maxLen; omega) (by omega) (by simp; omega) _ rfl ?_; intro gg cap w8 hown8 hgrow8 hat8 hlt8; have hb67 : Below B6 w6 w7 := B7.out.mono hs6; have hb68 : Below B6 w6 w8 := Qnt.below_grown (hb67.alloc hs7 _) (by simp; omega) hgrow8 (fun k hk => (H9.out k hk).1); have HB68 : Hid (Below B6 w6 w8) := hb68; have HBl8 : Hid (Below w.heap.size w w8) := HBl6.out.trans (hb68.mono hwB); have L8 : Hid (Lns g C w5 w8) := L6.out.below_at hb68 (by rw [HB6.out]; exact Nat.le_refl _); have R8 : Hid (Reads .i16 wr.heap.size w6.heap.size w8 u6b _) := R6.out.keep (fun b k0 k1 => (hgrow8.block b (by have := B7.out.size; simp; omega) (fun e => by have := (H9.out b e.symm).2; omega)).trans ((Below.heap_alloc _ _ _ (by have := B7.out.size; omega)).trans (B7.out.block b k1))); have D8 : Hid (Dec p l C B ⟨c_, r_, C, B, N, m_, j_, p_, l_, y_⟩ lo g (fun c => M.lnR N B (X c) (q + 1)) w8) := D6.out.below hb68 hpB; have xs := box_cells (L8.out.blk F5.out (fun c hc => by have := (HGl.out c hc).1; omega)); dsimp only at xs; obtain ⟨x0, x1, x2, x3, x4, x5, x6, x7, x8, x9⟩ := xs; have Own8 : Hid (w8.ownsRow B6 24 1 (.slice (some ⟨gg, 0, none⟩) (q + 1) cap) (q + 1) (us ++ [.slice (some ⟨vb, vo, none⟩) C vc])) := hown8; have hall := all_in hown8 (by have := hown7.1; omega) HUs.out; have hrp := HRp.out q gg cap w8 q2 HBl8.out hlt8 hall; have HRp2 : Hid (Calls _ _ _ _ _) := hrp; clear hb67 hb68 hall hrp hown8 hgrow8 hat8 hown7)
          | (go_at_call 35; refine HRp2.out.mono ?_; clear HRp2 x0 x1 x2 x3 x4 x5 x6 x7 x8 x9; rintro e w9 ⟨u9b, rfl, b9, r9⟩; have B9 : Hid (Below w8.heap.size w8 w9) := b9; have hsm := Poly.same16 _ _ _ _ _ _ _ w9 (R8.out.below b9 (by have h1 := HB68.out.size; exact h1)) r9 (by rw [M.wov_length]; exact HNBl.out); have HSm : Hid (Calls _ _ _ _ _) := hsm; clear b9 r9 hsm)
          | (go_at_call 34; refine HSm.out.mono ?_; clear HSm; rintro e w10 ⟨rfl, mm, rfl⟩))
        have R10 : Hid (PlI p l C B N (q + 1) B6 ⟨c_, r_, C, B, N, m_, j_, p_, l_, y_⟩ lo g X (.slice (some ⟨vb, vo, none⟩) C vc) (.slice (some ⟨gg, 0, none⟩) (q + 1) cap) w5 (w9.drewN mm)) := by
          have hb : Below w8.heap.size w8 (w9.drewN mm) := Poly.below_drewN B9.out mm
          refine ⟨D8.out.below hb D8.out.lt, ⟨_, Own8.out.kept (row := none) ⟨hb.os, hb.tape, hb.output, hb.size, fun k hk _ => hb.block k hk⟩ (by simp [Value.ownBlock]), ?_⟩, L8.out.below hb⟩
          intro i x hx
          rcases List.mem_append.1 (List.mem_of_getElem? hx) with h | h
          · obtain ⟨i', hi', rfl⟩ := List.mem_iff_getElem.1 h
            exact HUs.out i' _ (List.getElem?_eq_getElem hi')
          · simpa using h
        clear R8 D8 L8 Own8 HUs
        go_wp2
        go_roundw
        case rel => exact ⟨q + 1, by omega, by go_num, R10.out⟩
        case measure => simp [intOf]; omega
      · obtain rfl : q = t3 + 1 := by omega
        have hlt' : ¬ (((t3 + 1 : Nat) : Int) < 1 + (t3 : Int)) := by omega
        clear hI hBw
        go_wp2
        go_ret
        exact ⟨rfl, HBw.out⟩)

theorem SubPlays_walk (f : M.Fmt) (v : Value) (zs : List (List (List Int))) (tm : Int) (w : World) (hT : Wave.Tab w ∧ Alloc.Tabs w) (hc : Cubes .i32 w.heap.size w v zs) (ht : (Lit.int .u8 tm).wf = true) :
    Calls Tryz.prog 6 #[fv f, v, .int .u8 tm] w fun e w' => e = .returned (.bool true) ∧ Below w.heap.size w w' := by
  have ht : 0 ≤ tm ∧ tm ≤ 255 := by simpa [Lit.wf, IntKind.min, IntKind.max, IntKind.signed, IntKind.bits] using ht
  by_cases hf : FarP zs.length (fun i => (zs.getD i []).length) (fun i => Qnt.len (zs.getD i []))
  · exact plays_far f v _ _ _ tm w hT hc.l3 hf
  · by_cases h : M.okS f
    · obtain ⟨C, B, N, r, hF⟩ := sb_of h
      have n16 := hF.n16
      have c2 := hF.c2
      have b8 := hF.b8
      by_cases hl : isL zs.length (fun i => (zs.getD i []).length) (fun i => Qnt.len (zs.getD i [])) f.h f.k f.b
      · rw [hF.hC, hF.hN, hF.hB] at hl
        exact plays_fit f C B N r v _ tm w hT hF (hc.v3 hl (by omega) (by omega) (by omega)) hc.fit ht
      · exact plays_misfit f C B N r v _ _ _ tm w hT hF hc.l3 hf hl ht
    · exact plays_none f v _ _ _ tm w hT hc.l3 hf h

end Sub
end Go.Proofs.YtcaifpjbjghhaaaGreatDoor

