import Derived.Test.YtcaifpjbjghhaaaGreatDoorSubA43
import Derived.Test.YtcaifpjbjghhaaaGreatDoorSubA38
/-
  The chapter's example. Conditions: the polynomial's numbers and the offsets stand as their initialisers lay them; one goroutine.
-/
namespace Go.Proofs.YtcaifpjbjghhaaaGreatDoor
set_option linter.unusedVariables false
open Go.RowKit
namespace Sub
open Bank (Blk But)
open Poly (Reads cell_keep alloc_size Spl Joi enc)
open _root_.Go.Proofs.YtcaifpjbjghhaaaGreatDoor.Form (fv fc bel1 box_cells blk_below of_drew)

/-- the example's format -/
def f0 : M.Fmt := ⟨1, 0, 1, 4, 4, 0, 0, 2, 0, 0⟩
theorem f0_sb : Sb f0 1 4 4 0 := ⟨by unfold M.okS; decide, rfl, rfl, rfl, rfl⟩
theorem f0_pay : M.pay f0 = (7 : Nat) := by decide
/-- the frames of this format begin so -/
theorem f0_head (sl : Int) (m : Nb) : (M.frb f0 1 4 4 0 sl m 7)[0]? = some 156 ∧ (M.frb f0 1 4 4 0 sl m 7)[1]? = some 0 ∧ (M.frb f0 1 4 4 0 sl m 7)[2]? = some 2 := by
  have hh : ∀ j, j < 24 → (M.frm f0 1 4 4 0 sl m).getD j false = (M.fmH f0 8).getD j false := fun j hj => by
    have hl := M.fmH_length f0
    unfold M.frm
    rw [List.getD_eq_getElem?_getD, List.getD_eq_getElem?_getD, List.append_assoc, List.append_assoc, List.getElem?_append_left (by rw [hl]; omega)]
  have key : ∀ t, t < 3 → (M.frb f0 1 4 4 0 sl m 7)[t]? = some (M.byteOf (fun j => (M.fmH f0 8).getD j false) t) := fun t ht => by
    unfold M.frb M.raw
    rw [List.getElem?_set_ne (by omega)]
    have := Bits.bytesL_getD (n := 7) (fun j => (M.frm f0 1 4 4 0 sl m).getD j false) (i := t) (by omega)
    have hl : (Bits.bytesL 7 fun j => (M.frm f0 1 4 4 0 sl m).getD j false).length = 7 := Bits.bytesL_length _ _
    rw [List.getD_eq_getElem?_getD, List.getElem?_eq_getElem (by omega)] at this
    rw [List.getElem?_eq_getElem (by omega)]
    congr 1
    refine Eq.trans this ?_
    exact M.byteOf_congr (n := 3) (fun i hi => hh i (by omega)) ht
  exact ⟨by rw [key 0 (by omega)]; decide, by rw [key 1 (by omega)]; decide, by rw [key 2 (by omega)]; decide⟩

/-- scales that are read are some of a format -/
theorem psc_sh {f : M.Fmt} {C B N r n : Nat} {xs : List Nat} (hF : Sb f C B N r) (hl : xs.length = n) (hn : M.pay f = n) : ∃ sl, Sh f C B r (psc f C B xs) sl := by
  have hends := M.ends (f := f) (.inl hF.ok)
  rw [hn] at hends
  have hbit : M.bitS f ≤ 8 * (n : Int) := by have := hends.2.2.2.2; unfold M.bitF at this; rw [if_pos hF.ok.1] at this; exact this
  exact (M.sc_sh (Bt := Bits.bitsL xs) (n := xs.length) hF (by rw [hl]; exact hbit)).2

theorem alive_steps (w w1 w2 : World) (hT : Wave.Tab w) (hA : Alloc.Tabs w) (s1 : w1.heap.size = w.heap.size + 1) (hB : Bank.Bank w.heap.size [] 0 (w.heap.size + 1) w1) (b1 : Below w.heap.size w w1) (b2 : Below w1.heap.size w1 w2) :
    Calls Tryz.prog 27 #[.pointer (some ⟨w.heap.size, 0, none⟩), fv f0] w2 fun e w3 => ∃ p, e = .returned (.tuple #[.pointer (some ⟨p, 0, none⟩), .int .i64 0]) ∧
    Calls Tryz.prog 30 #[.pointer (some ⟨p, 0, none⟩), .slice (some ⟨w3.heap.size, 0, none⟩) 16 16] (w3.alloc (.cells (enc .i16 (List.replicate 16 0)).toArray 182)) fun e w4 => ∃ g0 cap, e = .returned (.tuple #[.slice (some ⟨g0, 0, none⟩) 7 cap, .int .i64 0]) ∧
    Calls Tryz.prog 30 #[.pointer (some ⟨p, 0, none⟩), .slice (some ⟨w4.heap.size, 0, none⟩) 15 15] (w4.alloc (.cells (enc .i16 (List.replicate 15 0)).toArray 182)) fun e w5 => e = .returned (.tuple #[.slice none 0 0, .int .i64 1]) ∧
    ∀ w6, Below w5.heap.size w5 w6 → Calls Tryz.prog 24 #[fv f0, .slice (some ⟨g0, 0, none⟩) 7 cap] w6 fun e w7 => ∃ aj az ac, e = .returned (.tuple #[.agg #[.slice (some ⟨aj, 0, none⟩) 4 4, .slice (some ⟨az, 0, none⟩) 1 1, .slice (some ⟨ac, 0, none⟩) 4 4], .int .i64 0]) ∧
      ∀ c t, (w7.alloc (.cells c t)).cell? ⟨g0, 0, none⟩ = some (.int .u8 156) ∧ (w7.alloc (.cells c t)).cell? ⟨g0, 1, none⟩ = some (.int .u8 0) ∧ (w7.alloc (.cells c t)).cell? ⟨g0, 2, none⟩ = some (.int .u8 2) ∧ Below w.heap.size w (w7.alloc (.cells c t)) := by
  have s2 := b2.size
  have b12 : Below w.heap.size w w2 := b1.trans (b2.mono (by omega))
  refine (NewEncoder_ok w.heap.size f0 1 4 4 0 (w.heap.size + 1) w2 (Bank.tab_below b12 (Nat.le_refl _) hT) (hB.below b2 (by omega)) f0_sb).mono ?_
  rintro e w3 ⟨p, l, lo, g, rfl, hl, he, hbt⟩
  have b3 : Below w.heap.size w w3 := Poly.below_but b12 hbt (Nat.le_refl _) (Nat.le_refl _)
  have s3 := hbt.size
  have hgl : ∀ c, c < 1 → w.heap.size ≤ g c := fun c hc => by have := he.gl hc; omega
  refine ⟨p, rfl, ?_⟩
  have hpl := he.lt
  have b3a : Below w3.heap.size w3 (w3.alloc (.cells (enc .i16 (List.replicate 16 0)).toArray 182)) := bel1 _ _
  have b03 := b3.trans (b3a.mono b3.size)
  obtain ⟨sl, hS⟩ := sh_of f0_sb (Z := M.anS f0 4 4 (M.enX 4 4 1 (List.replicate 16 0) (fun _ => List.replicate (10 * 4) 0))) (fun c _ b _ => M.anS_bd _ _ _ _ _ _)
  refine (Feed_ok p l 1 4 4 0 7 f0 lo g _ sl w3.heap.size (w3.heap.size + 1) (List.replicate 16 0) _ _ (fun wx hx => hA.below (b03.trans (hx.to_below hgl b03.size)) (Nat.le_refl _)) f0_sb (he.below b3a hpl) (Poly.reads_new16 w3 16) (by simp) (by simp) hS f0_pay).mono ?_
  rintro e w4 ⟨u, rfl, ho, he4, hl4⟩
  have b04 : Below w.heap.size w w4 := b03.trans (hl4.to_below hgl b03.size)
  obtain ⟨au, cu, rfl⟩ := Poly.own_form ho
  have hlen : (M.frb f0 1 4 4 0 sl (M.an f0 1 4 4 0 sl (M.enX 4 4 1 (List.replicate 16 0) (fun _ => List.replicate (10 * 4) 0))) 7).length = 7 := M.frb_length
  obtain ⟨FR, hFR⟩ : ∃ FR, M.frb f0 1 4 4 0 sl (M.an f0 1 4 4 0 sl (M.enX 4 4 1 (List.replicate 16 0) (fun _ => List.replicate (10 * 4) 0))) 7 = FR := ⟨_, rfl⟩
  have hhd := f0_head sl (M.an f0 1 4 4 0 sl (M.enX 4 4 1 (List.replicate 16 0) (fun _ => List.replicate (10 * 4) 0)))
  have hfr := fun sl' hS' => frame_is (sl' := sl') f0_sb (m := M.an f0 1 4 4 0 sl (M.enX 4 4 1 (List.replicate 16 0) (fun _ => List.replicate (10 * 4) 0))) (n := 7) hS (M.an_ok f0_sb) f0_pay (fun c _ b _ => M.anS_bd _ _ _ _ _ _) hS'
  have hlt : ∀ x ∈ FR, x < 256 := by rw [← hFR]; exact M.frb_lt
  rw [hFR] at ho hlen hhd
  have hg : Byt.Given w4 (.slice au 7 cu) FR := Byt.given_own (by rw [hlen]; exact ho) hlt
  obtain ⟨g0, rfl, hg0⟩ : ∃ g0, au = some ⟨g0, 0, none⟩ ∧ g0 < w4.heap.size := by
    rcases id ho.2 with ⟨_, h0⟩ | ⟨g0, cap, cur, h1, _, h3, _⟩
    · omega
    · cases h1; exact ⟨g0, rfl, (Array.getElem?_eq_some_iff.1 h3).1⟩
  have hcells : ∀ i x, FR[i]? = some x → w4.cell? ⟨g0, i, none⟩ = some (.int .u8 (x : Nat)) := fun i x hx => by
    have := ho.cells (g := g0) rfl i (.int .u8 (x : Nat)) (by rw [List.getElem?_map, hx]; rfl)
    rw [Poly.add_at] at this
    exact this
  refine ⟨g0, cu, rfl, ?_⟩
  have b4a : Below w4.heap.size w4 (w4.alloc (.cells (enc .i16 (List.replicate 15 0)).toArray 182)) := bel1 _ _
  refine (Feed_len p l 4 4 0 15 f0 lo g _ w4.heap.size (w4.heap.size + 1) (List.replicate 15 0) _ _ f0_sb (he4.below b4a he4.lt) (Poly.reads_new16 w4 15) (by simp) (by simp) (by omega) (by omega) (by omega)).mono ?_
  rintro e w5 ⟨rfl, b5⟩
  refine ⟨rfl, fun w6 b6 => ?_⟩
  have b45 : Below w4.heap.size w4 w5 := b4a.trans (b5.mono b4a.size)
  have b46 : Below w4.heap.size w4 w6 := b45.trans (b6.mono b45.size)
  have b06 := b04.trans (b46.mono b04.size)
  obtain ⟨sl', hS'⟩ := psc_sh (xs := FR) f0_sb hlen f0_pay
  have hf := hfr sl' (by rw [hFR]; exact hS')
  rw [hFR] at hf
  obtain ⟨rfl, _, hisF⟩ := hf
  refine (Parse_any f0 1 4 4 0 7 _ FR sl' w6 (hA.below b06 (Nat.le_refl _)) f0_sb hS' (hg.below b46 (Nat.le_refl _)) hlen f0_pay).mono ?_
  rintro e w7 ⟨b7, ⟨_, aj, az, ac, E, pf, rfl, _⟩ | ⟨hno, _⟩⟩
  · refine ⟨aj, az, ac, rfl, fun c t => ?_⟩
    have b67 := b46.trans (b7.mono b46.size)
    have b48 : Below w4.heap.size w4 (w7.alloc (.cells c t)) := b67.alloc b67.size _
    have b08 := b04.trans (b48.mono b04.size)
    exact ⟨(b48.cell (p := ⟨g0, 0, none⟩) hg0).trans (hcells 0 156 hhd.1), (b48.cell (p := ⟨g0, 1, none⟩) hg0).trans (hcells 1 0 hhd.2.1), (b48.cell (p := ⟨g0, 2, none⟩) hg0).trans (hcells 2 2 hhd.2.2), b08⟩
  · exact absurd hisF hno

set_option maxRecDepth 100000 in
theorem plain_any (w : World) : Calls Tryz.prog 40 #[] w fun e w' => e = .returned (fv f0) ∧ Below w.heap.size w w' := by
  have hb := bel1 w (.cells (fc f0) 23)
  have HB : Hid (Below w.heap.size w _) := hb
  obtain ⟨x0, x1, x2, x3, x4, x5, x6, x7, x8, x9⟩ := box_cells (Blk.new w (fc f0) 23)
  clear hb
  unfold fc f0 at HB x0 x1 x2 x3 x4 x5 x6 x7 x8 x9
  unfold fv f0
  dsimp only at HB x0 x1 x2 x3 x4 x5 x6 x7 x8 x9 ⊢
  go_enter Tryz.func40, Tryz.ntmps40
  go_wp2
  refine bodyPost_ret (v := .agg #[.int .i64 1, .int .i64 0, .int .i64 1, .int .i64 4, .int .i64 4, .int .i64 0, .int .i64 0, .int .i64 2, .int .i64 0, .int .i64 0]) (by simp [results, Tryz.results40, go_sem, x0, x1, x2, x3, x4, x5, x6, x7, x8, x9]) rfl ?_
  exact ⟨rfl, HB.out⟩

set_option maxRecDepth 100000 in
set_option maxHeartbeats 1000000 in
theorem alive_any (w : World) (hT : Wave.Tab w) (hA : Alloc.Tabs w) : Calls Tryz.prog 11 #[] w fun e w' => e = .returned (.bool true) ∧ Below w.heap.size w w' := by
  have hm16 : ∀ wx : World, (Instr.makeSlice 55 (.int .i64 16) (.int .i64 16)).run Tryz.prog wx = .ok (.slice (some ⟨wx.heap.size, 0, none⟩) 16 16) (wx.alloc (.cells (enc .i16 (List.replicate 16 0)).toArray 182)) := fun wx => Poly.make16 wx 16 (by omega)
  have hm15 : ∀ wx : World, (Instr.makeSlice 55 (.int .i64 15) (.int .i64 15)).run Tryz.prog wx = .ok (.slice (some ⟨wx.heap.size, 0, none⟩) 15 15) (wx.alloc (.cells (enc .i16 (List.replicate 15 0)).toArray 182)) := fun wx => Poly.make16 wx 15 (by omega)
  have hst := fun w1 w2 s1 hB b1 b2 => alive_steps w w1 w2 hT hA s1 hB b1 b2
  generalize (enc .i16 (List.replicate 16 0)).toArray = C16 at *
  generalize (enc .i16 (List.replicate 15 0)).toArray = C15 at *
  have hpl := fun wx => plain_any wx
  have HPl : Hid (∀ wx, Calls _ _ _ wx _) := hpl
  have HSt : Hid _ := hst
  clear hst hpl hT hA
  unfold fv f0 at HPl HSt
  dsimp only at HPl HSt
  go_enter Tryz.func11, Tryz.ntmps11
  go_wp2_with (first
    | (go_at_call 28; refine (Bank.new_any w).mono ?_; rintro e w1 ⟨rfl, s1, hB, b1⟩; have h1 := fun w2 b2 => HSt.out w1 w2 s1 hB b1 b2; have H1 : Hid _ := h1; clear HSt h1 s1 hB b1)
    | (go_at_call 40; refine (HPl.out _).mono ?_; rintro e w2 ⟨rfl, b2⟩; first | (have h1 := H1.out w2 b2; clear H1) | (have h4 := H4.out w2 b2; clear H4))
    | (go_at_call 27; refine h1.mono ?_; clear h1; rintro e w3 ⟨p, rfl, h2⟩; have H2 : Hid (Calls _ _ _ _ _) := h2; clear h2)
    | (go_at_call 30; first | (refine H2.out.mono ?_; clear H2; rintro e w4 ⟨g0, cap, rfl, h3⟩; have H3 : Hid (Calls _ _ _ _ _) := h3; clear h3) | (refine H3.out.mono ?_; clear H3; rintro e w5 ⟨rfl, h4⟩; have H4 : Hid _ := h4; clear h4))
    | (go_at_call 24; refine h4.mono ?_; clear h4; rintro e w7 ⟨aj, az, ac, rfl, h5⟩; obtain ⟨y0, y1, y2, hb⟩ := h5 #[.slice (some ⟨aj, 0, none⟩) 4 4, .slice (some ⟨az, 0, none⟩) 1 1, .slice (some ⟨ac, 0, none⟩) 4 4] 33; have HB : Hid (Below _ _ _) := hb; clear hb h5))
  go_ret
  exact ⟨rfl, HB.out⟩

end Sub
end Go.Proofs.YtcaifpjbjghhaaaGreatDoor

