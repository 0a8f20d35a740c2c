import Derived.Lib.AppendZeros
import Derived.Test.YtcaifpjbjghhaaaGreatDoorSubP29
import Derived.Test.YtcaifpjbjghhaaaGreatDoorSubP19
/-
  The sum of a frame: slices.Grow and slices.Concat of bytes, sumOf. Conditions: as told at each.
-/
namespace Go.Proofs.YtcaifpjbjghhaaaGreatDoor
set_option linter.unusedVariables false
open Go.RowKit
namespace Sub
open Bank (Blk)
open Byt (Given)
open Poly (cell_keep alloc_size)
open _root_.Go.Proofs.YtcaifpjbjghhaaaGreatDoor.Form (fv fc bel1 box_cells box_behind blk_below of_drew)

set_option maxRecDepth 100000 in
theorem Grow_nil (n : Nat) (w : World) (h0 : 0 < n) (hn : n ≤ 2000) :
    Calls Tryz.prog 184 #[.slice none 0 0, .int .i64 (n : Int)] w fun e w' => ∃ v, e = .returned v ∧ w'.ownsRow w.heap.size 5 1 v 0 [] ∧ Below w.heap.size w w' := by
  obtain ⟨i0, hi, hz0, hz1, hz2⟩ := info_parts Byt.info8
  have hrz : ∀ ty, (Builtin.append_ #[47, 3] ty #[.slice none 0 0, .int .i64 (n : Int)]).run Tryz.prog w = .ok (.slice (some ⟨w.heap.size, 0, none⟩) n (grownCap w n 0 5)) (w.drew.alloc (.cells (Builtin.zeroCells (Value.int .u8 0).cells n ++ Builtin.zeroCells (Value.int .u8 0).cells (grownCap w n 0 5 - n)) 5)) := fun ty =>
    Lib.run_append_nil_zeros w 47 3 ty 5 i0 (.int .u8 0) .i64 .i64 Tryz.underlying47 Tryz.underlying3 hi hz0 n h0 (by omega) (by omega) (by rw [hz2]; omega)
  have hge := grownCap_ge w n 0 5
  have hle := grownCap_le_maxLen w n 0 5 (by unfold maxLen; omega)
  generalize grownCap w n 0 5 = G at *
  have hG63 : G ≤ 9223372036854775807 := by unfold maxLen at hle; omega
  have hown := World.ownsRow_made (base := w.heap.size) (e := 5) (size := 1) w.drew (Builtin.zeroCells (Value.int .u8 0).cells n ++ Builtin.zeroCells (Value.int .u8 0).cells (G - n)) G (Nat.le_refl _) hle (by simp [Builtin.zeroCells, Value.cells]; omega)
  have hbel : Below w.heap.size w (w.drew.alloc (.cells (Builtin.zeroCells (Value.int .u8 0).cells n ++ Builtin.zeroCells (Value.int .u8 0).cells (G - n)) 5)) := ⟨rfl, rfl, rfl, by simp, fun k hk => Below.heap_alloc _ _ _ hk⟩
  generalize (Builtin.zeroCells (Value.int .u8 0).cells n ++ Builtin.zeroCells (Value.int .u8 0).cells (G - n)) = CC at *
  have HO : Hid ((w.alloc (.cells CC 5)).drew.ownsRow w.heap.size 5 1 (.slice (some ⟨w.heap.size, 0, none⟩) 0 G) 0 []) := hown
  have HB : Hid (Below w.heap.size w (w.alloc (.cells CC 5)).drew) := hbel
  clear hown hbel hi hz0 hz1 hz2 hle
  have n0 : (0 : Int) < n := by omega
  have nG : (n : Int) ≤ G := by omega
  go_enter Tryz.func184, Tryz.ntmps184
  go_wp2_with (at_builtin; refine Lib.wpList_append_run _ rfl _ _ _ _ rfl _ _ rfl rfl _ _ (hrz _) ?_)
  all_goals (go_ret; exact ⟨.slice (some ⟨w.heap.size, 0, none⟩) 0 G, rfl, HO.out, HB.out⟩)

theorem row_given {w : World} {base n : Nat} {v : Value} {xs : List Nat} (h : w.ownsRow base 5 1 v n (xs.map fun x : Nat => Value.int .u8 x)) (hl : xs.length = n) (hx : ∀ x ∈ xs, x < 256) : Given w v xs := Byt.given_own (by rw [hl]; exact h) hx

set_option maxRecDepth 100000 in
theorem Concat_2 (hd cap : Nat) (u v : Value) (xs ys : List Nat) (w : World) (hc0 : w.cell? ⟨hd, 0, none⟩ = some u) (hc1 : w.cell? ⟨hd, 1, none⟩ = some v) (hu : Given w u xs) (hv : Given w v ys) (hx : 0 < xs.length) (hy : 0 < ys.length) (hxl : xs.length ≤ 600) (hyl : ys.length ≤ 600) :
    Calls Tryz.prog 136 #[.slice (some ⟨hd, 0, none⟩) 2 cap] w fun e w' => ∃ z, e = .returned z ∧ Given w' z (xs ++ ys) ∧ Below w.heap.size w w' := by
  obtain ⟨i0, hi, hz0, hz1, hz2⟩ := info_parts Byt.info8
  obtain ⟨au, cu, rfl, hcu⟩ := hu.form
  obtain ⟨av, cv, rfl, hcv⟩ := hv.form
  have hltx := hu.lt
  have hlty := hv.lt
  obtain ⟨bu, ou, rfl, hbu, _⟩ := hu.cell (i := 0) hx
  obtain ⟨bv, ov, rfl, hbv, _⟩ := hv.cell (i := 0) hy
  have hcx : ∀ wx, Below w.heap.size w wx → ∀ j z, (xs.map fun x : Nat => Value.int .u8 x)[j]? = some z → wx.cell? ((⟨bu, ou, none⟩ : Addr).add j) = some z := by
    intro wx hb j z hz
    obtain ⟨x, hxj, rfl⟩ : ∃ x, xs[j]? = some x ∧ Value.int .u8 x = z := by simpa using hz
    obtain ⟨b, o, e, hb', hcell⟩ := hu.cell (i := j) (List.getElem?_eq_some_iff.1 hxj).1
    cases e
    rw [Go.WideShapes.add_plain, hb.cell hb', hcell]
    simp [List.getD, hxj]
  have hcy : ∀ wx, Below w.heap.size w wx → ∀ j z, (ys.map fun x : Nat => Value.int .u8 x)[j]? = some z → wx.cell? ((⟨bv, ov, none⟩ : Addr).add j) = some z := by
    intro wx hb j z hz
    obtain ⟨x, hxj, rfl⟩ : ∃ x, ys[j]? = some x ∧ Value.int .u8 x = z := by simpa using hz
    obtain ⟨b, o, e, hb', hcell⟩ := hv.cell (i := j) (List.getElem?_eq_some_iff.1 hxj).1
    cases e
    rw [Go.WideShapes.add_plain, hb.cell hb', hcell]
    simp [List.getD, hxj]
  have h1x : ∀ z ∈ (xs.map fun x : Nat => Value.int .u8 x), z.oneCell' = true := fun z hz => by obtain ⟨x, _, rfl⟩ := List.mem_map.1 hz; rfl
  have h1y : ∀ z ∈ (ys.map fun x : Nat => Value.int .u8 x), z.oneCell' = true := fun z hz => by obtain ⟨x, _, rfl⟩ := List.mem_map.1 hz; rfl
  have HCx : Hid _ := hcx
  have HCy : Hid _ := hcy
  clear hu hv hcx hcy
  have hhd : hd < w.heap.size := World.block_lt_of_cell? w _ hc0
  go_enter Tryz.func136, Tryz.ntmps136
  go_wp2
  go_loopw [3, 11] (fun s i wr => ∃ q : Nat, q ≤ 2 ∧ i = .int .i64 q ∧ s = .int .i64 ((if q = 0 then 0 else if q = 1 then xs.length else xs.length + ys.length : Nat) : Int) ∧ wr = w) (fun _ i _ => 2 - (intOf i).toNat)
  case atStart => exact ⟨0, by omega, rfl, rfl, rfl⟩
  case round =>
    obtain ⟨q, hq, rfl, rfl, hw⟩ := hrel
    have hw' := hw.symm
    clear hw
    subst hw'
    have hq' : q = 0 ∨ q = 1 ∨ q = 2 := by omega
    rcases hq' with rfl | rfl | rfl
    · go_wp2
      go_roundw
      case rel => exact ⟨1, by omega, by go_num, by go_num, trivial⟩
      case measure => simp [intOf]
    · go_wp2
      go_roundw
      case rel => exact ⟨2, by omega, by go_num, by go_num, trivial⟩
      case measure => simp [intOf]
    · go_wp2_with (go_at_call 184; refine (Grow_nil (xs.length + ys.length) _ (by omega) (by omega)).mono ?_; rintro e w2 ⟨v2, rfl, own2, bel2⟩; have O2 : Hid (w2.ownsRow w.heap.size 5 1 v2 0 []) := own2; have B2 : Hid (Below w.heap.size w w2) := bel2; have HL2 : Hid (∀ k, v2.ownBlock = some k → w.heap.size ≤ k) := Byt.owns_block own2; clear own2)
      have e0 : w2.cell? ⟨hd, 0, none⟩ = _ := (bel2.cell hhd).trans hc0
      have e1 : w2.cell? ⟨hd, 1, none⟩ = _ := (bel2.cell hhd).trans hc1
      clear hc0 hc1 bel2
      go_loopw [6, 27] (fun s i wr => ∃ q : Nat, q ≤ 2 ∧ i = .int .i64 q ∧ wr.ownsRow w.heap.size 5 1 s (if q = 0 then 0 else if q = 1 then xs.length else xs.length + ys.length) ((if q = 0 then [] else if q = 1 then xs else xs ++ ys).map fun x : Nat => Value.int .u8 x) ∧ Below w.heap.size w wr) (fun _ i _ => 2 - (intOf i).toNat)
      case atStart => exact ⟨0, by omega, rfl, by simpa using O2.out, B2.out⟩
      case round =>
        clear O2 HL2
        obtain ⟨q, hq, rfl, hown, bel⟩ := hrel
        have f0 := (bel.cell (p := ⟨hd, 0, none⟩) hhd).trans ((B2.out.cell (p := ⟨hd, 0, none⟩) hhd).symm.trans e0)
        have f1 := (bel.cell (p := ⟨hd, 1, none⟩) hhd).trans ((B2.out.cell (p := ⟨hd, 1, none⟩) hhd).symm.trans e1)
        have hbs := bel.size
        have hq' : q = 0 ∨ q = 1 ∨ q = 2 := by omega
        rcases hq' with rfl | rfl | rfl
        · rw [if_pos rfl, if_pos rfl] at hown
          have hcl := HCx.out wr bel
          have hob := Byt.owns_block hown
          have HOb : Hid _ := hob
          have HBe : Hid (Below w.heap.size w wr) := bel
          clear bel hob
          go_wp2_with (at_builtin; refine wpList_append_own _ rfl (.tmp 31) (.tmp 32) 47 rfl w.heap.size 5 i0 (.int .u8 0) 1 1 Tryz.underlying47 hi hz0 hz1 hz2 rfl (by decide) _ _ _ rfl hown ⟨bu, ou, none⟩ xs.length cu (xs.map fun x : Nat => Value.int .u8 x) rfl (by simp) hcl h1x (by unfold maxLen; omega) (by omega) hbs ?_; intro v' w1 hown' hgrow _; have HO1 : Hid (w1.ownsRow w.heap.size 5 1 v' (0 + xs.length) _) := hown'; have HG1 : Hid (World.grownBy wr w1 _) := hgrow; clear hown' hgrow)
          go_roundw
          case rel => exact ⟨1, by omega, by go_num, by simpa using HO1.out, HBe.out.grown HG1.out hbs HOb.out⟩
          case measure => simp [intOf]
        · rw [if_neg (by omega), if_pos rfl, if_neg (by omega), if_pos rfl] at hown
          have hcl := HCy.out wr bel
          have hob := Byt.owns_block hown
          have HOb : Hid _ := hob
          have HBe : Hid (Below w.heap.size w wr) := bel
          clear bel hob
          go_wp2_with (at_builtin; refine wpList_append_own _ rfl (.tmp 31) (.tmp 32) 47 rfl w.heap.size 5 i0 (.int .u8 0) 1 1 Tryz.underlying47 hi hz0 hz1 hz2 rfl (by decide) _ _ _ rfl hown ⟨bv, ov, none⟩ ys.length cv (ys.map fun x : Nat => Value.int .u8 x) rfl (by simp) hcl h1y (by unfold maxLen; omega) (by omega) hbs ?_; intro v' w1 hown' hgrow _; have HO1 : Hid (w1.ownsRow w.heap.size 5 1 v' (xs.length + ys.length) _) := hown'; have HG1 : Hid (World.grownBy wr w1 _) := hgrow; clear hown' hgrow)
          go_roundw
          case rel => exact ⟨2, by omega, by go_num, by simpa using HO1.out, HBe.out.grown HG1.out hbs HOb.out⟩
          case measure => simp [intOf]
        · rw [if_neg (by omega), if_neg (by omega), if_neg (by omega), if_neg (by omega)] at hown
          have HOn : Hid (wr.ownsRow _ _ _ _ _ _) := hown
          have HBe : Hid (Below w.heap.size w wr) := bel
          clear bel hown
          go_wp2
          go_ret
          exact ⟨_, rfl, row_given HOn.out (by simp) (fun x hx => by rcases List.mem_append.1 hx with h | h; exact hltx x h; exact hlty x h), HBe.out⟩

def sbits (f : M.Fmt) (B C : Nat) : Nat := 16 + 4 * (B * C) + (if f.j = 1 then B else 0)
theorem knd8 : Chk.Knd 8 15 29 := Or.inl ⟨rfl, rfl, rfl⟩

theorem run_mid (b o l c : Nat) (hl : 3 ≤ l) (hc : l ≤ c) (w : World) : (Instr.slice 47 (.slice (some ⟨b, o, none⟩) l c) (some (.int .i64 1)) (some (.int .i64 3)) none).run Tryz.prog w = .ok (.slice (some ⟨b, o + 1, none⟩) 2 (c - 1)) w := by
  rw [run_slice_lh (P := Tryz.prog) w 47 (some ⟨b, o, none⟩) l c (by rw [Byt.elem8]; exact Tryz.underlying47) .i64 .i64 1 3 (by omega) (by omega) (by omega), Byt.elem8, Byt.size8]
  show Result.ok (Go.sliced (some ⟨b, o, none⟩) 1 3 c 1) w = _
  unfold Go.sliced
  rw [if_neg (by omega)]
  simp [Go.WideShapes.add_plain]
theorem run_four (b o l c : Nat) (hl : 4 < l) (hc : l ≤ c) (w : World) : (Instr.slice 47 (.slice (some ⟨b, o, none⟩) l c) (some (.int .i64 4)) none none).run Tryz.prog w = .ok (.slice (some ⟨b, o + 4, none⟩) (l - 4) (c - 4)) w := by
  have h := Byt.run_rest (some ⟨b, o, none⟩) l c 4 (by omega) w
  rw [show Byt.from_ (some ⟨b, o, none⟩) c 4 = some ⟨b, o + 4, none⟩ by unfold Byt.from_; rw [if_neg (by omega)]; simp [Go.WideShapes.add_plain]] at h
  exact h
def sbyt (xs : List Nat) : List Nat := (xs.drop 1).take 2 ++ xs.drop 4

set_option maxRecDepth 100000 in
theorem sumOf_any (f : M.Fmt) (C B N r : Nat) (vb : Value) (xs : List Nat) (w : World) (hF : Sb f C B N r) (hb : Given w vb xs) (hl : 7 ≤ xs.length) (hl2 : xs.length ≤ 512) (hn : sbits f B C ≤ 8 * (xs.length - 2)) :
    Calls Tryz.prog 73 #[fv f, vb] w fun e w' => e = .returned (.int .u8 (M.run 8 29 (M.bitL (sbyt xs)) 15 (sbits f B C) : Nat)) ∧ Below w.heap.size w w' := by
  obtain ⟨av, cv, rfl, hcv⟩ := hb.form
  obtain ⟨bb, o, rfl, hbb, _⟩ := hb.cell (i := 0) (by omega)
  have hm := run_mid bb o xs.length cv (by omega) hcv
  have hf := run_four bb o xs.length cv (by omega) hcv
  have g1 : Given w (.slice (some ⟨bb, o + 1, none⟩) 2 (cv - 1)) ((xs.drop 1).take 2) := by
    have h1 := hb.drop 1 (by omega)
    rw [show Byt.from_ (some ⟨bb, o, none⟩) cv 1 = some ⟨bb, o + 1, none⟩ by unfold Byt.from_; rw [if_neg (by omega)]; simp [Go.WideShapes.add_plain]] at h1
    have h2 := h1.head 2 (by simp; omega)
    rw [show Byt.head_ (some ⟨bb, o + 1, none⟩) (cv - 1) = some ⟨bb, o + 1, none⟩ by unfold Byt.head_; rw [if_neg (by omega)]; simp [Go.WideShapes.add_plain]] at h2
    exact h2
  have g2 : Given w (.slice (some ⟨bb, o + 4, none⟩) (xs.length - 4) (cv - 4)) (xs.drop 4) := by
    have h1 := hb.drop 4 (by omega)
    rw [show Byt.from_ (some ⟨bb, o, none⟩) cv 4 = some ⟨bb, o + 4, none⟩ by unfold Byt.from_; rw [if_neg (by omega)]; simp [Go.WideShapes.add_plain]] at h1
    exact h1
  have l1 : ((xs.drop 1).take 2).length = 2 := by simp; omega
  have l2 : (xs.drop 4).length = xs.length - 4 := by simp
  have hlt : M.run 8 29 (M.bitL (sbyt xs)) 15 (sbits f B C) < 256 := M.run_lt 8 29 15 _ _ (by decide) (by decide)
  have hkb : ∀ z wx, Given wx z (sbyt xs) → Calls Tryz.prog 135 #[.int .i64 8, z, .int .i64 (sbits f B C : Nat)] wx fun e w' => e = .returned (.tuple #[.int .u32 (M.run 8 29 (M.bitL (sbyt xs)) 15 (sbits f B C) : Nat), .int .i64 0]) ∧ Below wx.heap.size wx w' := fun z wx hz =>
    Chk.Bits_ok 8 15 29 z (sbyt xs) (sbits f B C) wx knd8 hz (by simp [sbyt]; omega) (by simp [sbyt]; omega)
  have hkc : ∀ wx, Below w.heap.size w wx → Calls Tryz.prog 136 #[.slice (some ⟨wx.heap.size, 0, none⟩) 2 2] (wx.alloc (.cells #[.slice (some ⟨bb, o + 1, none⟩) 2 (cv - 1), .slice (some ⟨bb, o + 4, none⟩) (xs.length - 4) (cv - 4)] 47)) fun e w' => ∃ z, e = .returned z ∧ Given w' z (sbyt xs) ∧ Below w.heap.size w w' := fun wx hbx => by
    have hb2 := (Below.refl _ wx).alloc (Nat.le_refl _) (.cells #[.slice (some ⟨bb, o + 1, none⟩) 2 (cv - 1), .slice (some ⟨bb, o + 4, none⟩) (xs.length - 4) (cv - 4)] 47)
    have hb3 : Below w.heap.size w (wx.alloc (.cells #[.slice (some ⟨bb, o + 1, none⟩) 2 (cv - 1), .slice (some ⟨bb, o + 4, none⟩) (xs.length - 4) (cv - 4)] 47)) := hbx.trans (hb2.mono hbx.size)
    have hblk := Bank.Blk.new wx #[.slice (some ⟨bb, o + 1, none⟩) 2 (cv - 1), .slice (some ⟨bb, o + 4, none⟩) (xs.length - 4) (cv - 4)] 47
    refine (Concat_2 wx.heap.size 2 _ _ _ _ _ (hblk.cell (o := 0) rfl) (hblk.cell (o := 1) rfl) (g1.below hb3 (Nat.le_refl _)) (g2.below hb3 (Nat.le_refl _)) (by omega) (by omega) (by omega) (by omega)).mono ?_
    rintro e w' ⟨z, he, hg, hbl⟩
    exact ⟨z, he, hg, hb3.trans (hbl.mono hb3.size)⟩
  replace hkc : ∀ ob, Calls Tryz.prog 136 #[.slice (some ⟨w.heap.size + 1, 0, none⟩) 2 2] ((w.alloc ob).alloc (.cells #[.slice (some ⟨bb, o + 1, none⟩) 2 (cv - 1), .slice (some ⟨bb, o + 4, none⟩) (xs.length - 4) (cv - 4)] 47)) fun e w' => ∃ z, e = .returned z ∧ Given w' z (sbyt xs) ∧ Below w.heap.size w w' := fun ob => by
    have h := hkc (w.alloc ob) (bel1 _ _)
    rw [alloc_size] at h
    exact h
  have HB : Hid _ := hkb
  have HC : Hid _ := hkc
  have hxl : 7 ≤ xs.length ∧ xs.length ≤ 512 := ⟨hl, hl2⟩
  have hj := hF.joint
  have c2 := hF.c2
  have b8 := hF.b8
  have e1 := hF.hC
  have e2 := hF.hB
  clear hkb hkc g1 g2 l1 l2 hb hF hn
  generalize hR : M.run 8 29 (M.bitL (sbyt xs)) 15 (sbits f B C) = R at *
  generalize hS : sbits f B C = S at *
  generalize sbyt xs = ys at *
  have hw : IntKind.u8.wrap (R : Int) = R := by rw [IntKind.wrap_u8']; omega
  have hS' : S = 16 + 4 * (B * C) + (if f.j = 1 then B else 0) := hS.symm
  clear hR hS
  obtain ⟨c_, r_, h_, b_, k_, m_, j_, p_, l_, y_⟩ := f
  dsimp only at hS' hj e1 e2
  subst e1 e2
  unfold fv
  have i0 : (0 : Int) ≤ xs.length := by omega
  have i1 : (7 : Int) ≤ xs.length := by omega
  rcases c2 with rfl | rfl <;> rcases b8 with rfl | rfl <;> rcases hj with rfl | ⟨rfl, h2⟩
  all_goals (try (exact absurd h2 (by decide)))
  all_goals (
    first | rw [if_neg (by decide)] at hS' | rw [if_pos rfl] at hS'
    simp at hS'
    subst hS'
    dsimp only
    go_enter Tryz.func73, Tryz.ntmps73
    go_wp2_with (first
      | (go_at_call 136; refine (HC.out _).mono ?_; clear HC; rintro e w2 ⟨z, rfl, g2, b2⟩; have hkb := HB.out z w2 g2; have B2 : Hid (Below w.heap.size w w2) := b2; clear b2 g2)
      | (go_at_call 135; refine hkb.mono ?_; clear hkb; rintro e w3 ⟨rfl, b3⟩; have B3 : Hid (Below w2.heap.size w2 w3) := b3; clear b3))
    go_ret
    exact ⟨rfl, B2.out.trans (B3.out.mono B2.out.size)⟩)

end Sub
end Go.Proofs.YtcaifpjbjghhaaaGreatDoor

