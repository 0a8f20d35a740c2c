import Derived.Test.YtcaifpjbjghhaaaGreatDoorSubP39
import Derived.Test.YtcaifpjbjghhaaaGreatDoorSubP30
import Derived.Test.YtcaifpjbjghhaaaGreatDoorSubP37
/-
  Contracts of joinsOf and mixed: two channels joined. Conditions: as told at each.
-/
namespace Go.Proofs.YtcaifpjbjghhaaaGreatDoor
set_option linter.unusedVariables false
open Go.RowKit Go.Shelf
namespace M
def jn2 (F G : Nat → Nat → Int) (n C : Nat) (b : Nat) : Int := if jb (tg F G n) (tg (fun i b => hs (F i b) (G i b)) (fun i b => hd (F i b) (G i b)) n) C b then 1 else 0
end M
namespace Sub
open Bank (Blk)
open Poly (Reads cell_keep alloc_size)
open _root_.Go.Proofs.YtcaifpjbjghhaaaGreatDoor.Form (fv fc bel1 Says box_cells box_behind blk_below of_drew)

theorem bD {N : Nat} {a w : World} (h : Below N a w) : Below N a w.drew := ⟨h.os, h.tape, h.output, h.size, h.block⟩
theorem Rw.lt {a B : Nat} {f : Nat → Int} {w : World} (h : Rw a B f w) : a < w.heap.size := by
  obtain ⟨tab, h1, h2⟩ := h; exact h1.lt
theorem Rw.ext {a B : Nat} {f g : Nat → Int} {w : World} (h : Rw a B f w) (e : ∀ b, b < B → f b = g b) : Rw a B g w := by
  obtain ⟨tab, h1, h2, h3⟩ := h; exact ⟨tab, h1, h2, fun b hb => by rw [← e b hb]; exact h3 b hb⟩
theorem Rw.v1 {a B : Nat} {f : Nat → Int} {w : World} (h : Rw a B f w) : V1 .i64 (a + 1) (.slice (some ⟨a, 0, none⟩) B B) B f w := ⟨a, 0, B, rfl, Nat.le_refl _, by omega, fun b hb => by rw [Nat.zero_add]; exact (h.at hb).1⟩

set_option maxRecDepth 100000 in
set_option maxHeartbeats 4000000 in
theorem joinsOf_ok (hi pb po pc : Nat) (va vb : Value) (N B : Nat) (F G : Nat → Nat → Int) (w : World) (hpb : pb < w.heap.size) (h0 : w.cell? ⟨pb, po, none⟩ = some va) (h1 : w.cell? ⟨pb, po + 1, none⟩ = some vb) (ha : Qnt.Vw hi va N B F w) (hb : Qnt.Vw hi vb N B G w) (hF : Qnt.F32 F) (hG : Qnt.F32 G)
    (hh : hi ≤ w.heap.size) (n1 : 1 ≤ N) (n40 : N ≤ 40) (b1 : 1 ≤ B) (b8 : B ≤ 8) :
    Calls Tryz.prog 45 #[.slice (some ⟨pb, po, none⟩) 2 pc] w fun e w' => ∃ g, e = .returned (.slice (some ⟨g, 0, none⟩) B B) ∧ Below w.heap.size w w' ∧ w.heap.size ≤ g ∧ Rw g B (M.jn2 F G N B) w' := by
  obtain ⟨ba, oa, ca, rfl⟩ := ha.form
  obtain ⟨bb, ob, cb, rfl⟩ := hb.form
  have hkj := Qnt.Joins_ok hi _ _ N B F G w.drew ha hb hF hG n1 n40 b1 b8 hh
  have HJ : Hid (Calls _ _ _ _ _) := hkj
  have HC : Hid (∀ wx, Below w.heap.size w wx → wx.cell? ⟨pb, po, none⟩ = some (.slice (some ⟨ba, oa, none⟩) N ca) ∧ wx.cell? ⟨pb, po + 1, none⟩ = some (.slice (some ⟨bb, ob, none⟩) N cb)) := fun wx hb => ⟨(hb.cell (p := ⟨pb, po, none⟩) hpb).trans h0, (hb.cell (p := ⟨pb, po + 1, none⟩) hpb).trans h1⟩
  have C0 : Hid (w.drew.cell? ⟨pb, po, none⟩ = some (.slice (some ⟨ba, oa, none⟩) N ca) ∧ w.drew.cell? ⟨pb, po + 1, none⟩ = some (.slice (some ⟨bb, ob, none⟩) N cb)) := ⟨h0, h1⟩
  have HI : Hid (∀ b, M.jn2 F G N B b = if M.jb (M.tg F G N) (M.tg (fun i b => M.hs (F i b) (G i b)) (fun i b => M.hd (F i b) (G i b)) N) B b then 1 else 0) := fun b => rfl
  clear hkj h0 h1 ha hb hF hG
  generalize M.jb (M.tg F G N) (M.tg (fun i b => M.hs (F i b) (G i b)) (fun i b => M.hd (F i b) (G i b)) N) B = JB at *
  generalize M.jn2 F G N B = JN at *
  have B0 : (0 : Int) ≤ B := by omega
  have hmk := fun wx => mkI wx B (by omega)
  go_enter Tryz.func45, Tryz.ntmps45
  go_wp2
  go_region_held3 (fun wx => wx.cell? ⟨pb, po, none⟩ = some (.slice (some ⟨ba, oa, none⟩) N ca) ∧ wx.cell? ⟨pb, po + 1, none⟩ = some (.slice (some ⟨bb, ob, none⟩) N cb))
    (first | exact C0.out | exact C1.out)
    (first | (go_at_call 104; refine HJ.out.mono ?_; clear HJ; rintro e w2 ⟨g, rfl, b2, lg, tb⟩; have bel2 : Below w.heap.size w w2 := of_drew b2; have C1 : Hid _ := HC.out w2 bel2; have B2 : Hid (Below w.heap.size w w2) := bel2; have TB : Hid (Qnt.TbV _ _ _ _ _) := tb; have LG : Hid (w.heap.size ≤ g) := lg; clear bel2 b2 tb lg))
  all_goals (
    have hst : Rw w2.heap.size B (fun b => if b < 0 ∧ JB b = true then 1 else 0) (w2.alloc (.cells (zers .i64 B) 3)) := (Rw.new w2 B).ext fun b _ => by rw [if_neg (by omega)]
    have htb : Qnt.TbV g 4 B (fun b => .bool (JB b)) (w2.alloc (.cells (zers .i64 B) 3)) := by
      obtain ⟨tab, k1, k2⟩ := TB.out; exact ⟨tab, Blk.alloc k1 _, k2⟩
    have HST : Hid (Rw _ _ _ _) := hst
    have HTB : Hid (Qnt.TbV _ _ _ _ _) := htb
    have hgl := Qnt.TbV.lt TB.out
    have hz2 := B2.out.size
    clear hst htb TB C1 C0 HC
    go_wp2
    go_loopw [23] (fun i wr => ∃ q : Nat, q ≤ B ∧ i = .int .i64 q ∧ Below w.heap.size w wr ∧ Rw w2.heap.size B (fun b => if b < q ∧ JB b = true then 1 else 0) wr ∧ Qnt.TbV g 4 B (fun b => .bool (JB b)) wr) (fun i _ => B - (intOf i).toNat)
    case atStart => exact ⟨0, by omega, rfl, B2.out.alloc hz2 _, HST.out, HTB.out⟩
    case round =>
      clear HST HTB
      obtain ⟨q, hq, rfl, bel, rw', tb'⟩ := hrel
      have RW : Hid (Rw _ _ _ _) := rw'
      have TBr : Hid (Qnt.TbV _ _ _ _ _) := tb'
      have BE : Hid (Below w.heap.size w wr) := bel
      by_cases hlt : q < B
      · have hlt' : (q : Int) < B := by omega
        have k0 := tb'.cell hlt
        obtain ⟨k1, k2⟩ := rw'.at hlt
        clear rw' tb' bel
        cases hJ : JB q with
        | true =>
          rw [hJ] at k0
          have HJq : Hid (JB q = true) := hJ
          clear hJ
          go_wp2
          go_roundw
          case rel =>
            have hs := RW.out.set q 1
            have hTB := TBr.out
            refine ⟨q + 1, by omega, by go_num, BE.out.trans (set_below (by show w.heap.size ≤ w2.heap.size; omega) _), hs.ext fun b hb => ?_, ?_⟩
            · try dsimp only
              unfold up1
              by_cases e : b = q
              · subst e; rw [if_pos rfl, if_pos ⟨by omega, HJq.out⟩]
              · rw [if_neg e]
                try dsimp only
                by_cases hb2 : b < q
                · by_cases hj : JB b = true
                  · rw [if_pos ⟨hb2, hj⟩, if_pos ⟨by omega, hj⟩]
                  · rw [if_neg (fun h => hj h.2), if_neg (fun h => hj h.2)]
                · rw [if_neg (fun h => hb2 h.1), if_neg (fun h => hb2 (by omega))]
            · obtain ⟨tab, t1, t2⟩ := hTB
              exact ⟨tab, t1.set_ne (by show g ≠ w2.heap.size; omega) _, t2⟩
          case measure => simp [intOf]; omega
        | false =>
          rw [hJ] at k0
          have HJq : Hid (JB q = false) := hJ
          clear hJ
          go_wp2
          go_roundw
          case rel =>
            refine ⟨q + 1, by omega, by go_num, BE.out, RW.out.ext fun b hb => ?_, TBr.out⟩
            try dsimp only
            by_cases hj : JB b = true
            · by_cases hb2 : b < q
              · rw [if_pos ⟨hb2, hj⟩, if_pos ⟨by omega, hj⟩]
              · have : b ≠ q := fun e => by rw [e, HJq.out] at hj; cases hj
                rw [if_neg (fun h => hb2 h.1), if_neg (fun h => hb2 (by omega))]
            · rw [if_neg (fun h => hj h.2), if_neg (fun h => hj h.2)]
          case measure => simp [intOf]; omega
      · obtain rfl : q = B := by omega
        clear rw' tb' bel
        go_wp2
        go_ret
        refine ⟨w2.heap.size, rfl, BE.out, hz2, RW.out.ext fun b hb => ?_⟩
        try dsimp only
        rw [HI.out b]
        by_cases hj : JB b = true
        · rw [if_pos ⟨hb, hj⟩, if_pos hj]
        · rw [if_neg (fun h => hj h.2), if_neg hj])

structure Mx (K : FuncId) (P Q : Int → Int → Int) : Prop where
  ent : Enters Tryz.prog K
  does : ∀ (hi : Nat) (va vb : Value) (n C : Nat) (F G : Nat → Nat → Int) (w : World), Qnt.Vw hi va n C F w → Qnt.Vw hi vb n C G w → Qnt.F32 F → Qnt.F32 G → 1 ≤ n → n ≤ 40 → 1 ≤ C → C ≤ 8 → hi ≤ w.heap.size →
    Calls Tryz.prog K #[va, vb] w fun e w' => e = .returned (.tuple #[.slice (some ⟨w.heap.size, 0, none⟩) n n, .slice (some ⟨w.heap.size + 1 + n, 0, none⟩) n n, .int .i64 0]) ∧ Qnt.Two w.heap.size (w.heap.size + 1 + n) n C (n * C) (fun i b => P (F i b) (G i b)) (fun i b => Q (F i b) (G i b)) w w'
theorem mx_middle : Mx 47 M.hs M.hd := ⟨enters_of Tryz.func47 (by kernel_rfl) rfl, fun hi va vb n C F G w h1 h2 h3 h4 h5 h6 h7 h8 h9 => Qnt.Middle_ok hi va vb n C F G w h1 h2 h3 h4 h5 h6 h7 h8 h9⟩
def mf (J : Nat → Int) (F R : Nat → Nat → Int) (i0 q : Nat) (i b : Nat) : Int := if (i < i0 ∨ (i = i0 ∧ b < q)) ∧ J b = 0 then F i b else R i b
def mfin (J : Nat → Int) (F R : Nat → Nat → Int) (i b : Nat) : Int := if J b = 0 then F i b else R i b
theorem mf_row {J : Nat → Int} {F R : Nat → Nat → Int} {i0 B i b : Nat} (hb : b < B) : mf J F R i0 B i b = mf J F R (i0 + 1) 0 i b := by
  unfold mf
  by_cases h : (i < i0 ∨ (i = i0 ∧ b < B)) ∧ J b = 0
  · rw [if_pos h, if_pos ⟨by omega, h.2⟩]
  · rw [if_neg h, if_neg (fun h' => h ⟨by omega, h'.2⟩)]
theorem mf_end {J : Nat → Int} {F R : Nat → Nat → Int} {N i b : Nat} (hi : i < N) : mf J F R N 0 i b = mfin J F R i b := by
  unfold mf mfin
  by_cases h : J b = 0
  · rw [if_pos ⟨by omega, h⟩, if_pos h]
  · rw [if_neg (fun h' => h h'.2), if_neg h]
theorem pln_grd {a n C : Nat} {F : Nat → Nat → Int} {w : World} (h : Qnt.Pln a n C (n * C) F w) : Grd .i32 21 97 a n C F w := by
  refine ⟨h.head, fun i hi => ?_⟩
  obtain ⟨tab, t1, t2, t3⟩ := h.row i hi
  refine ⟨tab, t1, t2, fun b hb => t3 b hb ?_⟩
  have : (i + 1) * C ≤ n * C := Nat.mul_le_mul_right C hi
  rw [Nat.succ_mul] at this
  omega
theorem mf_skip {J : Nat → Int} {F R : Nat → Nat → Int} {a N B i0 q : Nat} {w : World} (h : Grd .i32 21 97 a N B (mf J F R i0 q) w) (hJ : J q ≠ 0) : Grd .i32 21 97 a N B (mf J F R i0 (q + 1)) w := h.ext fun i _ b _ => by
  unfold mf
  by_cases hb : J b = 0
  · have hbq : b ≠ q := fun e => hJ (e ▸ hb)
    by_cases hc : i < i0 ∨ (i = i0 ∧ b < q)
    · rw [if_pos ⟨hc, hb⟩, if_pos ⟨by omega, hb⟩]
    · rw [if_neg (fun h => hc h.1), if_neg (fun h => hc (by omega))]
  · rw [if_neg (fun h => hb h.2), if_neg (fun h => hb h.2)]
theorem mf_set {J : Nat → Int} {F R : Nat → Nat → Int} {a N B i0 q : Nat} {w : World} (h : Grd .i32 21 97 a N B (mf J F R i0 q) w) (hi : i0 < N) (hq : q < B) (hJ : J q = 0) {x : Int} (hx : x = F i0 q) : Grd .i32 21 97 a N B (mf J F R i0 (q + 1)) (w.setCell ⟨a + 1 + i0, q, none⟩ (.int .i32 x)) := by
  refine h.set hi hq ?_ fun i' b' _ _ hne => ?_
  · unfold mf; rw [if_pos ⟨.inr ⟨rfl, by omega⟩, hJ⟩]; exact hx
  · unfold mf
    by_cases hb : J b' = 0
    · by_cases hc : i' < i0 ∨ (i' = i0 ∧ b' < q)
      · rw [if_pos ⟨by omega, hb⟩, if_pos ⟨hc, hb⟩]
      · rw [if_neg (fun h => hc (by omega)), if_neg (fun h => hc h.1)]
    · rw [if_neg (fun h => hb h.2), if_neg (fun h => hb h.2)]

set_option maxRecDepth 100000 in
set_option maxHeartbeats 8000000 in
theorem mixed_any (K : FuncId) (P Q : Int → Int → Int) (hM : Mx K P Q) (hi hj pb po pc : Nat) (va vb vj : Value) (N B : Nat) (F G : Nat → Nat → Int) (J : Nat → Int) (w : World) (hpb : pb < w.heap.size) (h0 : w.cell? ⟨pb, po, none⟩ = some va) (h1 : w.cell? ⟨pb, po + 1, none⟩ = some vb) (ha : V2 .i32 hi va N B F w) (hb : V2 .i32 hi vb N B G w) (hF : Qnt.F32 F) (hG : Qnt.F32 G)
    (hJ : V1 .i64 hj vj B J w) (hh : hi ≤ w.heap.size) (hhj : hj ≤ w.heap.size) (n1 : 1 ≤ N) (n40 : N ≤ 40) (b1 : 1 ≤ B) (b8 : B ≤ 8) :
    Calls Tryz.prog 46 #[.slice (some ⟨pb, po, none⟩) 2 pc, vj, .func (.func K) #[] #[]] w fun e w' => ∃ g a b, e = .returned (.slice (some ⟨g, 0, none⟩) 2 2) ∧ (w.heap.size ≤ g ∧ w.heap.size ≤ a ∧ w.heap.size ≤ b) ∧ Below w.heap.size w w' ∧ Blk w' g #[.slice (some ⟨a, 0, none⟩) N N, .slice (some ⟨b, 0, none⟩) N N] 82 ∧
      Grd .i32 21 97 a N B (mfin J F fun i b => P (F i b) (G i b)) w' ∧ Grd .i32 21 97 b N B (mfin J G fun i b => Q (F i b) (G i b)) w' := by
  have hca := hM.does hi va vb N B F G w.drew ha.vw hb.vw hF hG n1 n40 b1 b8 hh
  have hent := hM.ent
  obtain ⟨ba, oa, ca, rfl⟩ := ha.form
  obtain ⟨bb, ob, cb, rfl⟩ := hb.form
  obtain ⟨bj, oj, cj, rfl⟩ := hJ.form
  have HA : Hid (∀ wx, Below w.heap.size w wx → wx.cell? ⟨pb, po, none⟩ = some (.slice (some ⟨ba, oa, none⟩) N ca) ∧ wx.cell? ⟨pb, po + 1, none⟩ = some (.slice (some ⟨bb, ob, none⟩) N cb)) := fun wx hb => ⟨(hb.cell (p := ⟨pb, po, none⟩) hpb).trans h0, (hb.cell (p := ⟨pb, po + 1, none⟩) hpb).trans h1⟩
  have HE : Hid (∀ wx, Below w.heap.size w wx → ∀ i, i < N → ∀ b, b < B → ∃ b1 o1 c1 b2 o2 c2, wx.cell? ⟨ba, oa + i, none⟩ = some (.slice (some ⟨b1, o1, none⟩) B c1) ∧ wx.cell? ⟨b1, o1 + b, none⟩ = some (.int .i32 (F i b)) ∧ wx.cell? ⟨bb, ob + i, none⟩ = some (.slice (some ⟨b2, o2, none⟩) B c2) ∧ wx.cell? ⟨b2, o2 + b, none⟩ = some (.int .i32 (G i b))) := fun wx hbx i hi b hb' => by
    obtain ⟨b1, o1, c1, _, _, e1, e2⟩ := (ha.below hbx hh).all hi hb'
    obtain ⟨b2, o2, c2, _, _, e3, e4⟩ := (hb.below hbx hh).all hi hb'
    exact ⟨b1, o1, c1, b2, o2, c2, e1, e2, e3, e4⟩
  have HJl : Hid (∀ wx, Below w.heap.size w wx → ∀ b, b < B → wx.cell? ⟨bj, oj + b, none⟩ = some (.int .i64 (J b))) := fun wx hbx b hb' => (hJ.below hbx hhj).at.2.2 b hb'
  have C0 : Hid (w.drew.cell? ⟨pb, po, none⟩ = some (.slice (some ⟨ba, oa, none⟩) N ca) ∧ w.drew.cell? ⟨pb, po + 1, none⟩ = some (.slice (some ⟨bb, ob, none⟩) N cb)) := ⟨h0, h1⟩
  have hfin : ∀ w2, Qnt.Two w.drew.heap.size (w.drew.heap.size + 1 + N) N B (N * B) (fun i b => P (F i b) (G i b)) (fun i b => Q (F i b) (G i b)) w.drew w2 → Below w.heap.size w w2 ∧ Grd .i32 21 97 w.heap.size N B (mf J F (fun i b => P (F i b) (G i b)) 0 0) w2 ∧ Grd .i32 21 97 (w.heap.size + 1 + N) N B (mf J G (fun i b => Q (F i b) (G i b)) 0 0) w2 := fun w2 h =>
    ⟨of_drew h.bel, (pln_grd h.one).ext fun i _ b _ => by unfold mf; rw [if_neg (by omega)], (pln_grd h.two).ext fun i _ b _ => by unfold mf; rw [if_neg (by omega)]⟩
  have HFi : Hid _ := hfin
  have HCa : Hid (Calls _ _ _ _ _) := hca
  clear hca hfin hM ha hb hF hG hJ h0 h1
  have i1 : (1 : Int) ≤ N := by omega
  have i2 : (N : Int) ≤ 40 := by omega
  have i3 : (1 : Int) ≤ B := by omega
  have i4 : (B : Int) ≤ 8 := by omega
  unfold Enters at hent
  go_enter Tryz.func46, Tryz.ntmps46
  go_wp2
  go_region_held3 (fun wx => wx.cell? ⟨pb, po, none⟩ = some (.slice (some ⟨ba, oa, none⟩) N ca) ∧ wx.cell? ⟨pb, po + 1, none⟩ = some (.slice (some ⟨bb, ob, none⟩) N cb))
    (first | exact C0.out | exact C1.out)
    (first | (go_at_fn K; refine HCa.out.mono ?_; clear HCa; rintro e w2 ⟨rfl, h2⟩; obtain ⟨b2, g1, g2⟩ := HFi.out w2 h2; have C1 : Hid _ := HA.out w2 b2; have B2 : Hid (Below w.heap.size w w2) := b2; have G1 : Hid (Grd _ _ _ _ _ _ _ _) := g1; have G2 : Hid (Grd _ _ _ _ _ _ _ _) := g2; clear b2 g1 g2 h2))
  all_goals (
    go_wp2
    go_loopw [27] (fun i wr => ∃ q : Nat, q ≤ N ∧ i = .int .i64 q ∧ Below w.heap.size w wr ∧ Grd .i32 21 97 w.heap.size N B (mf J F (fun i b => P (F i b) (G i b)) q 0) wr ∧ Grd .i32 21 97 (w.heap.size + 1 + N) N B (mf J G (fun i b => Q (F i b) (G i b)) q 0) wr) (fun i _ => N - (intOf i).toNat)
    case atStart => exact ⟨0, by omega, rfl, B2.out, G1.out, G2.out⟩
    case round =>
      clear B2 G1 G2 C0 C1 HFi
      obtain ⟨q, hq, rfl, bel, g1, g2⟩ := hrel
      have BE : Hid (Below w.heap.size w wr) := bel
      have G1 : Hid (Grd _ _ _ _ _ _ _ _) := g1
      have G2 : Hid (Grd _ _ _ _ _ _ _ _) := g2
      clear bel g1 g2
      by_cases hlt : q < N
      · have hlt' : (q : Int) < N := by omega
        go_wp2
        go_loopw [32] (fun j wr => ∃ k : Nat, k ≤ B ∧ j = .int .i64 k ∧ Below w.heap.size w wr ∧ Grd .i32 21 97 w.heap.size N B (mf J F (fun i b => P (F i b) (G i b)) q k) wr ∧ Grd .i32 21 97 (w.heap.size + 1 + N) N B (mf J G (fun i b => Q (F i b) (G i b)) q k) wr) (fun j _ => B - (intOf j).toNat)
        case atStart => exact ⟨0, by omega, rfl, BE.out, G1.out, G2.out⟩
        case round =>
          clear BE G1 G2
          obtain ⟨k, hk, rfl, bel, g1, g2⟩ := hrel
          have BE : Hid (Below w.heap.size w wr) := bel
          have G1 : Hid (Grd _ _ _ _ _ _ _ _) := g1
          have G2 : Hid (Grd _ _ _ _ _ _ _ _) := g2
          by_cases hkl : k < B
          · have hkl' : (k : Int) < B := by omega
            have hjc := HJl.out wr bel k hkl
            by_cases hJk : J k = 0
            · have HJk : Hid (J k = 0) := hJk
              rw [hJk] at hjc
              obtain ⟨p0, p1⟩ := HA.out wr bel
              obtain ⟨b1, o1, c1, b2, o2, c2, e1, e2, e3, e4⟩ := HE.out wr bel q hlt k hkl
              have hd1 := g1.at_head hlt
              have hd2 := g2.at_head hlt
              obtain ⟨t1, f1⟩ := g1.at hlt hkl
              obtain ⟨t2, f2⟩ := g2.at hlt hkl
              clear bel g1 g2 hJk
              obtain ⟨fx, hfx⟩ : ∃ fx, F q k = fx := ⟨_, rfl⟩
              obtain ⟨gx, hgx⟩ : ∃ gx, G q k = gx := ⟨_, rfl⟩
              rw [hfx] at e2
              rw [hgx] at e4
              have HFX : Hid (F q k = fx) := hfx
              have HGX : Hid (G q k = gx) := hgx
              obtain ⟨fo, hfo⟩ : ∃ fo, mf J F (fun i b => P (F i b) (G i b)) q k q k = fo := ⟨_, rfl⟩
              obtain ⟨go, hgo⟩ : ∃ go, mf J G (fun i b => Q (F i b) (G i b)) q k q k = go := ⟨_, rfl⟩
              rw [hfo] at t1
              rw [hgo] at t2
              clear hfx hgx hfo hgo
              go_wp2
              go_region
              obtain ⟨wm, hwm⟩ : ∃ wm, (wr.setCell ⟨w.heap.size + 1 + q, k, none⟩ (.int .i32 fx)).drew = wm := ⟨_, rfl⟩
              rw [hwm]
              have bel : Below w.heap.size w wm := by rw [← hwm]; exact bD (BE.out.trans (set_below (by show w.heap.size ≤ w.heap.size + 1 + q; omega) _))
              have g1 : Grd .i32 21 97 w.heap.size N B (mf J F (fun i b => P (F i b) (G i b)) q (k + 1)) wm := by rw [← hwm]; exact (mf_set G1.out hlt hkl HJk.out HFX.out.symm).drew
              have g2 : Grd .i32 21 97 (w.heap.size + 1 + N) N B (mf J G (fun i b => Q (F i b) (G i b)) q k) wm := by rw [← hwm]; exact (G2.out.set_ne (.inl (by show w.heap.size + 1 + q < w.heap.size + 1 + N; omega)) _).drew
              clear BE G1 G2 p0 p1 e1 e2 e3 e4 hd1 hd2 t1 f1 t2 f2 hwm
              have BE : Hid (Below w.heap.size w wm) := bel
              have G1 : Hid (Grd _ _ _ _ _ _ _ _) := g1
              have G2 : Hid (Grd _ _ _ _ _ _ _ _) := g2
              obtain ⟨p0, p1⟩ := HA.out wm bel
              obtain ⟨b1, o1, c1, b2, o2, c2, e1, e2, e3, e4⟩ := HE.out wm bel q hlt k hkl
              have hd2 := g2.at_head hlt
              obtain ⟨t2, f2⟩ := g2.at hlt hkl
              rw [show G q k = gx from HGX.out] at e4
              obtain ⟨go', hgo⟩ : ∃ go, mf J G (fun i b => Q (F i b) (G i b)) q k q k = go := ⟨_, rfl⟩
              rw [hgo] at t2
              clear e1 e2 bel g1 g2 hgo
              go_wp2
              go_region
              go_wp2
              go_roundw
              case rel =>
                refine ⟨k + 1, by omega, by go_num, bD (BE.out.trans (set_below (by show w.heap.size ≤ w.heap.size + 1 + N + 1 + q; omega) _)), (G1.out.set_ne (.inr (by show w.heap.size + N < w.heap.size + 1 + N + 1 + q; omega)) _).drew, (mf_set G2.out hlt hkl HJk.out HGX.out.symm).drew⟩
              case measure => simp [intOf]; omega
            · have HJk : Hid (J k ≠ 0) := hJk
              obtain ⟨jk, hjk⟩ : ∃ jk, J k = jk := ⟨_, rfl⟩
              rw [hjk] at hjc hJk
              have hj1 : (jk == 0) = false := by simpa using hJk
              clear bel g1 g2 hJk hjk
              go_wp2
              go_roundw
              case rel => exact ⟨k + 1, by omega, by go_num, BE.out, mf_skip G1.out HJk.out, mf_skip G2.out HJk.out⟩
              case measure => simp [intOf]; omega
          · obtain rfl : k = B := by omega
            clear bel g1 g2
            go_wp2
            go_roundw
            case rel => exact ⟨q + 1, by omega, by go_num, BE.out, G1.out.ext fun i _ b hb => mf_row hb, G2.out.ext fun i _ b hb => mf_row hb⟩
            case measure => simp [intOf]; omega
      · obtain rfl : q = N := by omega
        go_wp2
        go_ret
        have hb1 := BE.out.size
        refine ⟨_, _, _, rfl, ⟨hb1, Nat.le_refl _, by omega⟩, BE.out.alloc hb1 _, Blk.new _ _ _, ?_, ?_⟩
        · exact (G1.out.keep fun b _ h => Below.heap_alloc _ _ _ (by have := G1.out.lt; omega)).ext fun i hi b _ => mf_end hi
        · exact (G2.out.keep fun b _ h => Below.heap_alloc _ _ _ (by have := G2.out.lt; omega)).ext fun i hi b _ => mf_end hi)

end Sub
end Go.Proofs.YtcaifpjbjghhaaaGreatDoor

/-
  Numbers that are told place by place, and worlds that stand but for some blocks. Plain facts, no walk. Conditions: as told at each.
-/
namespace Go.Proofs.YtcaifpjbjghhaaaGreatDoor
set_option linter.unusedVariables false
open Go.RowKit Go.Shelf
namespace Sub
open Bank (Blk But)
open Poly (Reads cell_keep alloc_size)
open _root_.Go.Proofs.YtcaifpjbjghhaaaGreatDoor.Form (fv fc bel1 Says box_cells box_behind blk_below of_drew)

section
variable {N C B : Nat} {V : Nat → Nat → Nat → Int} {pre : List (Plc N C B)} {i c b : Nat}
def tl (V : Nat → Nat → Nat → Int) (pre : List (Plc N C B)) (i c b : Nat) : Int := if (pre.any fun x => x.1.val == i && x.2.1.val == c && x.2.2.val == b) = true then V i c b else 0
theorem tl_nil : tl V ([] : List (Plc N C B)) i c b = 0 := rfl
theorem tl_new (x : Plc N C B) : tl V (pre ++ [x]) x.1.val x.2.1.val x.2.2.val = V x.1.val x.2.1.val x.2.2.val := by
  unfold tl
  rw [if_pos (by simp)]
theorem tl_old (x : Plc N C B) (h : i ≠ x.1.val ∨ c ≠ x.2.1.val ∨ b ≠ x.2.2.val) : tl V (pre ++ [x]) i c b = tl V pre i c b := by
  have e : (x.1.val == i && x.2.1.val == c && x.2.2.val == b) = false := by
    rcases h with h | h | h
    · rw [show (x.1.val == i) = false by simpa using Ne.symm h]; rfl
    · rw [show (x.2.1.val == c) = false by simpa using Ne.symm h]; simp
    · rw [show (x.2.2.val == b) = false by simpa using Ne.symm h]; simp
  unfold tl
  rw [List.any_append]
  simp only [List.any_cons, List.any_nil, Bool.or_false, e]
theorem tl_all (hi : i < N) (hc : c < C) (hb : b < B) : tl V (plist N C B) i c b = V i c b := by
  unfold tl
  rw [if_pos]
  exact List.any_eq_true.2 ⟨(⟨i, hi⟩, ⟨c, hc⟩, ⟨b, hb⟩), mem_plist _, by simp⟩
end

structure Exc (L H : Nat) (w w' : World) : Prop where
  os : w'.os = w.os
  tape : w'.tape = w.tape
  output : w'.output = w.output
  size : w.heap.size ≤ w'.heap.size
  block : ∀ k, k < w.heap.size → (k < L ∨ H ≤ k) → w'.heap[k]? = w.heap[k]?
section
variable {L H : Nat} {a w w' : World}
theorem Exc.refl (L H : Nat) (w : World) : Exc L H w w := ⟨rfl, rfl, rfl, Nat.le_refl _, fun _ _ _ => rfl⟩
theorem Exc.trans (h : Exc L H a w) (k : Exc L H w w') : Exc L H a w' := ⟨k.os.trans h.os, k.tape.trans h.tape, k.output.trans h.output, Nat.le_trans h.size k.size, fun b h0 h1 => (k.block b (Nat.lt_of_lt_of_le h0 h.size) h1).trans (h.block b h0 h1)⟩
theorem Exc.of_below (h : Below w.heap.size w w') : Exc L H w w' := ⟨h.os, h.tape, h.output, h.size, fun b h0 _ => h.block b h0⟩
theorem Exc.below (h : Exc L H a w) (k : Below w.heap.size w w') : Exc L H a w' := h.trans (Exc.of_below k)
theorem Exc.set (h : Exc L H a w) {p : Addr} (hp : L ≤ p.block ∧ p.block < H) (v : Value) : Exc L H a (w.setCell p v) :=
  ⟨h.os, h.tape, h.output, by simpa [World.setCell] using h.size, fun b h0 h1 => (Below.heap_setCell _ _ _ _ (by omega)).trans (h.block b h0 h1)⟩
theorem Exc.drew (h : Exc L H a w) : Exc L H a w.drew := ⟨h.os, h.tape, h.output, h.size, h.block⟩
theorem Exc.drewN (h : Exc L H a w) (m : Nat) : Exc L H a (w.drewN m) := ⟨h.os, h.tape, h.output, h.size, h.block⟩
theorem Exc.blk (h : Exc L H w w') {k : Nat} {cur : Array Value} {t : TypeId} (hk : Blk w k cur t) (h1 : k < L ∨ H ≤ k) : Blk w' k cur t := (h.block k hk.lt h1).trans hk
theorem Exc.to_below (h : Exc L H w w') {B : Nat} (hB : B ≤ L) (hs : B ≤ w.heap.size) : Below B w w' := ⟨h.os, h.tape, h.output, h.size, fun b hb => h.block b (by omega) (.inl (by omega))⟩
theorem Exc.keeps (h : Exc L H w w') {B : Nat} (hB : H ≤ B) : KeepsFrom B w w' := ⟨h.size, fun k o hb hk _ => (h.block k (Array.getElem?_eq_some_iff.1 hk).1 (.inr (by omega))).trans hk⟩
theorem Exc.kb (h : Exc L H w w') {Bn : Nat} (h0 : H ≤ Bn) (h1 : Bn < w.heap.size) : KB Bn w w' := h.block Bn h1 (.inr h0)
theorem Exc.cell (h : Exc L H w w') {b o : Nat} (h0 : b < w.heap.size) (h1 : b < L ∨ H ≤ b) : w'.cell? ⟨b, o, none⟩ = w.cell? ⟨b, o, none⟩ := cell_keep (h.block b h0 h1)
end
theorem own_exc {β : Type} {L H B : Nat} {W0 : World} (hB : W0.heap.size ≤ B) : OwnFrom B (fun (_ : β) W => Exc L H W0 W) := fun s X Y row hs hg hr =>
  ⟨hg.os.trans hs.os, hg.tape.trans hs.tape, hg.output.trans hs.output, Nat.le_trans hs.size hg.size, fun k h0 h1 => (hg.block k (Nat.lt_of_lt_of_le h0 hs.size) (fun e => by have := (hr k e.symm).1; omega)).trans (hs.block k h0 h1)⟩
theorem own_cub {β : Type} {k : IntKind} {tE tR tM : TypeId} {a E N n C B : Nat} {p : Nat → Nat} {F : β → Nat → Nat → Nat → Int} (hE : a < E) (hB : E ≤ B) {Z : Nat} (hZ : B ≤ Z) : OwnFrom B (fun (x : β) W => Cub k tE tR tM a E N n C p (F x) W ∧ Z ≤ W.heap.size) := fun s X Y row hs hg hr =>
  ⟨hs.1.keep hE fun b h0 h1 => hg.block b (by have := hs.2; omega) (fun e => by have := (hr b e.symm).1; omega), Nat.le_trans hs.2 hg.size⟩
section
variable {k : IntKind} {tE tR tM : TypeId} {a E N n C : Nat} {p : Nat → Nat} {F G : Nat → Nat → Nat → Int} {w w' : World}
theorem Cub.all (h : Cub k tE tR tM a E N n C p F w) {i j x : Nat} (hi : i < N) (hj : j < n) (hx : x < C) : w.cell? ⟨a, i, none⟩ = some (.slice (some ⟨p i, 0, none⟩) n n) ∧ w.cell? ⟨p i, j, none⟩ = some (.slice (some ⟨p i + 1 + j, 0, none⟩) C C) ∧ w.cell? ⟨p i + 1 + j, x, none⟩ = some (.int k (F i j x)) ∧ w.frozen? ⟨p i + 1 + j, x, none⟩ = false ∧ a < p i + 1 + j ∧ p i + 1 + j < E := by
  have := h.lo i hi
  exact ⟨h.at_top hi, (h.grd i hi).at_head hj, ((h.grd i hi).at hj hx).1, ((h.grd i hi).at hj hx).2, by omega, by omega⟩
theorem Cub.heads (h : Cub k tE tR tM a E N n C p F w) {i j x : Nat} (hi : i < N) (hj : j < n) (hx : x < C) (v : Int) : Cub k tE tR tM a E N n C p (fun a b c => if a = i ∧ b = j ∧ c = x then v else F a b c) (w.setCell ⟨p i + 1 + j, x, none⟩ (.int k v)) :=
  h.set hi hj hx (by rw [if_pos ⟨rfl, rfl, rfl⟩]) fun i' j' b' _ _ _ hne => by rw [if_neg (by omega)]
end

def B1 (k : IntKind) (lo hi : Nat) (v : Value) (C : Nat) (f : Nat → Int) (w : World) : Prop :=
  ∃ b o c, v = .slice (some ⟨b, o, none⟩) C c ∧ C ≤ c ∧ lo ≤ b ∧ b < hi ∧ ∀ j, j < C → w.cell? ⟨b, o + j, none⟩ = some (.int k (f j))
def B2 (k : IntKind) (lo hi : Nat) (v : Value) (n C : Nat) (F : Nat → Nat → Int) (w : World) : Prop :=
  ∃ b o c, v = .slice (some ⟨b, o, none⟩) n c ∧ n ≤ c ∧ lo ≤ b ∧ b < hi ∧ ∀ i, i < n → ∃ u, w.cell? ⟨b, o + i, none⟩ = some u ∧ B1 k lo hi u C (F i) w
def B3 (k : IntKind) (lo hi : Nat) (v : Value) (N n C : Nat) (F : Nat → Nat → Nat → Int) (w : World) : Prop :=
  ∃ b o c, v = .slice (some ⟨b, o, none⟩) N c ∧ N ≤ c ∧ lo ≤ b ∧ b < hi ∧ ∀ i, i < N → ∃ u, w.cell? ⟨b, o + i, none⟩ = some u ∧ B2 k lo hi u n C (F i) w
section
variable {k : IntKind} {lo hi lo' hi' : Nat} {v : Value} {N n C : Nat} {w w' : World}
theorem B1.keep {f : Nat → Int} (h : B1 k lo hi v C f w) (hk : ∀ b, lo ≤ b → b < hi → w'.heap[b]? = w.heap[b]?) : B1 k lo hi v C f w' := by
  obtain ⟨b, o, c, rfl, hc, h0, hb, hx⟩ := h
  exact ⟨b, o, c, rfl, hc, h0, hb, fun j hj => (cell_keep (hk b h0 hb)).trans (hx j hj)⟩
theorem B2.keep {F : Nat → Nat → Int} (h : B2 k lo hi v n C F w) (hk : ∀ b, lo ≤ b → b < hi → w'.heap[b]? = w.heap[b]?) : B2 k lo hi v n C F w' := by
  obtain ⟨b, o, c, rfl, hc, h0, hb, hx⟩ := h
  refine ⟨b, o, c, rfl, hc, h0, hb, fun j hj => ?_⟩
  obtain ⟨u, hu, h1⟩ := hx j hj
  exact ⟨u, (cell_keep (hk b h0 hb)).trans hu, h1.keep hk⟩
theorem B3.keep {F : Nat → Nat → Nat → Int} (h : B3 k lo hi v N n C F w) (hk : ∀ b, lo ≤ b → b < hi → w'.heap[b]? = w.heap[b]?) : B3 k lo hi v N n C F w' := by
  obtain ⟨b, o, c, rfl, hc, h0, hb, hx⟩ := h
  refine ⟨b, o, c, rfl, hc, h0, hb, fun j hj => ?_⟩
  obtain ⟨u, hu, h1⟩ := hx j hj
  exact ⟨u, (cell_keep (hk b h0 hb)).trans hu, h1.keep hk⟩
theorem B1.mono {f : Nat → Int} (h : B1 k lo hi v C f w) (h0 : lo' ≤ lo) (h1 : hi ≤ hi') : B1 k lo' hi' v C f w := by
  obtain ⟨b, o, c, rfl, hc, hl, hb, hx⟩ := h
  exact ⟨b, o, c, rfl, hc, by omega, by omega, hx⟩
theorem B2.mono {F : Nat → Nat → Int} (h : B2 k lo hi v n C F w) (h0 : lo' ≤ lo) (h1 : hi ≤ hi') : B2 k lo' hi' v n C F w := by
  obtain ⟨b, o, c, rfl, hc, hl, hb, hx⟩ := h
  refine ⟨b, o, c, rfl, hc, by omega, by omega, fun j hj => ?_⟩
  obtain ⟨u, hu, k1⟩ := hx j hj
  exact ⟨u, hu, k1.mono h0 h1⟩
theorem B3.mono {F : Nat → Nat → Nat → Int} (h : B3 k lo hi v N n C F w) (h0 : lo' ≤ lo) (h1 : hi ≤ hi') : B3 k lo' hi' v N n C F w := by
  obtain ⟨b, o, c, rfl, hc, hl, hb, hx⟩ := h
  refine ⟨b, o, c, rfl, hc, by omega, by omega, fun j hj => ?_⟩
  obtain ⟨u, hu, k1⟩ := hx j hj
  exact ⟨u, hu, k1.mono h0 h1⟩
theorem B1.v1 {f : Nat → Int} (h : B1 k lo hi v C f w) : V1 k hi v C f w := by
  obtain ⟨b, o, c, rfl, hc, _, hb, hx⟩ := h
  exact ⟨b, o, c, rfl, hc, hb, hx⟩
theorem B2.v2 {F : Nat → Nat → Int} (h : B2 k lo hi v n C F w) : V2 k hi v n C F w := by
  obtain ⟨b, o, c, rfl, hc, _, hb, hx⟩ := h
  exact ⟨b, o, c, rfl, hc, hb, fun j hj => by obtain ⟨u, hu, k1⟩ := hx j hj; exact ⟨u, hu, k1.v1⟩⟩
theorem B3.v3 {F : Nat → Nat → Nat → Int} (h : B3 k lo hi v N n C F w) : V3 k hi v N n C F w := by
  obtain ⟨b, o, c, rfl, hc, _, hb, hx⟩ := h
  exact ⟨b, o, c, rfl, hc, hb, fun j hj => by obtain ⟨u, hu, k1⟩ := hx j hj; exact ⟨u, hu, k1.v2⟩⟩
theorem B1.ext {f g : Nat → Int} (h : B1 k lo hi v C f w) (e : ∀ j, j < C → f j = g j) : B1 k lo hi v C g w := by
  obtain ⟨b, o, c, rfl, hc, h0, hb, hx⟩ := h
  exact ⟨b, o, c, rfl, hc, h0, hb, fun j hj => (e j hj) ▸ hx j hj⟩
theorem B2.ext {F G : Nat → Nat → Int} (h : B2 k lo hi v n C F w) (e : ∀ i, i < n → ∀ j, j < C → F i j = G i j) : B2 k lo hi v n C G w := by
  obtain ⟨b, o, c, rfl, hc, h0, hb, hx⟩ := h
  refine ⟨b, o, c, rfl, hc, h0, hb, fun i hi => ?_⟩
  obtain ⟨u, hu, h1⟩ := hx i hi
  exact ⟨u, hu, h1.ext (e i hi)⟩
theorem B3.ext {F G : Nat → Nat → Nat → Int} (h : B3 k lo hi v N n C F w) (e : ∀ i, i < N → ∀ j, j < n → ∀ b, b < C → F i j b = G i j b) : B3 k lo hi v N n C G w := by
  obtain ⟨b, o, c, rfl, hc, h0, hb, hx⟩ := h
  refine ⟨b, o, c, rfl, hc, h0, hb, fun i hi => ?_⟩
  obtain ⟨u, hu, h1⟩ := hx i hi
  exact ⟨u, hu, h1.ext (e i hi)⟩
theorem V3.b3 {F : Nat → Nat → Nat → Int} (h : V3 k hi v N n C F w) : B3 k 0 hi v N n C F w := by
  obtain ⟨b, o, c, rfl, hc, hb, hx⟩ := h
  refine ⟨b, o, c, rfl, hc, Nat.zero_le _, hb, fun i hi => ?_⟩
  obtain ⟨u, hu, b1, o1, c1, rfl, hc1, hb1, hx1⟩ := hx i hi
  refine ⟨_, hu, b1, o1, c1, rfl, hc1, Nat.zero_le _, hb1, fun j hj => ?_⟩
  obtain ⟨u2, hu2, b2, o2, c2, rfl, hc2, hb2, hx2⟩ := hx1 j hj
  exact ⟨_, hu2, b2, o2, c2, rfl, hc2, Nat.zero_le _, hb2, hx2⟩
theorem B1.reads {f : Nat → Int} (h : B1 k lo hi v C f w) (hf : ∀ j, (Lit.int k (f j)).wf = true) : Reads k lo hi w v (rl C f) := by
  obtain ⟨b, o, c, rfl, hc, h0, hb, hx⟩ := h
  refine ⟨_, c, by rw [rl_length], by rw [rl_length]; exact hc, fun z hz => ?_, .inr ⟨b, o, rfl, h0, hb, fun j hj => ?_⟩⟩
  · obtain ⟨j, _, rfl⟩ := List.mem_map.1 hz; exact hf j
  · rw [rl_length] at hj
    rw [rl_get hj]; exact hx j hj
end
theorem Grd.b2 {k : IntKind} {tE tR : TypeId} {a n C : Nat} {F : Nat → Nat → Int} {w : World} (h : Grd k tE tR a n C F w) : B2 k a (a + n + 1) (.slice (some ⟨a, 0, none⟩) n n) n C F w := by
  refine ⟨a, 0, n, rfl, Nat.le_refl _, Nat.le_refl _, by omega, fun i hi => ⟨_, by rw [Nat.zero_add]; exact h.at_head hi, a + 1 + i, 0, C, rfl, Nat.le_refl _, by omega, by omega, fun b hb => ?_⟩⟩
  rw [Nat.zero_add]; exact (h.at hi hb).1
theorem Cub.b3 {k : IntKind} {tE tR tM : TypeId} {a E N n C : Nat} {p : Nat → Nat} {F : Nat → Nat → Nat → Int} {w : World} (h : Cub k tE tR tM a E N n C p F w) (hE : a < E) : B3 k a E (.slice (some ⟨a, 0, none⟩) N N) N n C F w := by
  refine ⟨a, 0, N, rfl, Nat.le_refl _, Nat.le_refl _, hE, fun i hi => ⟨_, by rw [Nat.zero_add]; exact h.at_top hi, ?_⟩⟩
  exact (h.grd i hi).b2.mono (by have := h.lo i hi; omega) (by have := h.lo i hi; omega)

end Sub
end Go.Proofs.YtcaifpjbjghhaaaGreatDoor

/-
  The parameters of planes, and the planes of parameters, in plain numbers. No walk. Conditions: as told at each.
-/
namespace Go.Proofs.YtcaifpjbjghhaaaGreatDoor
set_option linter.unusedVariables false
open Go.RowKit
namespace M
def anJ (f : Fmt) (N B : Nat) (X : Nat → Nat → Nat → Int) (b : Nat) : Int := if f.j = 1 then jn2 (X 0) (X 1) N B b else 0
def anX (f : Fmt) (N B : Nat) (X : Nat → Nat → Nat → Int) (c : Nat) : Nat → Nat → Int :=
  if f.j = 1 then (if c = 0 then Sub.mfin (jn2 (X 0) (X 1) N B) (X 0) (fun i b => hs (X 0 i b) (X 1 i b)) else Sub.mfin (jn2 (X 0) (X 1) N B) (X 1) (fun i b => hd (X 0 i b) (X 1 i b))) else X c
def anS (f : Fmt) (N B : Nat) (X : Nat → Nat → Nat → Int) (c : Nat) : Nat → Int := scl (anX f N B X c) N
def anQ (f : Fmt) (C B N r : Nat) (sl : Int) (X : Nat → Nat → Nat → Int) (i c b : Nat) : Int := (Qnt.qa (anX f N B X c i b) (anS f N B X c b) (wid f C B r (anS f N B X) sl c b)).1
def an (f : Fmt) (C B N r : Nat) (sl : Int) (X : Nat → Nat → Nat → Int) : Sub.Nb := ⟨anJ f N B X, anS f N B X, anQ f C B N r sl X⟩
theorem mfin_32 {J : Nat → Int} {F R : Nat → Nat → Int} (hF : Qnt.F32 F) (hR : Qnt.F32 R) : Qnt.F32 (Sub.mfin J F R) := fun i b => by
  unfold Sub.mfin; split
  · exact hF i b
  · exact hR i b
theorem anX_32 {f : Fmt} {N B : Nat} {X : Nat → Nat → Nat → Int} (h : ∀ c, Qnt.F32 (X c)) (c : Nat) : Qnt.F32 (anX f N B X c) := by
  unfold anX
  split
  · split
    · exact mfin_32 (h 0) fun i b => hs_bd (h 0 i b) (h 1 i b)
    · exact mfin_32 (h 1) fun i b => hd_bd (h 0 i b) (h 1 i b)
  · exact h c
theorem anS_bd (f : Fmt) (N B : Nat) (X : Nat → Nat → Nat → Int) (c b : Nat) : 0 ≤ anS f N B X c b ∧ anS f N B X c b ≤ 15 := scl_bd _ _ _
theorem jn2_bd (F G : Nat → Nat → Int) (n C b : Nat) : jn2 F G n C b = 0 ∨ jn2 F G n C b = 1 := by unfold jn2; split <;> omega
theorem jn2_last (F G : Nat → Nat → Int) (n C : Nat) (hC : 1 ≤ C) : jn2 F G n C (C - 1) = 0 := by
  unfold jn2 jb
  have e : decide (C - 1 + 1 < C) = false := decide_eq_false (by omega)
  rw [e, Bool.false_and]
  exact if_neg (by simp)
theorem qa_ok (x : Int) {s b : Int} (hs : 0 ≤ s ∧ s ≤ 15) (hb : two b) : (Qnt.la (Qnt.qa x s b).1 s b).2 = 0 := by
  rcases hb with rfl | ⟨h2, h16⟩
  · rw [Qnt.qa_zero ⟨hs.1, hs.2, .inl rfl⟩]
    unfold Qnt.la
    rw [if_pos ⟨hs.1, hs.2, .inl rfl⟩, if_pos rfl, if_pos rfl]
  · obtain ⟨n, rfl⟩ : ∃ n : Nat, s = n := ⟨s.toNat, by omega⟩
    obtain ⟨k, rfl⟩ : ∃ k : Nat, b = k := ⟨b.toNat, by omega⟩
    rw [Qnt.qa_some (by omega) (by omega) (by omega)]
    have h1 := rch_bd (s := n) (by omega)
    have h2 := lvl_bd (b := k) (by omega) (by omega)
    have h3 := qz_bd (x := x) (R := rch n) (L := lvl k) (by omega) (by omega)
    show (Qnt.la (qz x (rch n) (lvl k)) n k).2 = 0
    rw [Qnt.la_some (by omega) (by omega) (by omega) h3.1 h3.2]
theorem an_ok {f : Fmt} {C B N r : Nat} {sl : Int} {X : Nat → Nat → Nat → Int} (hF : Sub.Sb f C B N r) : Sub.okM f C B N r sl (an f C B N r sl X) := by
  have hb := hF.b8
  have hj := hF.joint
  refine ⟨⟨Sub.rl_length _ _, ?_, fun k hk => ?_⟩, fun x => qa_ok _ (anS_bd _ _ _ _ _ _) (wid_two _ _ _ _ _ _ _ _)⟩
  · rw [Sub.rl_get (by omega)]
    show anJ f N B X (B - 1) = 0
    unfold anJ
    split
    · exact jn2_last _ _ _ _ (by omega)
    · rfl
  · rw [Sub.rl_get hk]
    show 0 ≤ anJ f N B X k ∧ anJ f N B X k ≤ f.j
    unfold anJ
    split
    · rename_i h1
      have := jn2_bd (X 0) (X 1) N B k
      omega
    · omega
theorem sat32_32 (x : Int) : -2147483648 ≤ sat32 x ∧ sat32 x ≤ 2147483647 := ⟨le_clip (by decide), clip_le (by decide)⟩
end M
namespace Sub
open Bank (Blk)
open Poly (cell_keep alloc_size)
open _root_.Go.Proofs.YtcaifpjbjghhaaaGreatDoor.Form (blk_below)
theorem pair_b3 {g a b N B lo hi : Nat} {t tE tR : TypeId} {F : Nat → Nat → Nat → Int} {w : World} (h0 : Blk w g #[.slice (some ⟨a, 0, none⟩) N N, .slice (some ⟨b, 0, none⟩) N N] t) (h1 : Grd .i32 tE tR a N B (F 0) w) (h2 : Grd .i32 tE tR b N B (F 1) w) (hg : lo ≤ g ∧ g < hi) (ha : lo ≤ a ∧ a + N < hi) (hb : lo ≤ b ∧ b + N < hi) :
    B3 .i32 lo hi (.slice (some ⟨g, 0, none⟩) 2 2) 2 N B F w := by
  refine ⟨g, 0, 2, rfl, Nat.le_refl _, hg.1, hg.2, fun i hi => ?_⟩
  match i, hi with
  | 0, _ => exact ⟨_, h0.cell rfl, h1.b2.mono (by omega) (by omega)⟩
  | 1, _ => exact ⟨_, h0.cell rfl, h2.b2.mono (by omega) (by omega)⟩
end Sub
end Go.Proofs.YtcaifpjbjghhaaaGreatDoor

/-
  What stands while planes are analysed. Plain facts, no walk. Conditions: as told at each.
-/
namespace Go.Proofs.YtcaifpjbjghhaaaGreatDoor
set_option linter.unusedVariables false
open Go.RowKit Go.Shelf
namespace Sub
open Bank (Blk But)
open Poly (Reads cell_keep alloc_size)
open _root_.Go.Proofs.YtcaifpjbjghhaaaGreatDoor.Form (fv fc bel1 Says box_cells box_behind blk_below of_drew)

structure An0 (f : M.Fmt) (C B N h P az ac E : Nat) (pf : Nat → Nat) (vj vp : Value) (J : Nat → Int) (X : Nat → Nat → Nat → Int) (w W : World) : Prop where
  hw : h = w.heap.size
  bel : Below w.heap.size w W
  fb : Blk W h (fc f) 23
  pl : Blk W (h + 1) #[vp] 24
  rb : Blk W (h + 2) nil3 33
  pb : Blk W P #[vj, .slice (some ⟨az, 0, none⟩) C C, .slice (some ⟨ac, 0, none⟩) N N] 33
  joins : ∃ g, vj = .slice (some ⟨g, 0, none⟩) B B ∧ Rw g B J W ∧ g ≠ az ∧ (g < ac ∨ E ≤ g) ∧ h + 3 ≤ g ∧ g ≠ P
  grd : Grd .i64 3 25 az C B (fun _ _ => 0) W
  cub : Cub .i64 3 25 26 ac E N C B pf (fun _ _ _ => 0) W
  planes : ∃ lo hi, B3 .i32 lo hi vp C N B X W ∧ hi ≤ W.heap.size ∧ (hi ≤ h ∨ P < lo)
  ord : h + 3 ≤ az ∧ h + 3 ≤ ac ∧ ac < E ∧ (az + C < ac ∨ E ≤ az) ∧ az + C < P ∧ E ≤ P ∧ P < W.heap.size
section
variable {f : M.Fmt} {C B N h P az ac E : Nat} {pf : Nat → Nat} {vj vp : Value} {J J' : Nat → Int} {X X' : Nat → Nat → Nat → Int} {w W W' : World}
theorem An0.below (a : An0 f C B N h P az ac E pf vj vp J X w W) (b : Below W.heap.size W W') : An0 f C B N h P az ac E pf vj vp J X w W' := by
  obtain ⟨g, hg, hr, h1⟩ := a.joins
  obtain ⟨lo, hi, k1, k2, k3⟩ := a.planes
  have o := a.ord
  have s := b.size
  have sw := a.bel.size
  exact ⟨a.hw, a.bel.trans (b.mono sw), blk_below b a.fb a.fb.lt, blk_below b a.pl a.pl.lt, blk_below b a.rb a.rb.lt, blk_below b a.pb a.pb.lt, ⟨g, hg, hr.keep (b.block g hr.lt), h1⟩, a.grd.below b a.grd.lt, a.cub.below o.2.2.1 b (by omega), ⟨lo, hi, k1.keep fun k _ h => b.block k (by omega), by omega, k3⟩, by omega⟩
theorem An0.setJ (a : An0 f C B N h P az ac E pf vj vp J X w W) {g : Nat} (hr : Rw g B J' W) (hg : P < g) : An0 f C B N h P az ac E pf (.slice (some ⟨g, 0, none⟩) B B) vp J' X w (W.setCell ⟨P, 0, none⟩ (.slice (some ⟨g, 0, none⟩) B B)) := by
  have o := a.ord
  have sw := a.bel.size
  have hw := a.hw
  obtain ⟨lo, hi, k1, k2, k3⟩ := a.planes
  have hs : (W.setCell ⟨P, 0, none⟩ (.slice (some ⟨g, 0, none⟩) B B)).heap.size = W.heap.size := by simp [World.setCell]
  refine ⟨a.hw, a.bel.trans (set_below (by show w.heap.size ≤ P; omega) _), a.fb.set_ne (by show h ≠ P; omega) _, a.pl.set_ne (by show h + 1 ≠ P; omega) _, a.rb.set_ne (by show h + 2 ≠ P; omega) _, a.pb.set 0 _, ⟨g, rfl, ?_, by omega, .inr (by omega), by omega, by omega⟩, a.grd.set_ne (.inr (by show az + C < P; omega)) _, a.cub.set_ne o.2.2.1 (.inr (by show E ≤ P; omega)) _, ⟨lo, hi, k1.keep fun k q0 q1 => Below.heap_setCell _ _ _ _ (by show k ≠ P; omega), by omega, k3⟩, by omega⟩
  obtain ⟨tab, t1, t2⟩ := hr
  exact ⟨tab, t1.set_ne (by show g ≠ P; omega) _, t2⟩
theorem An0.setP (a : An0 f C B N h P az ac E pf vj vp J X w W) {v : Value} {lo hi : Nat} (hr : B3 .i32 lo hi v C N B X' W) (hg : P < lo) (hh : hi ≤ W.heap.size) : An0 f C B N h P az ac E pf vj v J X' w (W.setCell ⟨h + 1, 0, none⟩ v) := by
  have o := a.ord
  have sw := a.bel.size
  have hw := a.hw
  obtain ⟨g, hgg, hrr, h1⟩ := a.joins
  have hs : (W.setCell ⟨h + 1, 0, none⟩ v).heap.size = W.heap.size := by simp [World.setCell]
  refine ⟨a.hw, a.bel.trans (set_below (by show w.heap.size ≤ h + 1; omega) _), a.fb.set_ne (by show h ≠ h + 1; omega) _, a.pl.set 0 _, a.rb.set_ne (by show h + 2 ≠ h + 1; omega) _, a.pb.set_ne (by show P ≠ h + 1; omega) _, ⟨g, hgg, ?_, h1⟩, a.grd.set_ne (.inl (by show h + 1 < az; omega)) _, a.cub.set_ne o.2.2.1 (.inl (by show h + 1 < ac; omega)) _, ⟨lo, hi, hr.keep fun k q0 q1 => Below.heap_setCell _ _ _ _ (by show k ≠ h + 1; omega), by omega, .inr hg⟩, by omega⟩
  obtain ⟨tab, t1, t2⟩ := hrr
  exact ⟨tab, t1.set_ne (by show g ≠ h + 1; omega) _, t2⟩
theorem An0.v3 (a : An0 f C B N h P az ac E pf vj vp J X w W) : V3 .i32 W.heap.size vp C N B X W := by
  obtain ⟨lo, hi, k1, k2, k3⟩ := a.planes
  exact k1.v3.mono k2
structure Hsc (az C B q : Nat) (Z : Nat → Nat → Int) (gs : Nat → Nat) (M : Nat) (wr : World) : Prop where
  head : ∃ hd : Array Value, Blk wr az hd 25 ∧ hd.size = C ∧ ∀ i, i < q → hd[i]? = some (.slice (some ⟨gs i, 0, none⟩) B B)
  row : ∀ i, i < q → Qnt.Tb (gs i) 3 .i64 B (Z i) wr
  low : ∀ i, i < q → M ≤ gs i
variable {q M : Nat} {Z : Nat → Nat → Int} {gs : Nat → Nat} {wr wx Wn : World}
theorem Hsc.start (h : Grd .i64 3 25 az C B (fun _ _ => 0) wr) (M : Nat) : Hsc az C B 0 Z gs M wr := by
  obtain ⟨hd, h1, h2, _⟩ := h.head
  exact ⟨⟨hd, h1, h2, fun i hi => absurd hi (by omega)⟩, fun i hi => absurd hi (by omega), fun i hi => absurd hi (by omega)⟩
theorem Hsc.keep (h : Hsc az C B q Z gs M wr) (h0 : wx.heap[az]? = wr.heap[az]?) (hk : ∀ k, M ≤ k → k < wr.heap.size → wx.heap[k]? = wr.heap[k]?) : Hsc az C B q Z gs M wx := by
  obtain ⟨⟨hd, h1, h2⟩, h3, h4⟩ := h
  refine ⟨⟨hd, h0.trans h1, h2⟩, fun i hi => ?_, h4⟩
  obtain ⟨tab, t1, t2⟩ := h3 i hi
  exact ⟨tab, (hk _ (h4 i hi) t1.lt).trans t1, t2⟩
theorem Hsc.step (h : Hsc az C B q Z gs M wr) (hq : q < C) {g : Nat} (hg : Qnt.Tb g 3 .i64 B (Z q) wr) (hM : M ≤ g) (hz : az < M) : ∃ gs', Hsc az C B (q + 1) Z gs' M (wr.setCell ⟨az, q, none⟩ (.slice (some ⟨g, 0, none⟩) B B)) := by
  obtain ⟨⟨hd, h1, h2, h3⟩, h4, h5⟩ := h
  refine ⟨fun i => if i = q then g else gs i, ⟨_, h1.set q _, by simpa using h2, fun i hi => ?_⟩, fun i hi => ?_, fun i hi => ?_⟩
  · rw [Array.getElem?_setIfInBounds]
    by_cases e : i = q
    · subst e; rw [if_pos rfl, if_pos (by omega)]; simp
    · rw [if_neg (fun e' => e e'.symm), h3 i (by omega)]; simp [e]
  · by_cases e : i = q
    · subst e; simp only [if_true]; exact hg.set_ne (by show g ≠ az; omega) _
    · simp only [e, if_false]
      have := h5 i (by omega)
      exact (h4 i (by omega)).set_ne (by show gs i ≠ az; omega) _
  · by_cases e : i = q
    · simp only [e, if_true]; exact hM
    · simp only [e, if_false]; exact h5 i (by omega)
theorem Hsc.v2 (h : Hsc az C B C Z gs M wr) (hz : az < M) : V2 .i64 wr.heap.size (.slice (some ⟨az, 0, none⟩) C C) C B Z wr := by
  obtain ⟨⟨hd, h1, h2, h3⟩, h4, h5⟩ := h
  refine ⟨az, 0, C, rfl, Nat.le_refl _, h1.lt, fun i hi => ⟨_, by rw [Nat.zero_add]; exact h1.cell (h3 i hi), gs i, 0, B, rfl, Nat.le_refl _, (h4 i hi).lt, fun j hj => ?_⟩⟩
  rw [Nat.zero_add]; exact (h4 i hi).cell hj

structure KH (az C : Nat) (Wn wx : World) : Prop where
  but : But az Wn wx
  head : ∃ hd : Array Value, Blk wx az hd 25 ∧ hd.size = C
theorem KH.cell (h : KH az C Wn wx) (hq : q < C) : (∃ u, wx.cell? ⟨az, q, none⟩ = some u) ∧ wx.frozen? ⟨az, q, none⟩ = false := by
  obtain ⟨_, hd, h1, h2⟩ := h
  exact ⟨⟨hd[q]'(by omega), h1.cell (by simp [h2, hq])⟩, h1.free q⟩
theorem KH.drew (h : KH az C Wn wx) : KH az C Wn wx.drew := ⟨h.but.drew, h.head⟩
theorem KH.below {w2 : World} (h : KH az C Wn wx) (b : Below wx.heap.size wx w2) (hz : az < wx.heap.size) : KH az C Wn w2 := by
  obtain ⟨h1, hd, h2, h3⟩ := h
  exact ⟨Poly.But.below' h1 b h1.size, hd, blk_below b h2 hz, h3⟩
theorem KH.set (h : KH az C Wn wx) (v : Value) : KH az C Wn (wx.setCell ⟨az, q, none⟩ v) := by
  obtain ⟨h1, hd, h2, h3⟩ := h
  exact ⟨h1.set (.inl rfl) _, _, h2.set q v, by simpa using h3⟩

structure KA (k : IntKind) (tE tR tM : TypeId) (ac E N n C : Nat) (pf : Nat → Nat) (W0 wx : World) : Prop where
  exc : Exc ac E W0 wx
  cub : ∃ G, Cub k tE tR tM ac E N n C pf G wx
variable {k : IntKind} {tE tR tM : TypeId} {n : Nat} {W0 : World}
theorem KA.drew (h : KA k tE tR tM ac E N n C pf W0 wx) : KA k tE tR tM ac E N n C pf W0 wx.drew := by
  obtain ⟨h1, G, h2⟩ := h; exact ⟨h1.drew, G, h2.drew⟩
theorem KA.drewN (h : KA k tE tR tM ac E N n C pf W0 wx) (m : Nat) : KA k tE tR tM ac E N n C pf W0 (wx.drewN m) := by
  obtain ⟨h1, G, h2⟩ := h; exact ⟨⟨h1.os, h1.tape, h1.output, h1.size, h1.block⟩, G, h2.drewN m⟩
theorem KA.below {w2 : World} (h : KA k tE tR tM ac E N n C pf W0 wx) (b : Below wx.heap.size wx w2) (hE : ac < E) (hs : E ≤ wx.heap.size) : KA k tE tR tM ac E N n C pf W0 w2 := by
  obtain ⟨h1, G, h2⟩ := h; exact ⟨h1.below b, G, h2.below hE b hs⟩
theorem KA.set (h : KA k tE tR tM ac E N n C pf W0 wx) {i j x : Nat} (hi : i < N) (hj : j < n) (hx : x < C) (v : Int) : KA k tE tR tM ac E N n C pf W0 (wx.setCell ⟨pf i + 1 + j, x, none⟩ (.int k v)) := by
  obtain ⟨h1, G, h2⟩ := h
  have := (h2.all hi hj hx).2.2.2.2
  exact ⟨h1.set (by show ac ≤ pf i + 1 + j ∧ pf i + 1 + j < E; omega) _, _, h2.heads hi hj hx v⟩
end

theorem Exc.wide {L H L' H' : Nat} {w w' : World} (h : Exc L H w w') (h0 : L' ≤ L) (h1 : H ≤ H') : Exc L' H' w w' := ⟨h.os, h.tape, h.output, h.size, fun k a b => h.block k a (by omega)⟩
theorem Exc.of_but {az : Nat} {w w' : World} (h : But az w w') : Exc az (az + 1) w w' := ⟨h.os, h.tape, h.output, h.size, fun k a b => h.block k a (by omega)⟩
section
variable {f : M.Fmt} {C B N h P az ac E : Nat} {pf : Nat → Nat} {vj : Value} {J : Nat → Int} {X : Nat → Nat → Nat → Int} {w W : World}
theorem An0.cells {pb po pc : Nat} (a : An0 f C B N h P az ac E pf vj (.slice (some ⟨pb, po, none⟩) C pc) J X w W) {c i b : Nat} (hc : c < C) (hi : i < N) (hb : b < B) : ∃ b1 o1 c1 b2 o2 c2, ∀ wx, Exc h (P + 1) W wx →
    wx.cell? ⟨pb, po + c, none⟩ = some (.slice (some ⟨b1, o1, none⟩) N c1) ∧ wx.cell? ⟨b1, o1 + i, none⟩ = some (.slice (some ⟨b2, o2, none⟩) B c2) ∧ wx.cell? ⟨b2, o2 + b, none⟩ = some (.int .i32 (X c i b)) := by
  obtain ⟨lo, hi', k1, k2, k3⟩ := a.planes
  obtain ⟨pb', po', pc', he, _, l0, l1, hx⟩ := k1
  cases he
  obtain ⟨u, hu, b1, o1, c1, rfl, _, l2, l3, hx1⟩ := hx c hc
  obtain ⟨u2, hu2, b2, o2, c2, rfl, _, l4, l5, hx2⟩ := hx1 i hi
  refine ⟨b1, o1, c1, b2, o2, c2, fun wx e => ⟨?_, ?_, ?_⟩⟩
  · exact (e.cell (by omega) (by omega)).trans hu
  · exact (e.cell (by omega) (by omega)).trans hu2
  · exact (e.cell (by omega) (by omega)).trans (hx2 b hb)
theorem An0.plane {pb po pc : Nat} (a : An0 f C B N h P az ac E pf vj (.slice (some ⟨pb, po, none⟩) C pc) J X w W) {c : Nat} (hc : c < C) : ∃ b1 o1 c1, ∀ wx, Exc h (P + 1) W wx →
    wx.cell? ⟨pb, po + c, none⟩ = some (.slice (some ⟨b1, o1, none⟩) N c1) ∧ V2 .i32 wx.heap.size (.slice (some ⟨b1, o1, none⟩) N c1) N B (X c) wx := by
  obtain ⟨lo, hi', k1, k2, k3⟩ := a.planes
  obtain ⟨pb', po', pc', he, _, l0, l1, hx⟩ := k1
  cases he
  obtain ⟨u, hu, h2⟩ := hx c hc
  obtain ⟨b1, o1, c1, rfl, _⟩ := id h2
  refine ⟨b1, o1, c1, fun wx e => ⟨(e.cell (by omega) (by omega)).trans hu, ?_⟩⟩
  have := e.size
  exact (h2.keep fun k q0 q1 => e.block k (by omega) (by omega)).v2.mono (by omega)
theorem an_end {M gj : Nat} {Z : Nat → Nat → Int} {Q : Nat → Nat → Nat → Int} {gs : Nat → Nat} {W F : World} {S R : Nat} (hr : Rw gj B J W) (hs : Hsc az C B C Z gs M W) (hq : Cub .i64 3 25 26 ac E N C B pf Q W) (hz : az < M) (hE : ac < E)
    (hk : ∀ k, k < S → k ≠ R → F.heap[k]? = W.heap[k]?) (hS : S ≤ F.heap.size) (gS : gj < S ∧ gj ≠ R) (zS : az < S ∧ az ≠ R) (sS : ∀ i, i < C → gs i < S ∧ gs i ≠ R) (qS : E ≤ S ∧ (R < ac ∨ E ≤ R)) :
    V1 .i64 F.heap.size (.slice (some ⟨gj, 0, none⟩) B B) B J F ∧ V2 .i64 F.heap.size (.slice (some ⟨az, 0, none⟩) C C) C B Z F ∧ V3 .i64 F.heap.size (.slice (some ⟨ac, 0, none⟩) N N) N C B Q F := by
  refine ⟨(hr.keep (hk gj gS.1 gS.2)).v1.mono (by omega), ?_, ((hq.keep hE fun b h0 h1 => hk b (by omega) (by omega)).v3 hE).mono (by omega)⟩
  obtain ⟨⟨hd, h1, h2, h3⟩, h4, h5⟩ := hs
  have : Hsc az C B C Z gs M F := ⟨⟨hd, (hk az zS.1 zS.2).trans h1, h2, h3⟩, fun i hi => by
    obtain ⟨tab, t1, t2⟩ := h4 i hi
    exact ⟨tab, (hk _ (sS i hi).1 (sS i hi).2).trans t1, t2⟩, h5⟩
  exact this.v2 hz
end
end Sub
end Go.Proofs.YtcaifpjbjghhaaaGreatDoor

