import Derived.Test.YtcaifpjbjghhaaaGreatDoorSubP36
import Derived.Test.YtcaifpjbjghhaaaGreatDoorSubP29
/-
  Contracts of areCodes: are these codes of a format and its scales? Conditions: as told at each.
-/
namespace Go.Proofs.YtcaifpjbjghhaaaGreatDoor
set_option linter.unusedVariables false
open Go.RowKit Go.Shelf
namespace Sub
open Bank (Blk But)
open Poly (Reads cell_keep alloc_size enc enc_get)
open _root_.Go.Proofs.YtcaifpjbjghhaaaGreatDoor.Form (fv fc bel1 Says box_cells box_behind blk_below of_drew)
attribute [local go_sem] Oper.semAt_some

theorem own_blk {β : Type} (B k : Nat) (cur : Array Value) (t : TypeId) : OwnFrom B (fun (_ : β) W => Blk W k cur t) := fun s X Y row hs hg hr => by
  have hl : k < X.heap.size := Blk.lt hs
  refine (hg.block k hl (fun e => ?_)).trans hs
  obtain ⟨_, o, ho, hc⟩ := hr k e.symm
  rw [show X.heap[k]? = _ from hs] at ho
  cases ho
  cases hc

theorem keeps_below {B N : Nat} {W W' : World} (h : Below N W W') (hN : W.heap.size ≤ N) : KeepsFrom B W W' := ⟨h.size, fun k o _ hk _ => (h.block k (Nat.lt_of_lt_of_le (Array.getElem?_eq_some_iff.1 hk).1 hN)).trans hk⟩
theorem kb_below {Bn N : Nat} {W W' : World} (h : Below N W W') (hN : Bn < N) : KB Bn W W' := h.block Bn hN

def okC {N C B : Nat} (Q : Nat → Nat → Nat → Int) (Z U : Nat → Nat → Int) (x : Plc N C B) : Prop := (Qnt.la (Q x.1 x.2.1 x.2.2) (Z x.2.1 x.2.2) (U x.2.1 x.2.2)).2 = 0

set_option maxRecDepth 100000 in
set_option maxHeartbeats 400000 in
theorem areCodes_laid (hi : Nat) (f : M.Fmt) (C B N r : Nat) (Q : Nat → Nat → Nat → Int) (Z : Nat → Nat → Int) (sl : Int) (vj vs vc : Value) (w : World) (hT : Alloc.Tabs w) (hF : Sb f C B N r) (hS : Sh f C B r Z sl) (hs : V2 .i64 hi vs C B Z w) (hc : V3 .i64 hi vc N C B Q w) (hh : hi ≤ w.heap.size)
    (hj : ∃ a l c, vj = .slice a l c) (hZ : ∀ c, c < C → ∀ b, b < B → 0 ≤ Z c b ∧ Z c b ≤ 15) :
    Calls Tryz.prog 117 #[fv f, pa vj vs vc] w fun e w' => Says (∀ x : Plc N C B, okC Q Z (M.wid f C B r Z sl) x) w e w' := by
  obtain ⟨aj, lj, cj, hvj⟩ := hj
  obtain ⟨bs, os, cs, hvs⟩ := hs.form
  obtain ⟨bc, oc, cc, hvc⟩ := hc.form
  obtain ⟨W1, hW1⟩ : ∃ W1, ((w.alloc (.cells (fc f) 23)).alloc (.cells #[vj, vs, vc] 33)).alloc (.cells #[.bool false] 4) = W1 := ⟨_, rfl⟩
  have sz1 : W1.heap.size = w.heap.size + 3 := by rw [← hW1]; simp
  have bel : Below w.heap.size w W1 := by rw [← hW1]; exact ((bel1 _ _).alloc (bel1 _ _).size _).alloc (by simp; omega) _
  have hf1 : Blk W1 w.heap.size (fc f) 23 := by rw [← hW1]; exact ((Blk.new w _ _).alloc _).alloc _
  have hp1 : Blk W1 (w.heap.size + 1) #[vj, vs, vc] 33 := by
    rw [← hW1]
    have := Blk.new (w.alloc (.cells (fc f) 23)) #[vj, vs, vc] 33
    rw [alloc_size] at this
    exact this.alloc _
  have hr1 : Blk W1 (w.heap.size + 2) #[.bool false] 4 := by
    rw [← hW1]
    have := Blk.new ((w.alloc (.cells (fc f) 23)).alloc (.cells #[vj, vs, vc] 33)) #[.bool false] 4
    rw [alloc_size, alloc_size] at this
    exact this
  have hk := Alloc.Share_ok f vs (zl C B Z) C B r W1 (hT.below bel (Nat.le_refl _)) hS.good (((hs.below bel hh).mono (Nat.le_trans hh bel.size)).rows64 fun i hi j hj => by have := hZ i hi j hj; omega) hS.lst hS.bd
  have hfits : ∀ wx, Below W1.heap.size W1 wx → Calls Tryz.prog 167 #[vc, .int .i64 (N : Int), .int .i64 (C : Int), .int .i64 (B : Int)] wx fun e w' => e = .returned (.bool true) ∧ w' = wx := fun wx hb =>
    (isLaidI_any hi vc N _ _ N C B wx (((hc.below bel hh).below hb (by have := bel.size; omega)).l3) (by have := hF.n16; omega) (fun i hi => by have := hF.c2; have := hF.b8; exact ⟨by omega, fun j hj => by omega⟩)).mono fun e w' h => h.yes ⟨rfl, fun i hi => ⟨rfl, fun j hj => rfl⟩⟩
  have hpl := fun wx => places_any f wx
  have hloop : ∀ (w2 : World) (a : Nat), Below W1.heap.size W1 w2 → W1.heap.size ≤ a → Grd .i64 3 25 a C B (fun c b => M.wid f C B r Z sl c b) w2 → ∃ W0, ((w2.alloc (.cells #[.slice (some ⟨a, 0, none⟩) C C] 26)).alloc (.cells (fc f) 23)) = W0 ∧ W0.heap.size = w2.heap.size + 2 ∧
      Blk W0 (w.heap.size + 1) #[vj, vs, vc] 33 ∧ Blk W0 w2.heap.size #[.slice (some ⟨a, 0, none⟩) C C] 26 ∧ Blk W0 (w2.heap.size + 1) (fc f) 23 ∧ Blk W0 (w.heap.size + 2) #[.bool false] 4 ∧ Below w.heap.size w W0 ∧ Below W1.heap.size W1 W0 ∧
      V3 .i64 W0.heap.size vc N C B Q W0 ∧ V2 .i64 W0.heap.size vs C B Z W0 ∧ V2 .i64 W0.heap.size (.slice (some ⟨a, 0, none⟩) C C) C B (fun c b => M.wid f C B r Z sl c b) W0 := by
    intro w2 a b2 ha g2
    have s2 := b2.size
    have b3 : Below w2.heap.size w2 ((w2.alloc (.cells #[.slice (some ⟨a, 0, none⟩) C C] 26)).alloc (.cells (fc f) 23)) := (bel1 _ _).alloc (bel1 _ _).size _
    have b13 := b2.trans (b3.mono s2)
    have b03 := bel.trans (b13.mono bel.size)
    have n2 : Blk ((w2.alloc (.cells #[.slice (some ⟨a, 0, none⟩) C C] 26)).alloc (.cells (fc f) 23)) (w2.heap.size + 1) (fc f) 23 := by
      have := Blk.new (w2.alloc (.cells #[.slice (some ⟨a, 0, none⟩) C C] 26)) (fc f) 23
      rw [alloc_size] at this
      exact this
    have gl := g2.lt
    refine ⟨_, rfl, by simp, blk_below b13 hp1 (by omega), (Blk.new w2 _ _).alloc _, n2, blk_below b13 hr1 (by omega), b03, b13, (hc.below b03 hh).mono (Nat.le_trans hh b03.size), (hs.below b03 hh).mono (Nat.le_trans hh b03.size), ((g2.below b3 gl).v2).mono (by simp; omega)⟩
  have hgr : ∀ a w', Alloc.Grid a C B (M.shr (M.nd f.m C B r (zl C B Z)) (B * C) f.p sl) w' → Grd .i64 3 25 a C B (fun c b => M.wid f C B r Z sl c b) w' := fun a w' h => grid_grd h
  have HGr : Hid _ := hgr
  have HL : Hid _ := hloop
  have HFi : Hid _ := hfits
  have HP : Hid _ := hpl
  have HB1 : Hid (Below w.heap.size w W1) := bel
  have HF : Hid (Sb f C B N r) := hF
  have x0 := box_cells hf1
  obtain ⟨x0, x1, x2, x3, x4, x5, x6, x7, x8, x9⟩ := x0
  have y0 : W1.cell? ⟨w.heap.size + 1, 0, none⟩ = some vj := hp1.cell rfl
  have y1 : W1.cell? ⟨w.heap.size + 1, 1, none⟩ = some vs := hp1.cell rfl
  have y2 : W1.cell? ⟨w.heap.size + 1, 2, none⟩ = some vc := hp1.cell rfl
  have HX1 : Hid (Blk W1 w.heap.size (fc f) 23) := hf1
  have HY1 : Hid (Blk W1 (w.heap.size + 1) #[vj, vs, vc] 33) := hp1
  have hN := hF.hN
  have hC := hF.hC
  have hB := hF.hB
  rw [hN] at x4
  rw [hC] at x2
  rw [hB] at x3
  clear hgr hloop hfits hpl bel hf1 hp1 hr1 hT hS hs hc hF hZ
  generalize M.shr (M.nd f.m C B r (zl C B Z)) (B * C) f.p sl = SH at *
  generalize M.wid f C B r Z sl = U at *
  subst hvj hvs hvc
  refine (callsIn_wide (n := 9)).1 (callsIn_of_wp_marks Tryz.func117 rfl trivial (wpIn_wide.2 ?_) rfl)
  simp only [Tryz.ntmps117, List.size_toArray, List.length_cons, List.length_nil, Nat.reduceAdd, Nat.reduceSub, Array.replicate_succ, Array.replicate_zero, List.push_toArray, List.append_toArray, List.nil_append, List.cons_append]
  obtain ⟨c_, r_, h_, b_, k_, m_, j_, p_, l_, y_⟩ := f
  obtain rfl : h_ = C := hC
  obtain rfl : b_ = B := hB
  obtain rfl : k_ = N := hN
  unfold fv at hk HP ⊢
  unfold pa
  unfold fc at hW1
  dsimp only at hk HP hW1 x0 x1 x2 x3 x4 x5 x6 x7 x8 x9 ⊢
  go_wp2_with (first
    | (go_at_call 109; refine hk.mono ?_; clear hk; rintro e w2 ⟨a, ha, rfl, b2, g2⟩; have G2 : Hid (Grd .i64 3 25 a C B (fun c b => U c b) w2) := HGr.out a w2 g2; clear HGr; have HA : Hid (W1.heap.size ≤ a) := ha; clear g2 ha; have zs := box_cells (Blk.alloc (blk_below b2 HX1.out HX1.out.lt) (.cells #[.slice (some ⟨a, 0, none⟩) C C] 26)); dsimp only at zs; obtain ⟨z0, z1, z2, z3, z4, z5, z6, z7, z8, z9⟩ := zs; have u2 : (w2.alloc (.cells #[.slice (some ⟨a, 0, none⟩) C C] 26)).cell? ⟨w.heap.size + 1, 2, none⟩ = some (.slice (some ⟨bc, oc, none⟩) N cc) := (Blk.alloc (blk_below b2 HY1.out HY1.out.lt) _).cell rfl; have B2 : Hid (Below W1.heap.size W1 w2) := b2; clear b2)
    | (go_at_call 167; refine (HFi.out _ (B2.out.alloc B2.out.size _)).mono ?_; clear HFi; rintro e w' ⟨rfl, hw⟩; rw [hw]; clear hw w')
    | (go_at_call 50; refine (HP.out _).mono ?_; clear HP; rintro e w' ⟨rfl, hw⟩; rw [hw]; clear hw w'))
  obtain ⟨W0, hW0, sz0, p0, u0, f0, r0, b0, b10, v0, s0, q0⟩ := HL.out w2 a B2.out HA.out G2.out
  rw [hW0]
  have n16 := HF.out.n16
  have c2 := HF.out.c2
  have b8 := HF.out.b8
  have s2 := B2.out.size
  clear hW0 HL x0 x1 x2 x3 x4 x5 x6 x7 x8 x9 y0 y1 y2 z0 z1 z2 z3 z4 z5 z6 z7 z8 z9 u2 hW1
  have Hrb : Hid (W1.heap.size = w.heap.size + 3) := sz1
  have hrb : w.heap.size + 2 < W0.heap.size := by omega
  refine (wpIn_wide (n := 9)).1 ?_
  refine wpIn_rangeFunc_ownH rfl (by omega) (gf := 110) (lb := #[.pointer (some ⟨w2.heap.size + 1, 0, none⟩)]) rfl trivial (enters_of Tryz.func110 (by kernel_rfl) rfl)
    (places_stops (9 - 1) (w2.heap.size + 1) ⟨c_, r_, C, B, N, m_, j_, p_, l_, y_⟩ N C B rfl rfl rfl (by omega) (by omega) (by omega) W0 f0) KB.t (KB.b (by omega)) (Below.refl _ _) (fun _ => rfl)
    (fun pre W => Below W0.heap.size W0 W ∧ ∀ x ∈ pre, okC Q Z U x)
    (fun cd pre W => ((cd = .ret ∧ ∃ x : Plc N C B, ¬ okC Q Z U x) ∧ Below w.heap.size w W) ∧ Blk W (w.heap.size + 2) #[.bool false] 4)
    (OwnFrom.and (ownFrom_below (Nat.le_refl _) (Nat.le_refl _)) (ownFrom_pure _ _))
    (fun cd => OwnFrom.and (OwnFrom.and (ownFrom_pure _ _) (ownFrom_below (Nat.le_refl _) (by omega))) (own_blk _ _ _ _))
    ⟨Below.refl _ _, by simp⟩
    (fun x a' W => ∃ Bx, W0.heap.size ≤ Bx ∧ Blk W Bx (pc x) 94 ∧ ∃ t0 t1 t2 t6 t8 t9 t10 t11 t12 t13 t14 t15 t16 t17 t18 t19 t20 t21 t22 t23 t24 t25 t26 t27 t28 t29 t30 t31 t32 t33 t34 t35 t36 t37 t38 t39 t40 t41 t42 : Value, a' = { tmps := #[t0, t1, t2, .pointer (some ⟨w.heap.size + 1, 0, none⟩), .pointer (some ⟨w.heap.size + 1 + 1, 0, none⟩), .pointer (some ⟨w2.heap.size, 0, none⟩), t6, .pointer (some ⟨Bx, 0, none⟩), t8, t9, t10, t11, t12, t13, t14, t15, t16, t17, t18, t19, t20, t21, t22, t23, t24, t25, t26, t27, t28, t29, t30, t31, t32, t33, t34, t35, t36, t37, t38, t39, t40, t41, t42], defers := [] })
    (fun x a' _ X Y row hs hg hr => by obtain ⟨Bx, h1, h2, h3⟩ := hs; exact ⟨Bx, h1, own_blk _ Bx _ _ () X Y row h2 hg hr, h3⟩)
    ?assign ?body ?done ?stop
  case assign =>
    rintro l pre x W K ⟨hB, hp⟩ hK
    have hx : pv x = .agg #[.int .i64 (x.1.val : Int), .int .i64 (x.2.1.val : Int), .int .i64 (x.2.2.val : Int)] := rfl
    gi_wp2
    exact hK _ _ ((KeepsOthers.alloc _ _).from _) (kb_below (bel1 W _) (by have := hB.size; omega)) ⟨hB.alloc hB.size _, hp⟩ ⟨W.heap.size, hB.size, Blk.new W _ _, _, _, _, _, _, _, _, _, _, _, _, _, _, _, _, _, _, _, _, _, _, _, _, _, _, _, _, _, _, _, _, _, _, _, _, _, _, _, _, rfl⟩
  case body =>
    rintro l pre x a' W hl _ ⟨hB, hp⟩ ⟨Bx, hBx, bX, t0, t1, t2, t6, t8, t9, t10, t11, t12, t13, t14, t15, t16, t17, t18, t19, t20, t21, t22, t23, t24, t25, t26, t27, t28, t29, t30, t31, t32, t33, t34, t35, t36, t37, t38, t39, t40, t41, t42, rfl⟩ hlt
    have pb := blk_below hB p0 p0.lt
    have g0 : W.cell? ⟨w.heap.size + 1, 0, none⟩ = some (.slice aj lj cj) := pb.cell rfl
    have g1 : W.cell? ⟨w.heap.size + 1, 1, none⟩ = some (.slice (some ⟨bs, os, none⟩) C cs) := pb.cell rfl
    have g2 : W.cell? ⟨w.heap.size + 1, 2, none⟩ = some (.slice (some ⟨bc, oc, none⟩) N cc) := pb.cell rfl
    have g3 : W.cell? ⟨w2.heap.size, 0, none⟩ = some (.slice (some ⟨a, 0, none⟩) C C) := (blk_below hB u0 u0.lt).cell rfl
    have g4 : W.cell? ⟨Bx, 0, none⟩ = some (.int .i64 (x.1.val : Int)) := bX.cell rfl
    have g5 : W.cell? ⟨Bx, 1, none⟩ = some (.int .i64 (x.2.1.val : Int)) := bX.cell rfl
    have g6 : W.cell? ⟨Bx, 2, none⟩ = some (.int .i64 (x.2.2.val : Int)) := bX.cell rfl
    have hlev := level_any W0.heap.size N C B (.slice aj lj cj) (.slice (some ⟨bs, os, none⟩) C cs) (.slice (some ⟨bc, oc, none⟩) N cc) (.slice (some ⟨a, 0, none⟩) C C) Q Z U x.1.val x.2.1.val x.2.2.val W (v0.below hB (Nat.le_refl _)) (s0.below hB (Nat.le_refl _)) (q0.below hB (Nat.le_refl _)) hB.size ⟨_, _, _, rfl⟩ x.1.isLt x.2.1.isLt x.2.2.isLt (by omega) (by omega) (by omega)
    have HBW : Hid (Below W0.heap.size W0 W) := hB
    have Hp : Hid (∀ x ∈ pre, okC Q Z U x) := hp
    have hq : okC Q Z U x ↔ (Qnt.la (Q x.1.val x.2.1.val x.2.2.val) (Z x.2.1.val x.2.2.val) (U x.2.1.val x.2.2.val)).2 = 0 := Iff.rfl
    clear pb hB hp p0 u0 v0 s0 q0
    generalize (Qnt.la (Q x.1.val x.2.1.val x.2.2.val) (Z x.2.1.val x.2.2.val) (U x.2.1.val x.2.2.val)).1 = L1 at *
    generalize (Qnt.la (Q x.1.val x.2.1.val x.2.2.val) (Z x.2.1.val x.2.2.val) (U x.2.1.val x.2.2.val)).2 = L2 at *
    have Hq : Hid (okC Q Z U x ↔ L2 = 0) := hq
    clear hq
    unfold pa at hlev
    by_cases hL : L2 = 0
    · subst hL
      gi_wp2_with (first | (refine ⟨trivial, ?_⟩; gi_at_call 54; refine (CallsIn.inRound l (callsIn_wide.2 hlev)).mono ?_; clear hlev; rintro e w' ⟨rfl, b4⟩; have B4 : Hid (Below W.heap.size W w') := b4; have rr := blk_below (b4.mono (Nat.le_refl _)) (blk_below HBW.out r0 r0.lt) (Nat.lt_of_lt_of_le r0.lt HBW.out.size); have rc : w'.cell? ⟨w.heap.size + 1 + 1, 0, none⟩ = some (.bool false) := rr.cell rfl; have rf : w'.frozen? ⟨w.heap.size + 1 + 1, 0, none⟩ = false := rr.free 0; have RR : Hid (Blk w' (w.heap.size + 2) #[.bool false] 4) := rr; clear rr b4))
      have b5 := HBW.out.trans (B4.out.mono HBW.out.size)
      exact ⟨keeps_below B4.out (Nat.le_refl _), kb_below B4.out (by have := HBW.out.size; omega), b5, fun y hy => (List.mem_append.1 hy).elim (Hp.out y) fun e => by rw [List.mem_singleton.1 e]; exact Hq.out.2 (by first | rfl | trivial)⟩
    · have hL' : (L2 == 0) = false := by simp; exact hL
      have hL'' : (L2 != 0) = true := by simp; exact hL
      have HLn : Hid (¬ L2 = 0) := hL
      clear hL
      gi_wp2_with (first | (refine ⟨trivial, ?_⟩; gi_at_call 54; refine (CallsIn.inRound l (callsIn_wide.2 hlev)).mono ?_; clear hlev; rintro e w' ⟨rfl, b4⟩; have B4 : Hid (Below W.heap.size W w') := b4; have rr := blk_below (b4.mono (Nat.le_refl _)) (blk_below HBW.out r0 r0.lt) (Nat.lt_of_lt_of_le r0.lt HBW.out.size); have rc : w'.cell? ⟨w.heap.size + 1 + 1, 0, none⟩ = some (.bool false) := rr.cell rfl; have rf : w'.frozen? ⟨w.heap.size + 1 + 1, 0, none⟩ = false := rr.free 0; have RR : Hid (Blk w' (w.heap.size + 2) #[.bool false] 4) := rr; clear rr b4))
      have b5 := HBW.out.trans (B4.out.mono HBW.out.size)
      exact ⟨(keeps_below B4.out (Nat.le_refl _)).trans ((KeepsOthers.setCell _ _ _).from _), ⟨⟨rfl, x, fun h => HLn.out (Hq.out.1 h)⟩, (b0.trans (b5.mono b0.size)).setCell (by show w.heap.size ≤ w.heap.size + 1 + 1; omega) _⟩, RR.out.set 0 _⟩
  case done =>
    rintro D zs W hD rfl ⟨hB, hp⟩ hK
    have rr := blk_below hB r0 r0.lt
    have rc : W.cell? ⟨w.heap.size + 1 + 1, 0, none⟩ = some (.bool false) := rr.cell rfl
    have rf : W.frozen? ⟨w.heap.size + 1 + 1, 0, none⟩ = false := rr.free 0
    go_wp2
    have hb3 := b0.trans (hB.mono b0.size)
    have hDr : D ≠ w.heap.size + 2 := by omega
    have hK' := (KeepsOthers.setCell W ⟨w.heap.size + 1 + 1, 0, none⟩ (.bool true)).same D _ hK rfl
    have hr5 : Blk ((W.setCell ⟨w.heap.size + 1 + 1, 0, none⟩ (.bool true)).putObj D (.deferred none)) (w.heap.size + 2) #[.bool true] 4 := (World.putObj_heap_other (Ne.symm hDr)).trans (rr.set 0 (.bool true))
    have hc5 : ((W.setCell ⟨w.heap.size + 1 + 1, 0, none⟩ (.bool true)).putObj D (.deferred none)).cell? ⟨w.heap.size + 1 + 1, 0, none⟩ = some (.bool true) := hr5.cell rfl
    refine ⟨by simp, .inl ⟨_, _, rfl, run_takeDeferred hK', ?_⟩⟩
    refine ⟨.bool true, by simp [results, Tryz.f117, go_sem, hc5], true, rfl, (hb3.setCell (p := ⟨w.heap.size + 1 + 1, 0, none⟩) (by show w.heap.size ≤ w.heap.size + 1 + 1; omega) _).trans (belowK_b (w := w) (Nat.le_refl _) _ D _ _ (by omega) hK' rfl rfl), ?_⟩
    exact ⟨fun _ x => hp x (mem_plist x), fun _ => rfl⟩
  case stop =>
    rintro D cd pre W hD _ ⟨⟨⟨rfl, x, hx⟩, hB⟩, rr⟩ hK
    gi_wp2
    have hDr : D ≠ w.heap.size + 2 := by omega
    have hr5 : Blk (W.putObj D (.deferred none)) (w.heap.size + 2) #[.bool false] 4 := (World.putObj_heap_other (Ne.symm hDr)).trans rr
    have hc5 : (W.putObj D (.deferred none)).cell? ⟨w.heap.size + 1 + 1, 0, none⟩ = some (.bool false) := hr5.cell rfl
    refine ⟨by simp, .inl ⟨_, _, rfl, run_takeDeferred hK, ?_⟩⟩
    refine ⟨.bool false, by simp [results, Tryz.f117, go_sem, hc5], false, rfl, hB.trans (belowK_b (w := w) (Nat.le_refl _) _ D _ _ (by omega) hK rfl rfl), ?_⟩
    exact ⟨fun h => (by cases h), fun h => absurd (h x) hx⟩

end Sub
end Go.Proofs.YtcaifpjbjghhaaaGreatDoor

/-
  Contracts of areJoins and refuse: are these joins of a format? Conditions: as told at each.
-/
namespace Go.Proofs.YtcaifpjbjghhaaaGreatDoor
set_option linter.unusedVariables false
open Go.RowKit
namespace Sub
open Bank (Blk But)
open Poly (Reads cell_keep alloc_size enc enc_get)
open _root_.Go.Proofs.YtcaifpjbjghhaaaGreatDoor.Form (fv fc bel1 Says box_cells box_behind blk_below of_drew)

def okJ (B : Nat) (J : Int) (js : List Int) : Prop := js.length = B ∧ js.getD (B - 1) 0 = 0 ∧ ∀ k, k < B → 0 ≤ js.getD k 0 ∧ js.getD k 0 ≤ J

set_option maxRecDepth 100000 in
set_option maxHeartbeats 2000000 in
theorem areJoins_any (lo hi : Nat) (f : M.Fmt) (B : Nat) (vj : Value) (js : List Int) (w : World) (h : Reads .i64 lo hi w vj js) (hh : hi ≤ w.heap.size) (hl : js.length ≤ 65536) (hB : f.b = B) (B4 : B = 4 ∨ B = 8) :
    Calls Tryz.prog 116 #[fv f, vj] w fun e w' => Says (okJ B f.j js) w e w' := by
  obtain ⟨a0, c0, rfl⟩ := h.form
  have HB : Hid (Below w.heap.size w _) := bel1 w (.cells (fc f) 23)
  have hbx := Blk.new w (fc f) 23
  have n1 : (js.length : Int) ≤ 65536 := by omega
  by_cases hlen : js.length = B
  · have hr := h.below (bel1 w (.cells (fc f) 23)) hh
    obtain ⟨b, off, rfl, _, hblt, hx⟩ := hr.cell (by omega)
    have HX : Hid (∀ i, i < js.length → (w.alloc (.cells (fc f) 23)).cell? ⟨b, off + i, none⟩ = some (.int .i64 (js.getD i 0))) := hx
    have e1 : (w.alloc (.cells (fc f) 23)).cell? ⟨b, off + (B - 1), none⟩ = some (.int .i64 (js.getD (B - 1) 0)) := hx (B - 1) (by omega)
    have x3 : (w.alloc (.cells (fc f) 23)).cell? ⟨w.heap.size, 3, none⟩ = some (.int .i64 (B : Int)) := by rw [← hB]; exact hbx.cell rfl
    have x6 : (w.alloc (.cells (fc f) 23)).cell? ⟨w.heap.size, 6, none⟩ = some (.int .i64 f.j) := hbx.cell rfl
    have hw1 : ((B : Int) - 1).toNat = B - 1 := by omega
    have B1 : (4 : Int) ≤ B := by omega
    have B2 : (B : Int) ≤ 8 := by omega
    have HJ : Hid (js.length = B) := hlen
    have hq0 : ∀ q, q < B → (w.alloc (.cells (fc f) 23)).cell? ⟨b, off + q, none⟩ = some (.int .i64 (js.getD q 0)) := fun q hq => hx q (by omega)
    have HQ : Hid _ := hq0
    clear hx h hr hbx HX hq0
    rw [hlen]
    clear hlen n1
    generalize hz : js.getD (B - 1) 0 = z at *
    have HZ : Hid (js.getD (B - 1) 0 = z) := hz
    clear hz
    obtain ⟨c_, r_, h_, b_, k_, m_, j_, p_, l_, y_⟩ := f
    obtain rfl : b_ = B := hB
    unfold fv
    unfold fc at HB x3 x6 e1 HQ
    dsimp only at HB x3 x6 e1 HQ ⊢
    obtain ⟨W, hW⟩ : ∃ W, w.alloc (.cells #[.int .i64 c_, .int .i64 r_, .int .i64 h_, .int .i64 (B : Int), .int .i64 k_, .int .i64 m_, .int .i64 j_, .int .i64 p_, .int .i64 l_, .int .i64 y_] 23) = W := ⟨_, rfl⟩
    rw [hW] at HB x3 x6 e1 HQ
    by_cases hz0 : z = 0
    · have HZ0 : Hid (z = 0) := hz0
      subst hz0
      go_enter Tryz.func116, Tryz.ntmps116
      go_wp2
      try rw [hW]
      clear hW
      go_loopw [23] (fun i wr => ∃ q : Nat, q ≤ B ∧ i = .int .i64 q ∧ wr = W ∧ ∀ k, k < q → 0 ≤ js.getD k 0 ∧ js.getD k 0 ≤ j_) (fun i _ => B - (intOf i).toNat)
      case atStart => exact ⟨0, by omega, rfl, rfl, fun k hk => absurd hk (by omega)⟩
      case round =>
        obtain ⟨q, hq, rfl, hw, hall⟩ := hrel
        rw [hw]
        clear hw
        have HA : Hid _ := hall
        clear hall
        by_cases hlt : q < B
        · have hlt' : (q : Int) < B := by omega
          have eq := HQ.out q hlt
          generalize hy : js.getD q 0 = y at *
          have HY : Hid (js.getD q 0 = y) := hy
          clear hy
          by_cases h0 : y < 0
          · have Hn : Hid (y < 0) := h0
            go_wp2
            go_ret
            exact ⟨false, rfl, HB.out, by simp; intro h; have := h.2.2 q hlt; rw [HY.out] at this; have := Hn.out; omega⟩
          · have h0' : decide (y < 0) = false := by simp; omega
            by_cases h1 : j_ < y
            · have Hn : Hid (j_ < y) := h1
              go_wp2
              go_ret
              exact ⟨false, rfl, HB.out, by simp; intro h; have := h.2.2 q hlt; rw [HY.out] at this; have := Hn.out; omega⟩
            · have h1' : decide (j_ < y) = false := by simp; omega
              have Hn : Hid (0 ≤ y ∧ y ≤ j_) := ⟨by omega, by omega⟩
              go_wp2
              go_roundw
              case rel =>
                refine ⟨q + 1, by omega, by go_num, by first | rfl | trivial, fun k hk => ?_⟩
                rcases (by omega : k < q ∨ k = q) with h | rfl
                · exact HA.out k h
                · rw [HY.out]; exact Hn.out
              case measure => simp [intOf]; omega
        · obtain rfl : q = B := by omega
          go_wp2
          go_ret
          exact ⟨true, rfl, HB.out, by simp; exact ⟨HJ.out, HZ.out, HA.out⟩⟩
    · have HZ0 : Hid (¬ z = 0) := hz0
      have hz1 : (z == 0) = false := by simp; exact hz0
      have hz2 : (z != 0) = true := by simp; exact hz0
      clear hz0
      go_enter Tryz.func116, Tryz.ntmps116
      go_wp2
      try rw [hW]
      clear hW
      go_ret
      exact ⟨false, rfl, HB.out, by simp; intro h; exact HZ0.out (HZ.out ▸ h.2.1)⟩
  · have x3 : (w.alloc (.cells (fc f) 23)).cell? ⟨w.heap.size, 3, none⟩ = some (.int .i64 (B : Int)) := by rw [← hB]; exact hbx.cell rfl
    have HN : Hid (¬ okJ B f.j js) := fun h => hlen h.1
    generalize js.length = L at *
    have hn1 : ((L : Int) == (B : Int)) = false := by simp; omega
    have hn2 : ((L : Int) != (B : Int)) = true := by simp; omega
    clear h hbx hlen
    obtain ⟨c_, r_, h_, b_, k_, m_, j_, p_, l_, y_⟩ := f
    obtain rfl : b_ = B := hB
    unfold fv
    unfold fc at HB x3
    dsimp only at HB x3 HN ⊢
    go_enter Tryz.func116, Tryz.ntmps116
    go_wp2
    go_ret
    exact ⟨false, rfl, HB.out, by simp; exact HN.out⟩

def okP {N C B : Nat} (J : Int) (js : List Int) (Q : Nat → Nat → Nat → Int) (Z U : Nat → Nat → Int) : Prop := okJ B J js ∧ ∀ x : Plc N C B, okC Q Z U x

set_option maxRecDepth 100000 in
set_option maxHeartbeats 2000000 in
theorem refuse_laid (hi : Nat) (f : M.Fmt) (C B N r : Nat) (js : List Int) (Q : Nat → Nat → Nat → Int) (Z : Nat → Nat → Int) (sl : Int) (vj vs vc : Value) (w : World) (hT : Alloc.Tabs w) (hF : Sb f C B N r) (hS : Sh f C B r Z sl) (hj : Reads .i64 0 hi w vj js) (hs : V2 .i64 hi vs C B Z w) (hc : V3 .i64 hi vc N C B Q w) (hh : hi ≤ w.heap.size)
    (hl : js.length ≤ 65536) (hZ : ∀ c, c < C → ∀ b, b < B → 0 ≤ Z c b ∧ Z c b ≤ 15) :
    Calls Tryz.prog 52 #[fv f, pa vj vs vc] w fun e w' => Below w.heap.size w w' ∧ ((e = .returned (.int .i64 0) ∧ okP (N := N) (C := C) (B := B) f.j js Q Z (M.wid f C B r Z sl)) ∨ (e = .returned (.int .i64 1) ∧ ¬ okP (N := N) (C := C) (B := B) f.j js Q Z (M.wid f C B r Z sl))) := by
  obtain ⟨aj, cj, hvj⟩ := hj.form
  obtain ⟨bs, os, cs, hvs⟩ := hs.form
  obtain ⟨bc, oc, cc, hvc⟩ := hc.form
  obtain ⟨W1, hW1⟩ : ∃ W1, (w.alloc (.cells (fc f) 23)).alloc (.cells #[vj, vs, vc] 33) = W1 := ⟨_, rfl⟩
  have bel : Below w.heap.size w W1 := by rw [← hW1]; exact (bel1 _ _).alloc (bel1 _ _).size _
  have hf1 : Blk W1 w.heap.size (fc f) 23 := by rw [← hW1]; exact (Blk.new w _ _).alloc _
  have hp1 : Blk W1 (w.heap.size + 1) #[vj, vs, vc] 33 := by
    rw [← hW1]
    have := Blk.new (w.alloc (.cells (fc f) 23)) #[vj, vs, vc] 33
    rw [alloc_size] at this
    exact this
  have h1 : Calls Tryz.prog 42 #[fv f] W1 fun e w' => e = .returned (.bool true) ∧ Below W1.heap.size W1 w' := (isSub_any f W1).mono fun e w' ⟨q, he, hb, hq⟩ => ⟨by rw [he, hq.2 hF.ok], hb⟩
  have h2 : ∀ wx, Below W1.heap.size W1 wx → Calls Tryz.prog 116 #[fv f, vj] wx fun e w' => Says (okJ B f.j js) wx e w' := fun wx hb => areJoins_any 0 hi f B vj js wx ((hj.below bel hh).below hb (Nat.le_trans hh bel.size)) (Nat.le_trans hh (Nat.le_trans bel.size hb.size)) hl hF.hB hF.b8
  have h3 : ∀ wx, Below W1.heap.size W1 wx → Calls Tryz.prog 117 #[fv f, pa vj vs vc] wx fun e w' => Says (∀ x : Plc N C B, okC Q Z (M.wid f C B r Z sl) x) wx e w' := fun wx hb => areCodes_laid hi f C B N r Q Z sl vj vs vc wx ((hT.below bel (Nat.le_refl _)).below hb (Nat.le_refl _)) hF hS ((hs.below bel hh).below hb (Nat.le_trans hh bel.size)) ((hc.below bel hh).below hb (Nat.le_trans hh bel.size)) (Nat.le_trans hh (Nat.le_trans bel.size hb.size)) ⟨_, _, _, hvj⟩ hZ
  have H2 : Hid _ := h2
  have H3 : Hid _ := h3
  have HB : Hid (Below w.heap.size w W1) := bel
  have HX : Hid (Blk W1 w.heap.size (fc f) 23) := hf1
  have HY : Hid (Blk W1 (w.heap.size + 1) #[vj, vs, vc] 33) := hp1
  clear h2 h3 bel hT hF hS hj hs hc hZ hl
  have xs := box_cells hf1
  have y0 : W1.cell? ⟨w.heap.size + 1, 0, none⟩ = some vj := hp1.cell rfl
  have y1 : W1.cell? ⟨w.heap.size + 1, 1, none⟩ = some vs := hp1.cell rfl
  have y2 : W1.cell? ⟨w.heap.size + 1, 2, none⟩ = some vc := hp1.cell rfl
  clear hf1 hp1
  unfold okP
  generalize hPC : (∀ x : Plc N C B, okC Q Z (M.wid f C B r Z sl) x) = PC at *
  generalize hPJ : okJ B f.j js = PJ at *
  clear hPC hPJ
  subst hvj hvs hvc
  unfold pa at H3 ⊢
  obtain ⟨c_, r_, h_, b_, k_, m_, j_, p_, l_, y_⟩ := f
  unfold fv at h1 H2 H3 ⊢
  unfold fc at hW1
  dsimp only at h1 H2 H3 xs hW1 ⊢
  obtain ⟨x0, x1, x2, x3, x4, x5, x6, x7, x8, x9⟩ := xs
  by_cases cj : PJ
  · have HJ : Hid PJ := cj
    clear cj
    by_cases cc : PC
    · have HC : Hid PC := cc
      clear cc
      go_enter Tryz.func52, Tryz.ntmps52
      go_wp2_with (first
        | (go_at_call 42; refine h1.mono ?_; clear h1; rintro e w2 ⟨rfl, b2⟩; have zs := box_cells (blk_below b2 HX.out HX.out.lt); dsimp only at zs; obtain ⟨z0, z1, z2, z3, z4, z5, z6, z7, z8, z9⟩ := zs; have u := blk_below b2 HY.out HY.out.lt; have u0 := u.cell (o := 0) (v := .slice aj js.length cj) rfl; have u1 := u.cell (o := 1) (v := .slice (some ⟨bs, os, none⟩) C cs) rfl; have u2 := u.cell (o := 2) (v := .slice (some ⟨bc, oc, none⟩) N cc) rfl; clear u; have B2 : Hid (Below W1.heap.size W1 w2) := b2; clear b2)
        | (go_at_call 116; refine (H2.out _ B2.out).mono ?_; clear H2; rintro e w3 ⟨q, rfl, b3, hq⟩; obtain rfl : q = true := hq.2 HJ.out; have b13 := B2.out.trans (b3.mono B2.out.size); have zs := box_cells (blk_below b13 HX.out HX.out.lt); dsimp only at zs; obtain ⟨v0, v1, v2, v3, v4, v5, v6, v7, v8, v9⟩ := zs; have u := blk_below b13 HY.out HY.out.lt; have s0 := u.cell (o := 0) (v := .slice aj js.length cj) rfl; have s1 := u.cell (o := 1) (v := .slice (some ⟨bs, os, none⟩) C cs) rfl; have s2 := u.cell (o := 2) (v := .slice (some ⟨bc, oc, none⟩) N cc) rfl; clear u; have B3 : Hid (Below W1.heap.size W1 w3) := b13; clear b3 b13 hq)
        | (go_at_call 117; refine (H3.out _ B3.out).mono ?_; clear H3; rintro e w4 ⟨q, rfl, b4, hq⟩; obtain rfl : q = true := hq.2 HC.out; have B4 : Hid (Below w3.heap.size w3 w4) := b4; clear b4 hq))
      go_ret
      exact ⟨HB.out.trans ((B3.out.trans (B4.out.mono B3.out.size)).mono HB.out.size), .inl ⟨rfl, HJ.out, HC.out⟩⟩
    · have HC : Hid (¬ PC) := cc
      clear cc
      go_enter Tryz.func52, Tryz.ntmps52
      go_wp2_with (first
        | (go_at_call 42; refine h1.mono ?_; clear h1; rintro e w2 ⟨rfl, b2⟩; have zs := box_cells (blk_below b2 HX.out HX.out.lt); dsimp only at zs; obtain ⟨z0, z1, z2, z3, z4, z5, z6, z7, z8, z9⟩ := zs; have u := blk_below b2 HY.out HY.out.lt; have u0 := u.cell (o := 0) (v := .slice aj js.length cj) rfl; have u1 := u.cell (o := 1) (v := .slice (some ⟨bs, os, none⟩) C cs) rfl; have u2 := u.cell (o := 2) (v := .slice (some ⟨bc, oc, none⟩) N cc) rfl; clear u; have B2 : Hid (Below W1.heap.size W1 w2) := b2; clear b2)
        | (go_at_call 116; refine (H2.out _ B2.out).mono ?_; clear H2; rintro e w3 ⟨q, rfl, b3, hq⟩; obtain rfl : q = true := hq.2 HJ.out; have b13 := B2.out.trans (b3.mono B2.out.size); have zs := box_cells (blk_below b13 HX.out HX.out.lt); dsimp only at zs; obtain ⟨v0, v1, v2, v3, v4, v5, v6, v7, v8, v9⟩ := zs; have u := blk_below b13 HY.out HY.out.lt; have s0 := u.cell (o := 0) (v := .slice aj js.length cj) rfl; have s1 := u.cell (o := 1) (v := .slice (some ⟨bs, os, none⟩) C cs) rfl; have s2 := u.cell (o := 2) (v := .slice (some ⟨bc, oc, none⟩) N cc) rfl; clear u; have B3 : Hid (Below W1.heap.size W1 w3) := b13; clear b3 b13 hq)
        | (go_at_call 117; refine (H3.out _ B3.out).mono ?_; clear H3; rintro e w4 ⟨q, rfl, b4, hq⟩; obtain rfl : q = false := Bool.eq_false_iff.2 fun e => HC.out (hq.1 e); have B4 : Hid (Below w3.heap.size w3 w4) := b4; clear b4 hq))
      go_ret
      exact ⟨HB.out.trans ((B3.out.trans (B4.out.mono B3.out.size)).mono HB.out.size), .inr ⟨rfl, fun h => HC.out h.2⟩⟩
  · have HJ : Hid (¬ PJ) := cj
    clear cj
    go_enter Tryz.func52, Tryz.ntmps52
    go_wp2_with (first
      | (go_at_call 42; refine h1.mono ?_; clear h1; rintro e w2 ⟨rfl, b2⟩; have zs := box_cells (blk_below b2 HX.out HX.out.lt); dsimp only at zs; obtain ⟨z0, z1, z2, z3, z4, z5, z6, z7, z8, z9⟩ := zs; have u := blk_below b2 HY.out HY.out.lt; have u0 := u.cell (o := 0) (v := .slice aj js.length cj) rfl; have u1 := u.cell (o := 1) (v := .slice (some ⟨bs, os, none⟩) C cs) rfl; have u2 := u.cell (o := 2) (v := .slice (some ⟨bc, oc, none⟩) N cc) rfl; clear u; have B2 : Hid (Below W1.heap.size W1 w2) := b2; clear b2)
      | (go_at_call 116; refine (H2.out _ B2.out).mono ?_; clear H2; rintro e w3 ⟨q, rfl, b3, hq⟩; obtain rfl : q = false := Bool.eq_false_iff.2 fun e => HJ.out (hq.1 e); have B3 : Hid (Below W1.heap.size W1 w3) := B2.out.trans (b3.mono B2.out.size); clear b3 hq))
    go_ret
    exact ⟨HB.out.trans (B3.out.mono HB.out.size), .inr ⟨rfl, fun h => HJ.out h.1⟩⟩

end Sub
end Go.Proofs.YtcaifpjbjghhaaaGreatDoor

/-
  How a frame's numbers are taken: what a taker is held to (Tk), whichever way it takes; contracts of takeRow, known and the fields' closures over any taker. Conditions: as told at each.
-/
namespace Go.Proofs.YtcaifpjbjghhaaaGreatDoor
set_option linter.unusedVariables false
open Go.RowKit Go.Shelf
namespace Sub
open Bank (Blk But)
open Poly (Reads cell_keep alloc_size enc enc_get)
open _root_.Go.Proofs.YtcaifpjbjghhaaaGreatDoor.Form (fv fc bel1 Says box_cells box_behind blk_below of_drew)

structure Abv (N0 : Nat) (w w' : World) : Prop where
  os : w'.os = w.os
  tape : w'.tape = w.tape
  output : w'.output = w.output
  size : w.heap.size ≤ w'.heap.size
  block : ∀ k, N0 ≤ k → k < w.heap.size → w'.heap[k]? = w.heap[k]?
section
variable {N0 : Nat} {a w w' : World}
theorem Abv.refl (N0 : Nat) (w : World) : Abv N0 w w := ⟨rfl, rfl, rfl, Nat.le_refl _, fun _ _ _ => rfl⟩
theorem Abv.trans (h : Abv N0 a w) (k : Abv N0 w w') : Abv N0 a w' := ⟨k.os.trans h.os, k.tape.trans h.tape, k.output.trans h.output, Nat.le_trans h.size k.size, fun i h0 h1 => (k.block i h0 (Nat.lt_of_lt_of_le h1 h.size)).trans (h.block i h0 h1)⟩
theorem Abv.blk (h : Abv N0 w w') {k : Nat} {cur : Array Value} {t : TypeId} (hk : Blk w k cur t) (h0 : N0 ≤ k) : Blk w' k cur t := (h.block k h0 hk.lt).trans hk
theorem Abv.of_below (h : Below w.heap.size w w') : Abv N0 w w' := ⟨h.os, h.tape, h.output, h.size, fun k _ hk => h.block k hk⟩
theorem Abv.drew (h : Abv N0 a w) : Abv N0 a w.drew := ⟨h.os, h.tape, h.output, h.size, h.block⟩
theorem Abv.drewN (h : Abv N0 a w) (m : Nat) : Abv N0 a (w.drewN m) := ⟨h.os, h.tape, h.output, h.size, h.block⟩
theorem Abv.of_drew (h : Abv N0 w.drew w') : Abv N0 w w' := ⟨h.os, h.tape, h.output, h.size, h.block⟩
end

structure Nb where
  j : Nat → Int
  s : Nat → Nat → Int
  q : Nat → Nat → Nat → Int
def up1 (f : Nat → Int) (b : Nat) (z : Int) : Nat → Int := fun b' => if b' = b then z else f b'
def Nb.setJ (m : Nb) (b : Nat) (z : Int) : Nb := { m with j := up1 m.j b z }
def Nb.setS (m : Nb) (c b : Nat) (z : Int) : Nb := { m with s := fun c' => if c' = c then up1 (m.s c) b z else m.s c' }
def Nb.setQ (m : Nb) (i c b : Nat) (z : Int) : Nb := { m with q := fun i' c' b' => if i' = i ∧ c' = c ∧ b' = b then z else m.q i' c' b' }
theorem up1_same (f : Nat → Int) (b : Nat) : up1 f b (f b) = f := by
  funext b'; unfold up1; split
  · rename_i e; rw [e]
  · rfl
theorem setJ_same (m : Nb) (b : Nat) : m.setJ b (m.j b) = m := by unfold Nb.setJ; rw [up1_same]
theorem setS_same (m : Nb) (c b : Nat) : m.setS c b (m.s c b) = m := by
  unfold Nb.setS
  rw [up1_same]
  have : (fun c' => if c' = c then m.s c else m.s c') = m.s := by funext c'; split
                                                                  · rename_i e; rw [e]
                                                                  · rfl
  rw [this]
theorem setQ_same (m : Nb) (i c b : Nat) : m.setQ i c b (m.q i c b) = m := by
  unfold Nb.setQ
  have : (fun i' c' b' => if i' = i ∧ c' = c ∧ b' = b then m.q i c b else m.q i' c' b') = m.q := by
    funext i' c' b'; split
    · rename_i e; rw [e.1, e.2.1, e.2.2]
    · rfl
  rw [this]

structure Ad where
  bj : Nat
  oj : Nat
  cj : Nat
  bs : Nat
  os : Nat
  cs : Nat
  bc : Nat
  oc : Nat
  cc : Nat
  rb : Nat → Nat
  ro : Nat → Nat
  rc : Nat → Nat
  hb : Nat → Nat
  ho : Nat → Nat
  hc : Nat → Nat
  tb : Nat → Nat → Nat
  to : Nat → Nat → Nat
  tc : Nat → Nat → Nat
def Ad.vj (A : Ad) (B : Nat) : Value := .slice (some ⟨A.bj, A.oj, none⟩) B A.cj
def Ad.vs (A : Ad) (C : Nat) : Value := .slice (some ⟨A.bs, A.os, none⟩) C A.cs
def Ad.vc (A : Ad) (N : Nat) : Value := .slice (some ⟨A.bc, A.oc, none⟩) N A.cc
def Ad.pa (A : Ad) (C B N : Nat) : Array Value := #[A.vj B, A.vs C, A.vc N]
structure Ad.ok (A : Ad) (N0 C B N : Nat) : Prop where
  j : A.bj < N0 ∧ B ≤ A.cj
  s : A.bs < N0 ∧ C ≤ A.cs
  c : A.bc < N0 ∧ N ≤ A.cc
  r : ∀ c, c < C → A.rb c < N0 ∧ B ≤ A.rc c
  h : ∀ i, i < N → A.hb i < N0 ∧ C ≤ A.hc i
  t : ∀ i, i < N → ∀ c, c < C → A.tb i c < N0 ∧ B ≤ A.tc i c
structure Sees (A : Ad) (C B N : Nat) (m : Nb) (w : World) : Prop where
  hs : ∀ c, c < C → w.cell? ⟨A.bs, A.os + c, none⟩ = some (.slice (some ⟨A.rb c, A.ro c, none⟩) B (A.rc c))
  hq : ∀ i, i < N → w.cell? ⟨A.bc, A.oc + i, none⟩ = some (.slice (some ⟨A.hb i, A.ho i, none⟩) C (A.hc i))
  hr : ∀ i, i < N → ∀ c, c < C → w.cell? ⟨A.hb i, A.ho i + c, none⟩ = some (.slice (some ⟨A.tb i c, A.to i c, none⟩) B (A.tc i c))
  j : ∀ b, b < B → w.cell? ⟨A.bj, A.oj + b, none⟩ = some (.int .i64 (m.j b))
  s : ∀ c, c < C → ∀ b, b < B → w.cell? ⟨A.rb c, A.ro c + b, none⟩ = some (.int .i64 (m.s c b))
  q : ∀ i, i < N → ∀ c, c < C → ∀ b, b < B → w.cell? ⟨A.tb i c, A.to i c + b, none⟩ = some (.int .i64 (m.q i c b))
section
variable {A : Ad} {N0 C B N : Nat} {m : Nb} {w w' : World}
theorem Sees.keep (h : Sees A C B N m w) (ok : A.ok N0 C B N) (hk : ∀ k, k < N0 → w'.heap[k]? = w.heap[k]?) : Sees A C B N m w' :=
  ⟨fun c hc => (cell_keep (hk _ ok.s.1)).trans (h.hs c hc), fun i hi => (cell_keep (hk _ ok.c.1)).trans (h.hq i hi), fun i hi c hc => (cell_keep (hk _ (ok.h i hi).1)).trans (h.hr i hi c hc),
   fun b hb => (cell_keep (hk _ ok.j.1)).trans (h.j b hb), fun c hc b hb => (cell_keep (hk _ (ok.r c hc).1)).trans (h.s c hc b hb), fun i hi c hc b hb => (cell_keep (hk _ (ok.t i hi c hc).1)).trans (h.q i hi c hc b hb)⟩
theorem Sees.v1 (h : Sees A C B N m w) (ok : A.ok N0 C B N) : V1 .i64 N0 (A.vj B) B m.j w := ⟨_, _, _, rfl, ok.j.2, ok.j.1, h.j⟩
theorem Sees.v2 (h : Sees A C B N m w) (ok : A.ok N0 C B N) : V2 .i64 N0 (A.vs C) C B m.s w :=
  ⟨_, _, _, rfl, ok.s.2, ok.s.1, fun c hc => ⟨_, h.hs c hc, _, _, _, rfl, (ok.r c hc).2, (ok.r c hc).1, h.s c hc⟩⟩
theorem Sees.v3 (h : Sees A C B N m w) (ok : A.ok N0 C B N) : V3 .i64 N0 (A.vc N) N C B m.q w :=
  ⟨_, _, _, rfl, ok.c.2, ok.c.1, fun i hi => ⟨_, h.hq i hi, _, _, _, rfl, (ok.h i hi).2, (ok.h i hi).1, fun c hc => ⟨_, h.hr i hi c hc, _, _, _, rfl, (ok.t i hi c hc).2, (ok.t i hi c hc).1, h.q i hi c hc⟩⟩⟩
end

structure Tk (σ : Type) (K : FuncId) (caps : Array Value) (A : Ad) (N0 C B N : Nat) (I : σ → Nb → World → Prop) (step : σ → Int → Nat → σ × Int) : Prop where
  ent : Enters Tryz.prog K
  tabs : ∀ s m w, I s m w → Alloc.Tabs w
  ok : A.ok N0 C B N
  sees : ∀ s m w, I s m w → Sees A C B N m w
  size : ∀ s m w, I s m w → N0 ≤ w.heap.size
  keep : ∀ s m w w', I s m w → (∀ k, k < N0 → w'.heap[k]? = w.heap[k]?) → w.heap.size ≤ w'.heap.size → I s m w'
  tmp : ∀ s m w g (z : Int) k, I s m w → N0 ≤ g → Blk w g #[.int .i64 z] 3 → 0 ≤ z ∧ z < 65536 → k ≤ 16 → Calls Tryz.prog K (#[.pointer (some ⟨g, 0, none⟩), .int .i64 (k : Int)] ++ caps) w fun e w' =>
    e = .returned (.tuple #[]) ∧ I (step s z k).1 m w' ∧ w.heap.size ≤ w'.heap.size ∧ w'.os = w.os ∧ w'.tape = w.tape ∧ w'.output = w.output ∧ ∀ x, N0 ≤ x → x ≠ g → x < w.heap.size → w'.heap[x]? = w.heap[x]?
  tj : ∀ s m w b k, I s m w → b < B → k ≤ 16 → Calls Tryz.prog K (#[.pointer (some ⟨A.bj, A.oj + b, none⟩), .int .i64 (k : Int)] ++ caps) w fun e w' =>
    e = .returned (.tuple #[]) ∧ I (step s (m.j b) k).1 (m.setJ b (step s (m.j b) k).2) w' ∧ Abv N0 w w'
  ts : ∀ s m w c b k, I s m w → c < C → b < B → k ≤ 16 → Calls Tryz.prog K (#[.pointer (some ⟨A.rb c, A.ro c + b, none⟩), .int .i64 (k : Int)] ++ caps) w fun e w' =>
    e = .returned (.tuple #[]) ∧ I (step s (m.s c b) k).1 (m.setS c b (step s (m.s c b) k).2) w' ∧ Abv N0 w w'
  tq : ∀ s m w i c b k, I s m w → i < N → c < C → b < B → k ≤ 16 → Calls Tryz.prog K (#[.pointer (some ⟨A.tb i c, A.to i c + b, none⟩), .int .i64 (k : Int)] ++ caps) w fun e w' =>
    e = .returned (.tuple #[]) ∧ I (step s (m.q i c b) k).1 (m.setQ i c b (step s (m.q i c b) k).2) w' ∧ Abv N0 w w'

def rowT {σ : Type} (step : σ → Int → Nat → σ × Int) (k : Nat) (s : σ) (f : Nat → Int) : Nat → σ × (Nat → Int)
  | 0 => (s, f)
  | n + 1 => ((step (rowT step k s f n).1 ((rowT step k s f n).2 n) k).1, up1 (rowT step k s f n).2 n (step (rowT step k s f n).1 ((rowT step k s f n).2 n) k).2)

set_option maxRecDepth 100000 in
theorem takeRow_any {σ : Type} {step : σ → Int → Nat → σ × Int} (K : FuncId) (caps : Array Value) (hK : Enters Tryz.prog K) (N0 : Nat) (R : σ → (Nat → Int) → World → Prop) (b o c n k : Nat) (k16 : k ≤ 16) (n8 : n ≤ 8)
    (hT : ∀ s f w x, x < n → R s f w → Calls Tryz.prog K (#[.pointer (some ⟨b, o + x, none⟩), .int .i64 (k : Int)] ++ caps) w fun e w' => e = .returned (.tuple #[]) ∧ R (step s (f x) k).1 (up1 f x (step s (f x) k).2) w' ∧ Abv N0 w w')
    (s : σ) (f : Nat → Int) (w : World) (h0 : R s f w) :
    Calls Tryz.prog 177 #[.slice (some ⟨b, o, none⟩) n c, .int .i64 (k : Int), .func (.func K) #[] caps] w fun e w' => e = .returned (.tuple #[]) ∧ R (rowT step k s f n).1 (rowT step k s f n).2 w' ∧ Abv N0 w w' := by
  have HT : Hid _ := hT
  have H0 : Hid (R s f w) := h0
  clear hT h0
  have n1 : (n : Int) ≤ 8 := by omega
  unfold Enters at hK
  go_enter Tryz.func177, Tryz.ntmps177
  go_wp2
  go_loopw [9] (fun i wr => ∃ q : Nat, q ≤ n ∧ i = .int .i64 q ∧ R (rowT step k s f q).1 (rowT step k s f q).2 wr ∧ Abv N0 w wr) (fun i _ => n - (intOf i).toNat)
  case atStart => exact ⟨0, by omega, rfl, H0.out, Abv.refl _ _⟩
  case round =>
    clear H0
    obtain ⟨q, hq, rfl, hr, ha⟩ := hrel
    by_cases hlt : q < n
    · have hlt' : (q : Int) < n := by omega
      have hcall := HT.out _ _ wr q hlt hr
      have HA : Hid (Abv N0 w wr) := ha
      clear hr ha
      go_wp2_with (go_at_fn K; refine hcall.mono ?_; rintro e w3 ⟨rfl, h1, h2⟩; replace h1 : Hid _ := h1; replace h2 : Hid (Abv N0 wr w3) := h2)
      go_roundw
      case rel => exact ⟨q + 1, by omega, by go_num, h1.out, HA.out.trans h2.out⟩
      case measure => simp [intOf]; omega
    · obtain rfl : q = n := by omega
      have HR : Hid _ := hr
      have HA : Hid (Abv N0 w wr) := ha
      clear hr ha
      go_wp2
      go_end0
      exact ⟨rfl, HR.out, HA.out⟩

structure Kn (z k : Int) (w w' : World) : Prop where
  bel : Below w.heap.size w w'
  size : w'.heap.size = w.heap.size + 2
  num : Blk w' w.heap.size #[.int .i64 z] 3
  wid : Blk w' (w.heap.size + 1) #[.int .i64 k] 3
theorem known_any (z k : Int) (w : World) : Calls Tryz.prog 175 #[.int .i64 z, .int .i64 k] w fun e w' =>
    e = .returned (.func (.func 209) #[] #[.pointer (some ⟨w.heap.size, 0, none⟩), .pointer (some ⟨w.heap.size + 1, 0, none⟩)]) ∧ Kn z k w w' := by
  have hk : Kn z k w ((w.alloc (.cells #[.int .i64 z] 3)).alloc (.cells #[.int .i64 k] 3)) := by
    have h2 := Blk.new (w.alloc (.cells #[.int .i64 z] 3)) #[.int .i64 k] 3
    rw [alloc_size] at h2
    exact ⟨(bel1 _ _).alloc (bel1 _ _).size _, by simp, (Blk.new w _ _).alloc _, h2⟩
  have HK : Hid _ := hk
  clear hk
  go_enter Tryz.func175, Tryz.ntmps175
  go_wp2
  go_ret
  exact ⟨rfl, HK.out⟩

section
variable {σ : Type} {K : FuncId} {caps : Array Value} {A : Ad} {N0 C B N : Nat} {I : σ → Nb → World → Prop} {step : σ → Int → Nat → σ × Int}

theorem known1_any (T : Tk σ K caps A N0 C B N I step) (s : σ) (m : Nb) (w : World) (g : Nat) (z : Int) (k : Nat) (h : I s m w) (hg : N0 ≤ g) (hn : Blk w g #[.int .i64 z] 3) (hw : Blk w (g + 1) #[.int .i64 (k : Int)] 3) (hz : 0 ≤ z ∧ z < 65536) (hk : k ≤ 16) :
    Calls Tryz.prog 209 #[.func (.func K) #[] caps, .pointer (some ⟨g, 0, none⟩), .pointer (some ⟨g + 1, 0, none⟩)] w fun e w' =>
      e = .returned (.tuple #[]) ∧ I (step s z k).1 m w' ∧ w.heap.size ≤ w'.heap.size ∧ w'.os = w.os ∧ w'.tape = w.tape ∧ w'.output = w.output ∧ ∀ x, N0 ≤ x → x ≠ g → x < w.heap.size → w'.heap[x]? = w.heap[x]? := by
  have hcall := T.tmp s m w g z k h hg hn hz hk
  have hK := T.ent
  unfold Enters at hK
  have y0 : w.cell? ⟨g + 1, 0, none⟩ = some (.int .i64 (k : Int)) := hw.cell rfl
  clear T h hn hw
  go_enter Tryz.func209, Tryz.ntmps209
  go_wp2_with (go_at_fn K; refine hcall.mono ?_; clear hcall; rintro e w3 ⟨rfl, h1⟩; replace h1 : Hid _ := h1)
  go_end0
  exact ⟨rfl, h1.out⟩

theorem fields1_none (T : Tk σ K caps A N0 C B N I step) (f : M.Fmt) (F P : Nat) (s : σ) (m : Nb) (w : World) (h : I s m w) (hf : Blk w F (fc f) 23) (hj : f.j ≠ 1) :
    Calls Tryz.prog 176 #[.func (.func K) #[] caps, .pointer (some ⟨F, 0, none⟩), .pointer (some ⟨P, 0, none⟩)] w fun e w' => e = .returned (.tuple #[]) ∧ w' = w := by
  have x6 : w.cell? ⟨F, 6, none⟩ = some (.int .i64 f.j) := hf.cell rfl
  have hj' : (f.j == 1) = false := by simp; exact hj
  clear T h hf
  go_enter Tryz.func176, Tryz.ntmps176
  go_wp2
  go_end0
  exact ⟨rfl, rfl⟩

theorem fields1_any (T : Tk σ K caps A N0 C B N I step) (f : M.Fmt) (F P : Nat) (s : σ) (m : Nb) (w : World) (h : I s m w) (B8 : B ≤ 8) (hF : N0 ≤ F) (hP : N0 ≤ P) (hf : Blk w F (fc f) 23) (hp : Blk w P (A.pa C B N) 33) (hj : f.j = 1) :
    Calls Tryz.prog 176 #[.func (.func K) #[] caps, .pointer (some ⟨F, 0, none⟩), .pointer (some ⟨P, 0, none⟩)] w fun e w' =>
      e = .returned (.tuple #[]) ∧ I (rowT step 1 s m.j B).1 { m with j := (rowT step 1 s m.j B).2 } w' ∧ Abv N0 w w' := by
  have x6 : w.cell? ⟨F, 6, none⟩ = some (.int .i64 1) := by rw [← hj]; exact hf.cell rfl
  have y0 : w.cell? ⟨P, 0, none⟩ = some (.slice (some ⟨A.bj, A.oj, none⟩) B A.cj) := hp.cell rfl
  have hrow := takeRow_any (step := step) K caps T.ent N0 (fun s f w => I s { m with j := f } w) A.bj A.oj A.cj B 1 (by omega) B8 (fun s f w x hx h => T.tj s { m with j := f } w x 1 h hx (by omega)) s m.j w h
  clear T h hf hp
  go_enter Tryz.func176, Tryz.ntmps176
  go_wp2_with (go_at_call 177; refine hrow.mono ?_; clear hrow; rintro e w3 ⟨rfl, h1, h2⟩; replace h1 : Hid _ := h1; replace h2 : Hid (Abv N0 w w3) := h2)
  go_end0
  exact ⟨rfl, h1.out, h2.out⟩

def sclT (step : σ → Int → Nat → σ × Int) (B : Nat) (s : σ) (m : Nb) : Nat → σ × Nb
  | 0 => (s, m)
  | c + 1 => ((rowT step 4 (sclT step B s m c).1 ((sclT step B s m c).2.s c) B).1, { (sclT step B s m c).2 with s := fun c' => if c' = c then (rowT step 4 (sclT step B s m c).1 ((sclT step B s m c).2.s c) B).2 else (sclT step B s m c).2.s c' })

set_option maxRecDepth 100000 in
theorem fields2_any (T : Tk σ K caps A N0 C B N I step) (P : Nat) (s : σ) (m : Nb) (w : World) (h : I s m w) (B8 : B ≤ 8) (C2 : C ≤ 2) (hP : N0 ≤ P) (hp : Blk w P (A.pa C B N) 33) :
    Calls Tryz.prog 178 #[.func (.func K) #[] caps, .pointer (some ⟨P, 0, none⟩)] w fun e w' =>
      e = .returned (.tuple #[]) ∧ I (sclT step B s m C).1 (sclT step B s m C).2 w' ∧ Abv N0 w w' := by
  have y1 : w.cell? ⟨P, 1, none⟩ = some (.slice (some ⟨A.bs, A.os, none⟩) C A.cs) := hp.cell rfl
  have hrow : ∀ (s : σ) (m : Nb) (w : World) (c : Nat), I s m w → c < C → Calls Tryz.prog 177 #[.slice (some ⟨A.rb c, A.ro c, none⟩) B (A.rc c), .int .i64 4, .func (.func K) #[] caps] w fun e w' =>
      e = .returned (.tuple #[]) ∧ I (rowT step 4 s (m.s c) B).1 { m with s := fun c' => if c' = c then (rowT step 4 s (m.s c) B).2 else m.s c' } w' ∧ Abv N0 w w' := fun s m w c h hc =>
    takeRow_any (step := step) K caps T.ent N0 (fun s f w => I s { m with s := fun c' => if c' = c then f else m.s c' } w) (A.rb c) (A.ro c) (A.rc c) B 4 (by omega) B8 (fun s f w x hx h => by
      have := T.ts s { m with s := fun c' => if c' = c then f else m.s c' } w c x 4 h hc hx (by omega)
      simp only [if_true] at this
      refine this.mono ?_
      rintro e w' ⟨he, h1, h2⟩
      refine ⟨he, ?_, h2⟩
      have e1 : Nb.setS { m with s := fun c' => if c' = c then f else m.s c' } c x (step s (f x) 4).2 = { m with s := fun c' => if c' = c then up1 f x (step s (f x) 4).2 else m.s c' } := by
        unfold Nb.setS
        simp only [if_true]
        congr 1
        funext c'
        split
        · rfl
        · rfl
      rw [e1] at h1
      exact h1) s (m.s c) w (by
      have : (fun c' => if c' = c then m.s c else m.s c') = m.s := by funext c'; split
                                                                      · rename_i e; rw [e]
                                                                      · rfl
      rw [this]; exact h)
  have HR : Hid _ := hrow
  have HSe : Hid (∀ s m w, I s m w → Sees A C B N m w) := T.sees
  have H0 : Hid (I s m w) := h
  have C1 : (C : Int) ≤ 2 := by omega
  clear hrow T h hp
  go_enter Tryz.func178, Tryz.ntmps178
  go_wp2
  go_loopw [8] (fun i wr => ∃ q : Nat, q ≤ C ∧ i = .int .i64 q ∧ I (sclT step B s m q).1 (sclT step B s m q).2 wr ∧ Abv N0 w wr) (fun i _ => C - (intOf i).toNat)
  case atStart => exact ⟨0, by omega, rfl, H0.out, Abv.refl _ _⟩
  case round =>
    clear H0 y1
    obtain ⟨q, hq, rfl, hr, ha⟩ := hrel
    by_cases hlt : q < C
    · have hlt' : (q : Int) < C := by omega
      have z1 := (HSe.out _ _ _ hr).hs q hlt
      have hcall := HR.out _ _ wr q hr hlt
      have HA : Hid (Abv N0 w wr) := ha
      clear hr ha
      go_wp2_with (go_at_call 177; refine hcall.mono ?_; rintro e w3 ⟨rfl, h1, h2⟩; replace h1 : Hid _ := h1; replace h2 : Hid (Abv N0 wr w3) := h2)
      go_roundw
      case rel => exact ⟨q + 1, by omega, by go_num, h1.out, HA.out.trans h2.out⟩
      case measure => simp [intOf]; omega
    · obtain rfl : q = C := by omega
      have HR2 : Hid _ := hr
      have HA : Hid (Abv N0 w wr) := ha
      clear hr ha
      go_wp2
      go_end0
      exact ⟨rfl, HR2.out, HA.out⟩
end

end Sub
end Go.Proofs.YtcaifpjbjghhaaaGreatDoor

/-
  How a frame's codes are taken: contract of the fields' last closure over any taker. Conditions: as told at each.
-/
namespace Go.Proofs.YtcaifpjbjghhaaaGreatDoor
set_option linter.unusedVariables false
open Go.RowKit Go.Shelf
namespace Sub
open Bank (Blk But)
open Poly (Reads cell_keep alloc_size enc enc_get)
open _root_.Go.Proofs.YtcaifpjbjghhaaaGreatDoor.Form (fv fc bel1 Says box_cells box_behind blk_below of_drew)
attribute [local go_sem] Oper.semAt_some

def codT {σ : Type} {N C B : Nat} (step : σ → Int → Nat → σ × Int) (wd : Nat → Nat → Nat) (sm : σ × Nb) (xs : List (Plc N C B)) : σ × Nb :=
  xs.foldl (fun sm x => ((step sm.1 (sm.2.q x.1 x.2.1 x.2.2) (wd x.2.1 x.2.2)).1, sm.2.setQ x.1 x.2.1 x.2.2 (step sm.1 (sm.2.q x.1 x.2.1 x.2.2) (wd x.2.1 x.2.2)).2)) sm
theorem codT_snoc {σ : Type} {N C B : Nat} (step : σ → Int → Nat → σ × Int) (wd : Nat → Nat → Nat) (sm : σ × Nb) (xs : List (Plc N C B)) (x : Plc N C B) :
    codT step wd sm (xs ++ [x]) = ((step (codT step wd sm xs).1 ((codT step wd sm xs).2.q x.1 x.2.1 x.2.2) (wd x.2.1 x.2.2)).1, (codT step wd sm xs).2.setQ x.1 x.2.1 x.2.2 (step (codT step wd sm xs).1 ((codT step wd sm xs).2.q x.1 x.2.1 x.2.2) (wd x.2.1 x.2.2)).2) := by
  simp [codT]

theorem abv_keeps {N0 B : Nat} {W W' : World} (h : Abv N0 W W') (hB : N0 ≤ B) : KeepsFrom B W W' := ⟨h.size, fun k o hb hk _ => (h.block k (by omega) (Array.getElem?_eq_some_iff.1 hk).1).trans hk⟩
theorem abv_kb {N0 Bn : Nat} {W W' : World} (h : Abv N0 W W') (h0 : N0 ≤ Bn) (h1 : Bn < W.heap.size) : KB Bn W W' := h.block Bn h0 h1
theorem own_abv {β : Type} {N0 B : Nat} {W0 : World} (hB : W0.heap.size ≤ B) : OwnFrom B (fun (_ : β) W => Abv N0 W0 W) := fun s X Y row hs hg hr =>
  ⟨hg.os.trans hs.os, hg.tape.trans hs.tape, hg.output.trans hs.output, Nat.le_trans hs.size hg.size, fun k h0 h1 => (hg.block k (Nat.lt_of_lt_of_le h1 hs.size) (fun e => by have := (hr k e.symm).1; omega)).trans (hs.block k h0 h1)⟩

section
variable {σ : Type} {K : FuncId} {caps : Array Value} {A : Ad} {N0 C B N : Nat} {I : σ → Nb → World → Prop} {step : σ → Int → Nat → σ × Int}

theorem own_I {β : Type} (T : Tk σ K caps A N0 C B N I step) {B' : Nat} (hB : N0 ≤ B') (g : β → σ × Nb) : OwnFrom B' (fun (x : β) W => I (g x).1 (g x).2 W) := fun s X Y row hs hg hr =>
  T.keep _ _ X Y hs (fun k hk => hg.block k (Nat.lt_of_lt_of_le hk (T.size _ _ _ hs)) (fun e => by have := (hr k e.symm).1; omega)) hg.size

set_option maxRecDepth 100000 in
set_option maxHeartbeats 4000000 in
theorem fields3_any (T : Tk σ K caps A N0 C B N I step) (f : M.Fmt) (r : Nat) (F P : Nat) (s : σ) (m : Nb) (sl : Int) (w : World) (h : I s m w) (hF : Sb f C B N r) (hS : Sh f C B r m.s sl) (hZ : ∀ c, c < C → ∀ b, b < B → 0 ≤ m.s c b ∧ m.s c b ≤ 15) (F0 : N0 ≤ F) (P0 : N0 ≤ P) (hf : Blk w F (fc f) 23) (hp : Blk w P (A.pa C B N) 33) :
    Calls Tryz.prog 179 #[.func (.func K) #[] caps, .pointer (some ⟨F, 0, none⟩), .pointer (some ⟨P, 0, none⟩)] w fun e w' =>
      e = .returned (.tuple #[]) ∧ I (codT step (fun c b => (M.wid f C B r m.s sl c b).toNat) (s, m) (plist N C B)).1 (codT step (fun c b => (M.wid f C B r m.s sl c b).toNat) (s, m) (plist N C B)).2 w' ∧ Abv N0 w w' := by
  have n16 := hF.n16
  have c2 := hF.c2
  have b8 := hF.b8
  have hw0 := T.size _ _ _ h
  obtain ⟨W1, hW1⟩ : ∃ W1, w.alloc (.cells #[.func (.func K) #[] caps] 121) = W1 := ⟨_, rfl⟩
  have sz1 : W1.heap.size = w.heap.size + 1 := by rw [← hW1]; simp
  have bel : Below w.heap.size w W1 := by rw [← hW1]; exact bel1 _ _
  have ht1 : Blk W1 w.heap.size #[.func (.func K) #[] caps] 121 := by rw [← hW1]; exact Blk.new w _ _
  have hf1 := blk_below bel hf hf.lt
  have hp1 := blk_below bel hp hp.lt
  have i1 : I s m W1 := T.keep _ _ _ _ h (fun k hk => bel.block k (by omega)) bel.size
  have hsh := sharesOf_any N0 f C B r m.s sl (A.vj B) (A.vs C) (A.vc N) W1 (T.tabs _ _ _ i1) hS ((T.sees _ _ _ i1).v2 T.ok) (T.size _ _ _ i1) ⟨_, _, _, rfl⟩ ⟨_, _, _, rfl⟩ hZ
  have hpl := fun wx => places_any f wx
  have hwd : ∀ c b, ((M.wid f C B r m.s sl c b).toNat : Int) = M.wid f C B r m.s sl c b := fun c b => by have := (M.wid_bd f C B r m.s sl c b).1; omega
  have hwb : ∀ c b, (M.wid f C B r m.s sl c b).toNat ≤ 16 := fun c b => by have := (M.wid_bd f C B r m.s sl c b).2; omega
  obtain ⟨wd, hwdd⟩ : ∃ wd : Nat → Nat → Nat, wd = fun c b => (M.wid f C B r m.s sl c b).toNat := ⟨_, rfl⟩
  have hgw : ∀ a w', Grd .i64 3 25 a C B (fun c b => M.wid f C B r m.s sl c b) w' → Grd .i64 3 25 a C B (fun c b => (wd c b : Int)) w' := fun a w' h => h.ext fun c _ b _ => by rw [hwdd]; exact (hwd c b).symm
  have hwb' : ∀ c b, wd c b ≤ 16 := fun c b => by rw [hwdd]; exact hwb c b
  rw [← hwdd]
  have HGw : Hid _ := hgw
  have HSh : Hid (Below w.heap.size w W1) := bel
  have HP : Hid _ := hpl
  have HI1 : Hid (I s m W1) := i1
  have HT1 : Hid (Blk W1 w.heap.size #[.func (.func K) #[] caps] 121) := ht1
  have HF1 : Hid (Blk W1 F (fc f) 23) := hf1
  have HP1 : Hid (Blk W1 P (A.pa C B N) 33) := hp1
  have hFl : F < w.heap.size := hf.lt
  have hPl : P < w.heap.size := hp.lt
  have HF : Hid (Sb f C B N r) := hF
  have xs := box_cells hf1
  have y0 : W1.cell? ⟨P, 0, none⟩ = some (.slice (some ⟨A.bj, A.oj, none⟩) B A.cj) := hp1.cell rfl
  have y1 : W1.cell? ⟨P, 1, none⟩ = some (.slice (some ⟨A.bs, A.os, none⟩) C A.cs) := hp1.cell rfl
  have y2 : W1.cell? ⟨P, 2, none⟩ = some (.slice (some ⟨A.bc, A.oc, none⟩) N A.cc) := hp1.cell rfl
  have hN := hF.hN
  have hC := hF.hC
  have hB := hF.hB
  clear hgw bel i1 ht1 hf1 hp1 hpl hwd hwb hwdd h hS hZ hf hp hF
  generalize M.wid f C B r m.s sl = U at *
  unfold Ad.vj Ad.vs Ad.vc pa at hsh
  refine (callsIn_wide (n := 9)).1 (callsIn_of_wp_marks Tryz.func179 rfl trivial (wpIn_wide.2 ?_) rfl)
  simp only [Tryz.ntmps179, List.size_toArray, List.length_cons, List.length_nil, Nat.reduceAdd, Nat.reduceSub, Array.replicate_succ, Array.replicate_zero, List.push_toArray, List.append_toArray, List.nil_append, List.cons_append]
  obtain ⟨c_, r_, h_, b_, k_, m_, j_, p_, l_, y_⟩ := f
  obtain rfl : h_ = C := hC
  obtain rfl : b_ = B := hB
  obtain rfl : k_ = N := hN
  unfold fv at hsh HP
  dsimp only at hsh HP xs ⊢
  obtain ⟨x0, x1, x2, x3, x4, x5, x6, x7, x8, x9⟩ := xs
  go_wp2_with (first
    | (go_at_call 49; refine hsh.mono ?_; clear hsh; rintro e w2 ⟨a, rfl, ha, b2, g2⟩; have G2 : Hid (Grd .i64 3 25 a C B (fun c b => (wd c b : Int)) w2) := HGw.out a w2 g2; clear HGw; have HA : Hid (W1.heap.size ≤ a) := ha; clear g2 ha; have zs := box_cells (Blk.alloc (blk_below b2 HF1.out HF1.out.lt) (.cells #[.slice (some ⟨a, 0, none⟩) C C] 26)); dsimp only at zs; obtain ⟨z0, z1, z2, z3, z4, z5, z6, z7, z8, z9⟩ := zs; have B2 : Hid (Below W1.heap.size W1 w2) := b2; clear b2)
    | (go_at_call 50; refine (HP.out _).mono ?_; clear HP; rintro e w' ⟨rfl, hw⟩; rw [hw]; clear hw w'))
  obtain ⟨W0, hW0⟩ : ∃ W0, (w2.alloc (.cells #[.slice (some ⟨a, 0, none⟩) C C] 26)).alloc (.cells (fc ⟨c_, r_, C, B, N, m_, j_, p_, l_, y_⟩) 23) = W0 := ⟨_, rfl⟩
  have sz0 : W0.heap.size = w2.heap.size + 2 := by rw [← hW0]; simp
  have b20 : Below w2.heap.size w2 W0 := by rw [← hW0]; exact (bel1 _ _).alloc (bel1 _ _).size _
  have u0 : Blk W0 w2.heap.size #[.slice (some ⟨a, 0, none⟩) C C] 26 := by rw [← hW0]; exact (Blk.new w2 _ _).alloc _
  have f0 : Blk W0 (w2.heap.size + 1) (fc ⟨c_, r_, C, B, N, m_, j_, p_, l_, y_⟩) 23 := by
    rw [← hW0]
    have := Blk.new (w2.alloc (.cells #[.slice (some ⟨a, 0, none⟩) C C] 26)) (fc ⟨c_, r_, C, B, N, m_, j_, p_, l_, y_⟩) 23
    rw [alloc_size] at this
    exact this
  rw [hW0]
  have s2 := B2.out.size
  have b10 := B2.out.trans (b20.mono s2)
  have b00 : Below w.heap.size w W0 := HSh.out.trans (b10.mono HSh.out.size)
  have g0 := G2.out.below b20 G2.out.lt
  have gl := G2.out.lt
  have t0' := blk_below b10 HT1.out HT1.out.lt
  have p0 := blk_below b10 HP1.out HP1.out.lt
  have ha := HA.out
  have i0 : I s m W0 := T.keep _ _ _ _ HI1.out (fun k hk => b10.block k (by omega)) b10.size
  clear hW0 x0 x1 x2 x3 x4 x5 x6 x7 x8 x9 y0 y1 y2 z0 z1 z2 z3 z4 z5 z6 z7 z8 z9 hW1 HI1 HT1 HF1 HP1 b20 G2 B2
  refine (wpIn_wide (n := 9)).1 ?_
  refine wpIn_rangeFunc_ownH rfl (by omega) (gf := 110) (lb := #[.pointer (some ⟨w2.heap.size + 1, 0, none⟩)]) rfl trivial (enters_of Tryz.func110 (by kernel_rfl) rfl)
    (places_stops (9 - 1) (w2.heap.size + 1) ⟨c_, r_, C, B, N, m_, j_, p_, l_, y_⟩ N C B rfl rfl rfl (by omega) (by omega) (by omega) W0 f0) KB.t (KB.b (by omega)) (Below.refl _ _) (fun _ => rfl)
    (fun pre W => I (codT step wd (s, m) pre).1 (codT step wd (s, m) pre).2 W ∧ Abv N0 W0 W)
    (fun _ _ _ => False)
    (OwnFrom.and (own_I T (by omega) (fun pre => codT step wd (s, m) pre)) (own_abv (Nat.le_refl _)))
    (fun _ _ _ _ _ hs _ _ => hs)
    ⟨i0, Abv.refl _ _⟩
    (fun x a' W => ∃ Bx, W0.heap.size ≤ Bx ∧ Blk W Bx (pc x) 94 ∧ ∃ t0 t1 t6 t7 t8 t9 t10 t11 t12 t13 t14 t15 t16 t17 t18 t19 t20 t21 t22 t23 t24 t25 t26 t27 t28 t29 t30 t31 t32 t33 t34 t35 : Value, a' = { tmps := #[t0, t1, .pointer (some ⟨P, 0, none⟩), .pointer (some ⟨w.heap.size, 0, none⟩), .pointer (some ⟨w2.heap.size, 0, none⟩), .pointer (some ⟨Bx, 0, none⟩), t6, t7, t8, t9, t10, t11, t12, t13, t14, t15, t16, t17, t18, t19, t20, t21, t22, t23, t24, t25, t26, t27, t28, t29, t30, t31, t32, t33, t34, t35], defers := [] })
    (fun x a' _ X Y row hs hg hr => by obtain ⟨Bx, h1, h2, h3⟩ := hs; exact ⟨Bx, h1, own_blk _ Bx _ _ () X Y row h2 hg hr, h3⟩)
    ?assign ?body ?done ?stop
  case assign =>
    rintro l pre x W K' ⟨hI, hA⟩ hK
    have hx : pv x = .agg #[.int .i64 (x.1.val : Int), .int .i64 (x.2.1.val : Int), .int .i64 (x.2.2.val : Int)] := rfl
    gi_wp2
    exact hK _ _ ((KeepsOthers.alloc _ _).from _) (kb_below (bel1 W _) (by have := hA.size; omega)) ⟨T.keep _ _ _ _ hI (fun k hk => (bel1 W _).block k (Nat.lt_of_lt_of_le hk (T.size _ _ _ hI))) (bel1 W _).size, hA.trans (Abv.of_below (bel1 W _))⟩ ⟨W.heap.size, hA.size, Blk.new W _ _, _, _, _, _, _, _, _, _, _, _, _, _, _, _, _, _, _, _, _, _, _, _, _, _, _, _, _, _, _, _, _, _, rfl⟩
  case body =>
    rintro l pre x a' W hl _ ⟨hI, hA⟩ ⟨Bx, hBx, bX, t0, t1, t6, t7, t8, t9, t10, t11, t12, t13, t14, t15, t16, t17, t18, t19, t20, t21, t22, t23, t24, t25, t26, t27, t28, t29, t30, t31, t32, t33, t34, t35, rfl⟩ hlt
    have hsee := T.sees _ _ _ hI
    obtain ⟨k, hk⟩ : ∃ k, wd x.2.1.val x.2.2.val = k := ⟨_, rfl⟩
    have k16 : k ≤ 16 := by rw [← hk]; exact hwb' _ _
    have hcall := T.tq _ _ W x.1.val x.2.1.val x.2.2.val k hI x.1.isLt x.2.1.isLt x.2.2.isLt k16
    have hS2 : ∀ wx, Abv N0 W wx → Sees A C B N (codT step wd (s, m) pre).2 wx ∨ (∃ m', Sees A C B N m' wx) → (fun wx => wx.cell? ⟨w.heap.size, 0, none⟩ = some (.func (.func K) #[] caps) ∧ wx.cell? ⟨P, 2, none⟩ = some (.slice (some ⟨A.bc, A.oc, none⟩) N A.cc) ∧ wx.cell? ⟨Bx, 0, none⟩ = some (.int .i64 (x.1.val : Int)) ∧ wx.cell? ⟨Bx, 1, none⟩ = some (.int .i64 (x.2.1.val : Int)) ∧ wx.cell? ⟨Bx, 2, none⟩ = some (.int .i64 (x.2.2.val : Int)) ∧ wx.cell? ⟨A.bc, A.oc + x.1.val, none⟩ = some (.slice (some ⟨A.hb x.1.val, A.ho x.1.val, none⟩) C (A.hc x.1.val)) ∧ wx.cell? ⟨A.hb x.1.val, A.ho x.1.val + x.2.1.val, none⟩ = some (.slice (some ⟨A.tb x.1.val x.2.1.val, A.to x.1.val x.2.1.val, none⟩) B (A.tc x.1.val x.2.1.val)) ∧ wx.cell? ⟨w2.heap.size, 0, none⟩ = some (.slice (some ⟨a, 0, none⟩) C C) ∧ wx.cell? ⟨a, x.2.1.val, none⟩ = some (.slice (some ⟨a + 1 + x.2.1.val, 0, none⟩) B B) ∧ wx.cell? ⟨a + 1 + x.2.1.val, x.2.2.val, none⟩ = some (.int .i64 (k : Int))) wx := by
      intro wx hb hse
      have hse' : ∃ m', Sees A C B N m' wx := hse.elim (fun h => ⟨_, h⟩) id
      obtain ⟨m', hse'⟩ := hse'
      have hb0 := hA.trans hb
      have e1 := hb0.blk t0' (by omega)
      have e2 := hb0.blk p0 P0
      have e3 := hb.blk bX (by omega)
      have e4 := hb0.blk u0 (by omega)
      have e5 : wx.cell? ⟨a, x.2.1.val, none⟩ = some (.slice (some ⟨a + 1 + x.2.1.val, 0, none⟩) B B) := (cell_keep (hb0.block a (by omega) (by omega))).trans (g0.at_head x.2.1.isLt)
      have e6 : wx.cell? ⟨a + 1 + x.2.1.val, x.2.2.val, none⟩ = some (.int .i64 (k : Int)) := by
        have := (g0.at x.2.1.isLt x.2.2.isLt).1
        rw [hk] at this
        exact (cell_keep (hb0.block _ (by omega) (by have := x.2.1.isLt; omega))).trans this
      exact ⟨e1.cell rfl, e2.cell rfl, e3.cell rfl, e3.cell rfl, e3.cell rfl, hse'.hq _ x.1.isLt, hse'.hr _ x.1.isLt _ x.2.1.isLt, e4.cell rfl, e5, e6⟩
    have HS2 : Hid _ := hS2
    have HAW : Hid (Abv N0 W0 W) := hA
    have hS0 := hS2 W.drew (Abv.refl N0 W).drew (.inl ⟨hsee.hs, hsee.hq, hsee.hr, hsee.j, hsee.s, hsee.q⟩)
    have HSe : Hid (∀ s m w, I s m w → Sees A C B N m w) := T.sees
    have hsn := codT_snoc step wd (s, m) pre x
    rw [hk] at hsn
    have hK := T.ent
    unfold Enters at hK
    have i1 : (x.1.val : Int) < N := by have := x.1.isLt; omega
    have i2 : (x.2.1.val : Int) < C := by have := x.2.1.isLt; omega
    have i3 : (x.2.2.val : Int) < B := by have := x.2.2.isLt; omega
    have i4 : (0 : Int) ≤ x.1.val := by omega
    have i5 : (0 : Int) ≤ x.2.1.val := by omega
    have i6 : (0 : Int) ≤ x.2.2.val := by omega
    have hcall2 : ∀ wx, I (codT step wd (s, m) pre).1 (codT step wd (s, m) pre).2 wx → Calls Tryz.prog K (#[.pointer (some ⟨A.tb x.1.val x.2.1.val, A.to x.1.val x.2.1.val + x.2.2.val, none⟩), .int .i64 (k : Int)] ++ caps) wx fun e w' => e = .returned (.tuple #[]) ∧ I (codT step wd (s, m) (pre ++ [x])).1 (codT step wd (s, m) (pre ++ [x])).2 w' ∧ Abv N0 wx w' := by
      intro wx hwx
      rw [hsn]
      exact T.tq _ _ wx x.1.val x.2.1.val x.2.2.val k hwx x.1.isLt x.2.1.isLt x.2.2.isLt k16
    have hdr : I (codT step wd (s, m) pre).1 (codT step wd (s, m) pre).2 W.drew := T.keep _ _ _ _ hI (fun _ _ => rfl) (Nat.le_refl _)
    have hcall3 := hcall2 W.drew hdr
    have HKB : Hid (w2.heap.size + 1 < W.heap.size) := by have := hA.size; show _ < _; omega
    have HN0 : Hid (N0 ≤ W0.heap.size) := by show _ ≤ _; omega
    have HNb : Hid (N0 ≤ w2.heap.size + 1) := by show _ ≤ _; omega
    clear hsee hcall hS2 hA hsn hcall2 hdr hI hk bX T
    gi_wp2
    refine region_round (S := (fun wx => wx.cell? ⟨w.heap.size, 0, none⟩ = some (.func (.func K) #[] caps) ∧ wx.cell? ⟨P, 2, none⟩ = some (.slice (some ⟨A.bc, A.oc, none⟩) N A.cc) ∧ wx.cell? ⟨Bx, 0, none⟩ = some (.int .i64 (x.1.val : Int)) ∧ wx.cell? ⟨Bx, 1, none⟩ = some (.int .i64 (x.2.1.val : Int)) ∧ wx.cell? ⟨Bx, 2, none⟩ = some (.int .i64 (x.2.2.val : Int)) ∧ wx.cell? ⟨A.bc, A.oc + x.1.val, none⟩ = some (.slice (some ⟨A.hb x.1.val, A.ho x.1.val, none⟩) C (A.hc x.1.val)) ∧ wx.cell? ⟨A.hb x.1.val, A.ho x.1.val + x.2.1.val, none⟩ = some (.slice (some ⟨A.tb x.1.val x.2.1.val, A.to x.1.val x.2.1.val, none⟩) B (A.tc x.1.val x.2.1.val)) ∧ wx.cell? ⟨w2.heap.size, 0, none⟩ = some (.slice (some ⟨a, 0, none⟩) C C) ∧ wx.cell? ⟨a, x.2.1.val, none⟩ = some (.slice (some ⟨a + 1 + x.2.1.val, 0, none⟩) B B) ∧ wx.cell? ⟨a + 1 + x.2.1.val, x.2.2.val, none⟩ = some (.int .i64 (k : Int)))) (by kernel_rfl) (by kernel_rfl) ?hQ hS0 (fun hS1 => ?_)
    case hQ => intro a w h; exact h
    clear hS0
    refine wpAnyH_take (i := 0) (oi := ⟨some 12, _, _, _, _, _⟩) (v := ?_) rfl (by kernel_rfl) (by kernel_rfl) (by kernel_rfl) (fun _ _ _ h => h) (Or.inl ⟨by rfl, ?_⟩) hS1 ?_
    rotate_left
    · intro wx hx; obtain ⟨s0, s1, s2, s3, s4, s5, s6, s7, s8, s9⟩ := hx; go_simp; try with_reducible rfl
    simp only [Act.put, List.setIfInBounds_toArray, List.set_cons_zero, List.set_cons_succ]
    refine wpAnyH_take (i := 1) (oi := ⟨some 13, _, _, _, _, _⟩) (v := ?_) rfl (by kernel_rfl) (by kernel_rfl) (by kernel_rfl) (fun _ _ _ h => h) (Or.inl ⟨by rfl, ?_⟩) hS1 ?_
    rotate_left
    · intro wx hx; obtain ⟨s0, s1, s2, s3, s4, s5, s6, s7, s8, s9⟩ := hx; go_simp; try with_reducible rfl
    simp only [Act.put, List.setIfInBounds_toArray, List.set_cons_zero, List.set_cons_succ]
    refine wpAnyH_take (i := 2) (oi := ⟨some 14, _, _, _, _, _⟩) (v := ?_) rfl (by kernel_rfl) (by kernel_rfl) (by kernel_rfl) (fun _ _ _ h => h) (Or.inl ⟨by rfl, ?_⟩) hS1 ?_
    rotate_left
    · intro wx hx; obtain ⟨s0, s1, s2, s3, s4, s5, s6, s7, s8, s9⟩ := hx; go_simp; try with_reducible rfl
    simp only [Act.put, List.setIfInBounds_toArray, List.set_cons_zero, List.set_cons_succ]
    refine wpAnyH_take (i := 3) (oi := ⟨some 15, _, _, _, _, _⟩) (v := ?_) rfl (by kernel_rfl) (by kernel_rfl) (by kernel_rfl) (fun _ _ _ h => h) (Or.inl ⟨by rfl, ?_⟩) hS1 ?_
    rotate_left
    · intro wx hx; obtain ⟨s0, s1, s2, s3, s4, s5, s6, s7, s8, s9⟩ := hx; go_simp; try with_reducible rfl
    simp only [Act.put, List.setIfInBounds_toArray, List.set_cons_zero, List.set_cons_succ]
    refine wpAnyH_take (i := 4) (oi := ⟨some 16, _, _, _, _, _⟩) (v := ?_) rfl (by kernel_rfl) (by kernel_rfl) (by kernel_rfl) (fun _ _ _ h => h) (Or.inl ⟨by rfl, ?_⟩) hS1 ?_
    rotate_left
    · intro wx hx; obtain ⟨s0, s1, s2, s3, s4, s5, s6, s7, s8, s9⟩ := hx; go_simp; try with_reducible rfl
    simp only [Act.put, List.setIfInBounds_toArray, List.set_cons_zero, List.set_cons_succ]
    refine wpAnyH_take (i := 5) (oi := ⟨some 17, _, _, _, _, _⟩) (v := ?_) rfl (by kernel_rfl) (by kernel_rfl) (by kernel_rfl) (fun _ _ _ h => h) (Or.inl ⟨by rfl, ?_⟩) hS1 ?_
    rotate_left
    · intro wx hx; obtain ⟨s0, s1, s2, s3, s4, s5, s6, s7, s8, s9⟩ := hx; go_simp; try with_reducible rfl
    simp only [Act.put, List.setIfInBounds_toArray, List.set_cons_zero, List.set_cons_succ]
    refine wpAnyH_take (i := 6) (oi := ⟨some 18, _, _, _, _, _⟩) (v := ?_) rfl (by kernel_rfl) (by kernel_rfl) (by kernel_rfl) (fun _ _ _ h => h) (Or.inl ⟨by rfl, ?_⟩) hS1 ?_
    rotate_left
    · intro wx hx; obtain ⟨s0, s1, s2, s3, s4, s5, s6, s7, s8, s9⟩ := hx; go_simp; try with_reducible rfl
    simp only [Act.put, List.setIfInBounds_toArray, List.set_cons_zero, List.set_cons_succ]
    refine wpAnyH_take (i := 7) (oi := ⟨some 19, _, _, _, _, _⟩) (v := ?_) rfl (by kernel_rfl) (by kernel_rfl) (by kernel_rfl) (fun _ _ _ h => h) (Or.inl ⟨by rfl, ?_⟩) hS1 ?_
    rotate_left
    · intro wx hx; obtain ⟨s0, s1, s2, s3, s4, s5, s6, s7, s8, s9⟩ := hx; go_simp; try with_reducible rfl
    simp only [Act.put, List.setIfInBounds_toArray, List.set_cons_zero, List.set_cons_succ]
    refine wpAnyH_take (i := 8) (oi := ⟨some 20, _, _, _, _, _⟩) (v := ?_) rfl (by kernel_rfl) (by kernel_rfl) (by kernel_rfl) (fun _ _ _ h => h) (Or.inl ⟨by rfl, ?_⟩) hS1 ?_
    rotate_left
    · intro wx hx; obtain ⟨s0, s1, s2, s3, s4, s5, s6, s7, s8, s9⟩ := hx; go_simp; try with_reducible rfl
    simp only [Act.put, List.setIfInBounds_toArray, List.set_cons_zero, List.set_cons_succ]
    refine wpAnyH_take (i := 9) (oi := ⟨some 21, _, _, _, _, _⟩) (v := ?_) rfl (by kernel_rfl) (by kernel_rfl) (by kernel_rfl) (fun _ _ _ h => h) (Or.inl ⟨by rfl, ?_⟩) hS1 ?_
    rotate_left
    · intro wx hx; obtain ⟨s0, s1, s2, s3, s4, s5, s6, s7, s8, s9⟩ := hx; go_simp; try with_reducible rfl
    simp only [Act.put, List.setIfInBounds_toArray, List.set_cons_zero, List.set_cons_succ]
    refine wpAnyH_take (i := 10) (oi := ⟨some 22, _, _, _, _, _⟩) (v := ?_) rfl (by kernel_rfl) (by kernel_rfl) (by kernel_rfl) (fun _ _ _ h => h) (Or.inl ⟨by rfl, ?_⟩) hS1 ?_
    rotate_left
    · intro wx hx; obtain ⟨s0, s1, s2, s3, s4, s5, s6, s7, s8, s9⟩ := hx; go_simp; try with_reducible rfl
    simp only [Act.put, List.setIfInBounds_toArray, List.set_cons_zero, List.set_cons_succ]
    refine wpAnyH_take (i := 11) (oi := ⟨some 23, _, _, _, _, _⟩) (v := ?_) rfl (by kernel_rfl) (by kernel_rfl) (by kernel_rfl) (fun _ _ _ h => h) (Or.inl ⟨by rfl, ?_⟩) hS1 ?_
    rotate_left
    · intro wx hx; obtain ⟨s0, s1, s2, s3, s4, s5, s6, s7, s8, s9⟩ := hx; go_simp; try with_reducible rfl
    simp only [Act.put, List.setIfInBounds_toArray, List.set_cons_zero, List.set_cons_succ]
    refine wpAnyH_take (i := 12) (oi := ⟨some 24, _, _, _, _, _⟩) (v := ?_) rfl (by kernel_rfl) (by kernel_rfl) (by kernel_rfl) (fun _ _ _ h => h) (Or.inl ⟨by rfl, ?_⟩) hS1 ?_
    rotate_left
    · intro wx hx; obtain ⟨s0, s1, s2, s3, s4, s5, s6, s7, s8, s9⟩ := hx; go_simp; try with_reducible rfl
    simp only [Act.put, List.setIfInBounds_toArray, List.set_cons_zero, List.set_cons_succ]
    refine wpAnyH_take (i := 13) (oi := ⟨some 25, _, _, _, _, _⟩) (v := ?_) rfl (by kernel_rfl) (by kernel_rfl) (by kernel_rfl) (fun _ _ _ h => h) (Or.inl ⟨by rfl, ?_⟩) hS1 ?_
    rotate_left
    · intro wx hx; obtain ⟨s0, s1, s2, s3, s4, s5, s6, s7, s8, s9⟩ := hx; go_simp; try with_reducible rfl
    simp only [Act.put, List.setIfInBounds_toArray, List.set_cons_zero, List.set_cons_succ]
    refine wpAnyH_take (i := 14) (oi := ⟨some 26, _, _, _, _, _⟩) (v := ?_) rfl (by kernel_rfl) (by kernel_rfl) (by kernel_rfl) (fun _ _ _ h => h) (Or.inl ⟨by rfl, ?_⟩) hS1 ?_
    rotate_left
    · intro wx hx; obtain ⟨s0, s1, s2, s3, s4, s5, s6, s7, s8, s9⟩ := hx; go_simp; try with_reducible rfl
    simp only [Act.put, List.setIfInBounds_toArray, List.set_cons_zero, List.set_cons_succ]
    refine wpAnyH_take (i := 15) (oi := ⟨some 27, _, _, _, _, _⟩) (v := ?_) rfl (by kernel_rfl) (by kernel_rfl) (by kernel_rfl) (fun _ _ _ h => h) (Or.inl ⟨by rfl, ?_⟩) hS1 ?_
    rotate_left
    · intro wx hx; obtain ⟨s0, s1, s2, s3, s4, s5, s6, s7, s8, s9⟩ := hx; go_simp; try with_reducible rfl
    simp only [Act.put, List.setIfInBounds_toArray, List.set_cons_zero, List.set_cons_succ]
    refine wpAnyH_take (i := 16) (oi := ⟨some 28, _, _, _, _, _⟩) (v := ?_) rfl (by kernel_rfl) (by kernel_rfl) (by kernel_rfl) (fun _ _ _ h => h) (Or.inl ⟨by rfl, ?_⟩) hS1 ?_
    rotate_left
    · intro wx hx; obtain ⟨s0, s1, s2, s3, s4, s5, s6, s7, s8, s9⟩ := hx; go_simp; try with_reducible rfl
    simp only [Act.put, List.setIfInBounds_toArray, List.set_cons_zero, List.set_cons_succ]
    refine wpAnyH_take (i := 17) (oi := ⟨some 29, _, _, _, _, _⟩) (v := ?_) rfl (by kernel_rfl) (by kernel_rfl) (by kernel_rfl) (fun _ _ _ h => h) (Or.inl ⟨by rfl, ?_⟩) hS1 ?_
    rotate_left
    · intro wx hx; obtain ⟨s0, s1, s2, s3, s4, s5, s6, s7, s8, s9⟩ := hx; go_simp; try with_reducible rfl
    simp only [Act.put, List.setIfInBounds_toArray, List.set_cons_zero, List.set_cons_succ]
    refine wpAnyH_take (i := 18) (oi := ⟨some 30, _, _, _, _, _⟩) (v := ?_) rfl (by kernel_rfl) (by kernel_rfl) (by kernel_rfl) (fun _ _ _ h => h) (Or.inl ⟨by rfl, ?_⟩) hS1 ?_
    rotate_left
    · intro wx hx; obtain ⟨s0, s1, s2, s3, s4, s5, s6, s7, s8, s9⟩ := hx; go_simp; try with_reducible rfl
    simp only [Act.put, List.setIfInBounds_toArray, List.set_cons_zero, List.set_cons_succ]
    refine wpAnyH_take (i := 19) (oi := ⟨some 31, _, _, _, _, _⟩) (v := ?_) rfl (by kernel_rfl) (by kernel_rfl) (by kernel_rfl) (fun _ _ _ h => h) (Or.inl ⟨by rfl, ?_⟩) hS1 ?_
    rotate_left
    · intro wx hx; obtain ⟨s0, s1, s2, s3, s4, s5, s6, s7, s8, s9⟩ := hx; go_simp; try with_reducible rfl
    simp only [Act.put, List.setIfInBounds_toArray, List.set_cons_zero, List.set_cons_succ]
    refine wpAnyH_take (i := 20) (oi := ⟨some 32, _, _, _, _, _⟩) (v := ?_) rfl (by kernel_rfl) (by kernel_rfl) (by kernel_rfl) (fun _ _ _ h => h) (Or.inl ⟨by rfl, ?_⟩) hS1 ?_
    rotate_left
    · intro wx hx; obtain ⟨s0, s1, s2, s3, s4, s5, s6, s7, s8, s9⟩ := hx; go_simp; try with_reducible rfl
    simp only [Act.put, List.setIfInBounds_toArray, List.set_cons_zero, List.set_cons_succ]
    refine wpAnyH_take (i := 21) (oi := ⟨some 33, _, _, _, _, _⟩) (v := ?_) rfl (by kernel_rfl) (by kernel_rfl) (by kernel_rfl) (fun _ _ _ h => h) (Or.inl ⟨by rfl, ?_⟩) hS1 ?_
    rotate_left
    · intro wx hx; obtain ⟨s0, s1, s2, s3, s4, s5, s6, s7, s8, s9⟩ := hx; go_simp; try with_reducible rfl
    simp only [Act.put, List.setIfInBounds_toArray, List.set_cons_zero, List.set_cons_succ]
    refine wpAnyH_take (i := 22) (oi := ⟨some 34, _, _, _, _, _⟩) (v := ?_) rfl (by kernel_rfl) (by kernel_rfl) (by kernel_rfl) (fun _ _ _ h => h) (Or.inl ⟨by rfl, ?_⟩) hS1 ?_
    rotate_left
    · intro wx hx; obtain ⟨s0, s1, s2, s3, s4, s5, s6, s7, s8, s9⟩ := hx; go_simp; try with_reducible rfl
    simp only [Act.put, List.setIfInBounds_toArray, List.set_cons_zero, List.set_cons_succ]
    refine wpAnyH_ready (rs := [23]) (by kernel_rfl) (by simp) ?_
    refine AllReadyH.cons (o := ⟨some 35, _, _, _, _, _⟩) rfl (fun K' hK' => ?_) AllReadyH.nil
    go_simp
    refine hcall3.mono ?_
    clear hcall3
    rintro e w3 ⟨rfl, h1, h2⟩
    have h2' := h2.of_drew
    refine hK'.out _ _ (HS2.out w3 h2' (.inr ⟨_, HSe.out _ _ _ h1⟩)) (fun _ => ?_)
    clear hK' K'
    try simp only [Act.put, List.setIfInBounds_toArray, List.set_cons_zero, List.set_cons_succ]
    refine wpAnyH_done (by kernel_rfl) ?_ _
    exact ⟨abv_keeps h2' HN0.out, abv_kb h2' HNb.out HKB.out, h1, HAW.out.trans h2'⟩
  case done =>
    rintro D zs W hD rfl ⟨hI, hA⟩ hK
    go_wp2
    have hDl : D < W.heap.size := (Array.getElem?_eq_some_iff.1 hK).1
    refine ⟨by simp, .inl ⟨_, _, rfl, run_takeDeferred hK, ?_⟩⟩
    refine ⟨_, results_none rfl _ _ _, rfl, T.keep _ _ _ _ hI (fun k hk => World.putObj_heap_other (by omega)) (by simp), ?_⟩
    have hw := (Abv.of_below (N0 := N0) b00).trans hA
    have hs0 := b00.size
    exact ⟨hw.os, hw.tape, hw.output, by simpa using hw.size, fun k h0 h1 => (World.putObj_heap_other (by omega)).trans (hw.block k h0 h1)⟩
  case stop =>
    rintro D c pre W _ _ h _
    exact h.elim
end

end Sub
end Go.Proofs.YtcaifpjbjghhaaaGreatDoor

/-
  All of a frame's fields: contracts of fields and takeAll over any taker. Conditions: as told at each.
-/
namespace Go.Proofs.YtcaifpjbjghhaaaGreatDoor
set_option linter.unusedVariables false
open Go.RowKit Go.Shelf
namespace Sub
open Bank (Blk But)
open Poly (Reads cell_keep alloc_size enc enc_get)
open _root_.Go.Proofs.YtcaifpjbjghhaaaGreatDoor.Form (fv fc bel1 Says box_cells box_behind blk_below of_drew)

theorem wrap_id (n : Int) (h0 : -9223372036854775808 ≤ n) (h1 : n ≤ 9223372036854775807) : IntKind.i64.wrap n = n := by rw [IntKind.wrap_i64]; omega
theorem kn_drew {z k : Int} {w w' : World} (h : Kn z k w.drew w') : Kn z k w w' := ⟨⟨h.bel.os, h.bel.tape, h.bel.output, h.bel.size, h.bel.block⟩, h.size, h.num, h.wid⟩

def hz (f : M.Fmt) : Nat → Int
  | 0 => 156
  | 1 => f.r
  | 2 => f.k / 4 - 1
  | 3 => 2 * (f.h - 1) + f.j
  | 4 => f.m
  | 5 => f.b / 8
  | 6 => f.p
  | _ => 0
def hk : Nat → Nat
  | 0 => 8
  | 1 => 2
  | 2 => 2
  | 3 => 2
  | 4 => 1
  | 5 => 1
  | 6 => 8
  | _ => 8
def kf (g : Nat) : Value := .func (.func 209) #[] #[.pointer (some ⟨g, 0, none⟩), .pointer (some ⟨g + 1, 0, none⟩)]
def fl (F : Nat) : Array Value := #[kf (F + 2), kf (F + 4), kf (F + 6), kf (F + 8), kf (F + 10), kf (F + 12), kf (F + 14), kf (F + 16), .func (.func 176) #[] #[.pointer (some ⟨F, 0, none⟩), .pointer (some ⟨F + 1, 0, none⟩)],
  .func (.func 178) #[] #[.pointer (some ⟨F + 1, 0, none⟩)], .func (.func 179) #[] #[.pointer (some ⟨F, 0, none⟩), .pointer (some ⟨F + 1, 0, none⟩)]]
structure Fds (f : M.Fmt) (vj vs vc : Value) (w w' : World) : Prop where
  bel : Below w.heap.size w w'
  size : w'.heap.size = w.heap.size + 19
  fb : Blk w' w.heap.size (fc f) 23
  pb : Blk w' (w.heap.size + 1) #[vj, vs, vc] 33
  num : ∀ i, i < 8 → Blk w' (w.heap.size + 2 + 2 * i) #[.int .i64 (hz f i)] 3
  wid : ∀ i, i < 8 → Blk w' (w.heap.size + 2 + 2 * i + 1) #[.int .i64 (hk i : Int)] 3
  list : Blk w' (w.heap.size + 18) (fl w.heap.size) 221

set_option maxRecDepth 100000 in
set_option maxHeartbeats 2000000 in
theorem fields_any (f : M.Fmt) (C B N : Nat) (vj vs vc : Value) (w : World) (hC : f.h = C) (hB : f.b = B) (hN : f.k = N) (C2 : C = 1 ∨ C = 2) (B8 : B = 4 ∨ B = 8) (N16 : N = 4 ∨ N = 8 ∨ N = 12 ∨ N = 16) (hj : 0 ≤ f.j ∧ f.j ≤ 1) :
    Calls Tryz.prog 131 #[fv f, pa vj vs vc] w fun e w' => e = .returned (.slice (some ⟨w.heap.size + 18, 0, none⟩) 11 11) ∧ Fds f vj vs vc w w' := by
  obtain ⟨W1, hW1⟩ : ∃ W1, (w.alloc (.cells (fc f) 23)).alloc (.cells #[vj, vs, vc] 33) = W1 := ⟨_, rfl⟩
  have hb0 : Below w.heap.size w W1 := by rw [← hW1]; exact (bel1 _ _).alloc (bel1 _ _).size _
  have hf1 : Blk W1 w.heap.size (fc f) 23 := by rw [← hW1]; exact (Blk.new w _ _).alloc _
  have hs1 : W1.heap.size = w.heap.size + 2 := by rw [← hW1]; simp
  have hp1 : Blk W1 (w.heap.size + 1) #[vj, vs, vc] 33 := by
    rw [← hW1]
    have := Blk.new (w.alloc (.cells (fc f) 23)) #[vj, vs, vc] 33
    rw [alloc_size] at this
    exact this
  obtain ⟨c_, r_, h_, b_, k_, m_, j_, p_, l_, y_⟩ := f
  obtain rfl : h_ = C := hC
  obtain rfl : b_ = B := hB
  obtain rfl : k_ = N := hN
  have hce : ∀ wx, Below W1.heap.size W1 wx → wx.cell? ⟨w.heap.size, 1, none⟩ = some (.int .i64 r_) ∧ wx.cell? ⟨w.heap.size, 2, none⟩ = some (.int .i64 (C : Int)) ∧ wx.cell? ⟨w.heap.size, 3, none⟩ = some (.int .i64 (B : Int)) ∧ wx.cell? ⟨w.heap.size, 4, none⟩ = some (.int .i64 (N : Int)) ∧ wx.cell? ⟨w.heap.size, 5, none⟩ = some (.int .i64 m_) ∧ wx.cell? ⟨w.heap.size, 6, none⟩ = some (.int .i64 j_) ∧ wx.cell? ⟨w.heap.size, 7, none⟩ = some (.int .i64 p_) := fun wx hb => by
    have h := blk_below hb hf1 hf1.lt
    exact ⟨h.cell rfl, h.cell rfl, h.cell rfl, h.cell rfl, h.cell rfl, h.cell rfl, h.cell rfl⟩
  have HCe : Hid _ := hce
  have HBa : Hid (∀ wa wb : World, Below W1.heap.size W1 wa → Below wa.heap.size wa wb → Below W1.heap.size W1 wb) := fun wa wb h k => h.trans (k.mono h.size)
  have HB0 : Hid (Below W1.heap.size W1 W1.drew) := ⟨rfl, rfl, rfl, Nat.le_refl _, fun _ _ => rfl⟩
  have HCd : Hid _ := hce W1.drew HB0.out
  clear hce
  unfold fv pa
  unfold fc at hW1
  dsimp only at hW1 ⊢
  have n0 : (0 : Int) ≤ N := by omega
  have b0 : (0 : Int) ≤ B := by omega
  have n1 : (N : Int) ≤ 16 := by omega
  have b1 : (B : Int) ≤ 8 := by omega
  have c0 : (1 : Int) ≤ C := by omega
  have c1 : (C : Int) ≤ 2 := by omega
  go_enter Tryz.func131, Tryz.ntmps131
  go_wp2
  try rw [hW1]
  clear hW1
  refine wp_region_held_drew (S := fun wx => wx.cell? ⟨w.heap.size, 1, none⟩ = some (.int .i64 r_) ∧ wx.cell? ⟨w.heap.size, 2, none⟩ = some (.int .i64 (C : Int)) ∧ wx.cell? ⟨w.heap.size, 3, none⟩ = some (.int .i64 (B : Int)) ∧ wx.cell? ⟨w.heap.size, 4, none⟩ = some (.int .i64 (N : Int)) ∧ wx.cell? ⟨w.heap.size, 5, none⟩ = some (.int .i64 m_) ∧ wx.cell? ⟨w.heap.size, 6, none⟩ = some (.int .i64 j_) ∧ wx.cell? ⟨w.heap.size, 7, none⟩ = some (.int .i64 p_)) (by kernel_rfl) HCd.out (fun _ => ?_)
  refine wpAnyH_take (i := 28) (oi := ⟨some 33, _, _, _, _, _⟩) (v := ?_) rfl (by kernel_rfl) (by kernel_rfl) (by kernel_rfl) (fun _ _ _ h => h) (Or.inl ⟨by rfl, ?_⟩) HCd.out ?_
  rotate_left
  · intro wx hx; obtain ⟨s1, s2, s3, s4, s5, s6, s7⟩ := hx; go_simp; try with_reducible rfl
  simp only [Act.put, List.setIfInBounds_toArray, List.set_cons_zero, List.set_cons_succ]
  refine wpAnyH_take (i := 29) (oi := ⟨some 34, _, _, _, _, _⟩) (v := ?_) rfl (by kernel_rfl) (by kernel_rfl) (by kernel_rfl) (fun _ _ _ h => h) (Or.inl ⟨by rfl, ?_⟩) HCd.out ?_
  rotate_left
  · intro wx hx; obtain ⟨s1, s2, s3, s4, s5, s6, s7⟩ := hx; go_simp; try with_reducible rfl
  simp only [Act.put, List.setIfInBounds_toArray, List.set_cons_zero, List.set_cons_succ]
  refine wpAnyH_take (i := 30) (oi := ⟨some 35, _, _, _, _, _⟩) (v := ?_) rfl (by kernel_rfl) (by kernel_rfl) (by kernel_rfl) (fun _ _ _ h => h) (Or.inl ⟨by rfl, ?_⟩) HCd.out ?_
  rotate_left
  · intro wx hx; obtain ⟨s1, s2, s3, s4, s5, s6, s7⟩ := hx; go_simp; try with_reducible rfl
  simp only [Act.put, List.setIfInBounds_toArray, List.set_cons_zero, List.set_cons_succ]
  refine wpAnyH_take (i := 1) (oi := ⟨some 6, _, _, _, _, _⟩) (v := ?_) rfl (by kernel_rfl) (by kernel_rfl) (by kernel_rfl) (fun _ _ _ h => h) (Or.inl ⟨by rfl, ?_⟩) HCd.out ?_
  rotate_left
  · intro wx hx; obtain ⟨s1, s2, s3, s4, s5, s6, s7⟩ := hx; go_simp; try with_reducible rfl
  simp only [Act.put, List.setIfInBounds_toArray, List.set_cons_zero, List.set_cons_succ]
  refine wpAnyH_take (i := 2) (oi := ⟨some 7, _, _, _, _, _⟩) (v := ?_) rfl (by kernel_rfl) (by kernel_rfl) (by kernel_rfl) (fun _ _ _ h => h) (Or.inl ⟨by rfl, ?_⟩) HCd.out ?_
  rotate_left
  · intro wx hx; obtain ⟨s1, s2, s3, s4, s5, s6, s7⟩ := hx; go_simp; try with_reducible rfl
  simp only [Act.put, List.setIfInBounds_toArray, List.set_cons_zero, List.set_cons_succ]
  refine wpAnyH_take (i := 4) (oi := ⟨some 9, _, _, _, _, _⟩) (v := ?_) rfl (by kernel_rfl) (by kernel_rfl) (by kernel_rfl) (fun _ _ _ h => h) (Or.inl ⟨by rfl, ?_⟩) HCd.out ?_
  rotate_left
  · intro wx hx; obtain ⟨s1, s2, s3, s4, s5, s6, s7⟩ := hx; go_simp; try with_reducible rfl
  simp only [Act.put, List.setIfInBounds_toArray, List.set_cons_zero, List.set_cons_succ]
  refine wpAnyH_take (i := 5) (oi := ⟨some 10, _, _, _, _, _⟩) (v := ?_) rfl (by kernel_rfl) (by kernel_rfl) (by kernel_rfl) (fun _ _ _ h => h) (Or.inl ⟨by rfl, ?_⟩) HCd.out ?_
  rotate_left
  · intro wx hx; obtain ⟨s1, s2, s3, s4, s5, s6, s7⟩ := hx; go_simp; try with_reducible rfl
  simp only [Act.put, List.setIfInBounds_toArray, List.set_cons_zero, List.set_cons_succ]
  refine wpAnyH_take (i := 6) (oi := ⟨some 11, _, _, _, _, _⟩) (v := ?_) rfl (by kernel_rfl) (by kernel_rfl) (by kernel_rfl) (fun _ _ _ h => h) (Or.inl ⟨by rfl, ?_⟩) HCd.out ?_
  rotate_left
  · intro wx hx; obtain ⟨s1, s2, s3, s4, s5, s6, s7⟩ := hx; go_simp; try with_reducible rfl
  simp only [Act.put, List.setIfInBounds_toArray, List.set_cons_zero, List.set_cons_succ]
  refine wpAnyH_take (i := 7) (oi := ⟨some 12, _, _, _, _, _⟩) (v := ?_) rfl (by kernel_rfl) (by kernel_rfl) (by kernel_rfl) (fun _ _ _ h => h) (Or.inl ⟨by rfl, ?_⟩) HCd.out ?_
  rotate_left
  · intro wx hx; obtain ⟨s1, s2, s3, s4, s5, s6, s7⟩ := hx; go_simp; try with_reducible rfl
  simp only [Act.put, List.setIfInBounds_toArray, List.set_cons_zero, List.set_cons_succ]
  refine wpAnyH_take (i := 9) (oi := ⟨some 14, _, _, _, _, _⟩) (v := ?_) rfl (by kernel_rfl) (by kernel_rfl) (by kernel_rfl) (fun _ _ _ h => h) (Or.inl ⟨by rfl, ?_⟩) HCd.out ?_
  rotate_left
  · intro wx hx; obtain ⟨s1, s2, s3, s4, s5, s6, s7⟩ := hx; go_simp; try with_reducible rfl
  simp only [Act.put, List.setIfInBounds_toArray, List.set_cons_zero, List.set_cons_succ]
  refine wpAnyH_take (i := 10) (oi := ⟨some 15, _, _, _, _, _⟩) (v := ?_) rfl (by kernel_rfl) (by kernel_rfl) (by kernel_rfl) (fun _ _ _ h => h) (Or.inl ⟨by rfl, ?_⟩) HCd.out ?_
  rotate_left
  · intro wx hx; obtain ⟨s1, s2, s3, s4, s5, s6, s7⟩ := hx; go_simp; try with_reducible rfl
  simp only [Act.put, List.setIfInBounds_toArray, List.set_cons_zero, List.set_cons_succ]
  refine wpAnyH_take (i := 11) (oi := ⟨some 16, _, _, _, _, _⟩) (v := ?_) rfl (by kernel_rfl) (by kernel_rfl) (by kernel_rfl) (fun _ _ _ h => h) (Or.inl ⟨by rfl, ?_⟩) HCd.out ?_
  rotate_left
  · intro wx hx; obtain ⟨s1, s2, s3, s4, s5, s6, s7⟩ := hx; go_simp; try with_reducible rfl
  simp only [Act.put, List.setIfInBounds_toArray, List.set_cons_zero, List.set_cons_succ]
  refine wpAnyH_take (i := 12) (oi := ⟨some 17, _, _, _, _, _⟩) (v := ?_) rfl (by kernel_rfl) (by kernel_rfl) (by kernel_rfl) (fun _ _ _ h => h) (Or.inl ⟨by rfl, ?_⟩) HCd.out ?_
  rotate_left
  · intro wx hx; obtain ⟨s1, s2, s3, s4, s5, s6, s7⟩ := hx; go_simp; try with_reducible rfl
  simp only [Act.put, List.setIfInBounds_toArray, List.set_cons_zero, List.set_cons_succ]
  refine wpAnyH_take (i := 13) (oi := ⟨some 18, _, _, _, _, _⟩) (v := ?_) rfl (by kernel_rfl) (by kernel_rfl) (by kernel_rfl) (fun _ _ _ h => h) (Or.inl ⟨by rfl, ?_⟩) HCd.out ?_
  rotate_left
  · intro wx hx; obtain ⟨s1, s2, s3, s4, s5, s6, s7⟩ := hx; go_simp; try with_reducible rfl
  simp only [Act.put, List.setIfInBounds_toArray, List.set_cons_zero, List.set_cons_succ]
  refine wpAnyH_take (i := 14) (oi := ⟨some 19, _, _, _, _, _⟩) (v := ?_) rfl (by kernel_rfl) (by kernel_rfl) (by kernel_rfl) (fun _ _ _ h => h) (Or.inl ⟨by rfl, ?_⟩) HCd.out ?_
  rotate_left
  · intro wx hx; obtain ⟨s1, s2, s3, s4, s5, s6, s7⟩ := hx; go_simp; try with_reducible rfl
  simp only [Act.put, List.setIfInBounds_toArray, List.set_cons_zero, List.set_cons_succ]
  refine wpAnyH_take (i := 15) (oi := ⟨some 20, _, _, _, _, _⟩) (v := ?_) rfl (by kernel_rfl) (by kernel_rfl) (by kernel_rfl) (fun _ _ _ h => h) (Or.inl ⟨by rfl, ?_⟩) HCd.out ?_
  rotate_left
  · intro wx hx; obtain ⟨s1, s2, s3, s4, s5, s6, s7⟩ := hx; go_simp; try with_reducible rfl
  simp only [Act.put, List.setIfInBounds_toArray, List.set_cons_zero, List.set_cons_succ]
  refine wpAnyH_take (i := 17) (oi := ⟨some 22, _, _, _, _, _⟩) (v := ?_) rfl (by kernel_rfl) (by kernel_rfl) (by kernel_rfl) (fun _ _ _ h => h) (Or.inl ⟨by rfl, ?_⟩) HCd.out ?_
  rotate_left
  · intro wx hx; obtain ⟨s1, s2, s3, s4, s5, s6, s7⟩ := hx; go_simp; try with_reducible rfl
  simp only [Act.put, List.setIfInBounds_toArray, List.set_cons_zero, List.set_cons_succ]
  refine wpAnyH_take (i := 18) (oi := ⟨some 23, _, _, _, _, _⟩) (v := ?_) rfl (by kernel_rfl) (by kernel_rfl) (by kernel_rfl) (fun _ _ _ h => h) (Or.inl ⟨by rfl, ?_⟩) HCd.out ?_
  rotate_left
  · intro wx hx; obtain ⟨s1, s2, s3, s4, s5, s6, s7⟩ := hx; go_simp; try with_reducible rfl
  simp only [Act.put, List.setIfInBounds_toArray, List.set_cons_zero, List.set_cons_succ]
  refine wpAnyH_take (i := 20) (oi := ⟨some 25, _, _, _, _, _⟩) (v := ?_) rfl (by kernel_rfl) (by kernel_rfl) (by kernel_rfl) (fun _ _ _ h => h) (Or.inl ⟨by rfl, ?_⟩) HCd.out ?_
  rotate_left
  · intro wx hx; obtain ⟨s1, s2, s3, s4, s5, s6, s7⟩ := hx; go_simp; try with_reducible rfl
  simp only [Act.put, List.setIfInBounds_toArray, List.set_cons_zero, List.set_cons_succ]
  refine wpAnyH_take (i := 21) (oi := ⟨some 26, _, _, _, _, _⟩) (v := ?_) rfl (by kernel_rfl) (by kernel_rfl) (by kernel_rfl) (fun _ _ _ h => h) (Or.inl ⟨by rfl, ?_⟩) HCd.out ?_
  rotate_left
  · intro wx hx; obtain ⟨s1, s2, s3, s4, s5, s6, s7⟩ := hx; go_simp; try with_reducible rfl
  simp only [Act.put, List.setIfInBounds_toArray, List.set_cons_zero, List.set_cons_succ]
  refine wpAnyH_take (i := 22) (oi := ⟨some 27, _, _, _, _, _⟩) (v := ?_) rfl (by kernel_rfl) (by kernel_rfl) (by kernel_rfl) (fun _ _ _ h => h) (Or.inl ⟨by rfl, ?_⟩) HCd.out ?_
  rotate_left
  · intro wx hx; obtain ⟨s1, s2, s3, s4, s5, s6, s7⟩ := hx; go_simp; try with_reducible rfl
  simp only [Act.put, List.setIfInBounds_toArray, List.set_cons_zero, List.set_cons_succ]
  refine wpAnyH_take (i := 24) (oi := ⟨some 29, _, _, _, _, _⟩) (v := ?_) rfl (by kernel_rfl) (by kernel_rfl) (by kernel_rfl) (fun _ _ _ h => h) (Or.inl ⟨by rfl, ?_⟩) HCd.out ?_
  rotate_left
  · intro wx hx; obtain ⟨s1, s2, s3, s4, s5, s6, s7⟩ := hx; go_simp; try with_reducible rfl
  simp only [Act.put, List.setIfInBounds_toArray, List.set_cons_zero, List.set_cons_succ]
  refine wpAnyH_take (i := 25) (oi := ⟨some 30, _, _, _, _, _⟩) (v := ?_) rfl (by kernel_rfl) (by kernel_rfl) (by kernel_rfl) (fun _ _ _ h => h) (Or.inl ⟨by rfl, ?_⟩) HCd.out ?_
  rotate_left
  · intro wx hx; obtain ⟨s1, s2, s3, s4, s5, s6, s7⟩ := hx; go_simp; try with_reducible rfl
  simp only [Act.put, List.setIfInBounds_toArray, List.set_cons_zero, List.set_cons_succ]
  refine wpAnyH_ready (rs := [0]) (by kernel_rfl) (by simp) ?_
  refine AllReadyH.cons (o := ⟨some 5, _, _, _, _, _⟩) rfl (fun K' hK' => ?_) AllReadyH.nil
  go_simp
  refine (known_any _ _ _).mono ?_
  rintro e w2 ⟨rfl, kn⟩
  have K0 : Hid (Kn _ _ W1 w2) := kn_drew kn
  clear kn
  have B1 : Hid (Below W1.heap.size W1 w2) := HBa.out W1 w2 (Below.refl _ _) K0.out.bel
  have C1 : Hid (w2.cell? ⟨w.heap.size, 1, none⟩ = some (.int .i64 r_) ∧ w2.cell? ⟨w.heap.size, 2, none⟩ = some (.int .i64 (C : Int)) ∧ w2.cell? ⟨w.heap.size, 3, none⟩ = some (.int .i64 (B : Int)) ∧ w2.cell? ⟨w.heap.size, 4, none⟩ = some (.int .i64 (N : Int)) ∧ w2.cell? ⟨w.heap.size, 5, none⟩ = some (.int .i64 m_) ∧ w2.cell? ⟨w.heap.size, 6, none⟩ = some (.int .i64 j_) ∧ w2.cell? ⟨w.heap.size, 7, none⟩ = some (.int .i64 p_)) := HCe.out w2 B1.out
  refine hK'.out _ _ C1.out (fun _ => ?_)
  clear hK' K'
  try simp only [Act.put, List.setIfInBounds_toArray, List.set_cons_zero, List.set_cons_succ]
  refine wpAnyH_ready (rs := [3]) (by kernel_rfl) (by simp) ?_
  refine AllReadyH.cons (o := ⟨some 8, _, _, _, _, _⟩) rfl (fun K' hK' => ?_) AllReadyH.nil
  go_simp
  refine (known_any _ _ _).mono ?_
  rintro e w3 ⟨rfl, kn⟩
  have K1 : Hid (Kn _ _ w2 w3) := kn
  clear kn
  have B2 : Hid (Below W1.heap.size W1 w3) := HBa.out w2 w3 B1.out K1.out.bel
  have C2 : Hid (w3.cell? ⟨w.heap.size, 1, none⟩ = some (.int .i64 r_) ∧ w3.cell? ⟨w.heap.size, 2, none⟩ = some (.int .i64 (C : Int)) ∧ w3.cell? ⟨w.heap.size, 3, none⟩ = some (.int .i64 (B : Int)) ∧ w3.cell? ⟨w.heap.size, 4, none⟩ = some (.int .i64 (N : Int)) ∧ w3.cell? ⟨w.heap.size, 5, none⟩ = some (.int .i64 m_) ∧ w3.cell? ⟨w.heap.size, 6, none⟩ = some (.int .i64 j_) ∧ w3.cell? ⟨w.heap.size, 7, none⟩ = some (.int .i64 p_)) := HCe.out w3 B2.out
  refine hK'.out _ _ C2.out (fun _ => ?_)
  clear hK' K'
  try simp only [Act.put, List.setIfInBounds_toArray, List.set_cons_zero, List.set_cons_succ]
  refine wpAnyH_ready (rs := [8]) (by kernel_rfl) (by simp) ?_
  refine AllReadyH.cons (o := ⟨some 13, _, _, _, _, _⟩) rfl (fun K' hK' => ?_) AllReadyH.nil
  go_simp
  refine (known_any _ _ _).mono ?_
  rintro e w4 ⟨rfl, kn⟩
  have K2 : Hid (Kn _ _ w3 w4) := kn
  clear kn
  have B3 : Hid (Below W1.heap.size W1 w4) := HBa.out w3 w4 B2.out K2.out.bel
  have C3 : Hid (w4.cell? ⟨w.heap.size, 1, none⟩ = some (.int .i64 r_) ∧ w4.cell? ⟨w.heap.size, 2, none⟩ = some (.int .i64 (C : Int)) ∧ w4.cell? ⟨w.heap.size, 3, none⟩ = some (.int .i64 (B : Int)) ∧ w4.cell? ⟨w.heap.size, 4, none⟩ = some (.int .i64 (N : Int)) ∧ w4.cell? ⟨w.heap.size, 5, none⟩ = some (.int .i64 m_) ∧ w4.cell? ⟨w.heap.size, 6, none⟩ = some (.int .i64 j_) ∧ w4.cell? ⟨w.heap.size, 7, none⟩ = some (.int .i64 p_)) := HCe.out w4 B3.out
  refine hK'.out _ _ C3.out (fun _ => ?_)
  clear hK' K'
  try simp only [Act.put, List.setIfInBounds_toArray, List.set_cons_zero, List.set_cons_succ]
  refine wpAnyH_ready (rs := [16]) (by kernel_rfl) (by simp) ?_
  refine AllReadyH.cons (o := ⟨some 21, _, _, _, _, _⟩) rfl (fun K' hK' => ?_) AllReadyH.nil
  go_simp
  refine (known_any _ _ _).mono ?_
  rintro e w5 ⟨rfl, kn⟩
  have K3 : Hid (Kn _ _ w4 w5) := kn
  clear kn
  have B4 : Hid (Below W1.heap.size W1 w5) := HBa.out w4 w5 B3.out K3.out.bel
  have C4 : Hid (w5.cell? ⟨w.heap.size, 1, none⟩ = some (.int .i64 r_) ∧ w5.cell? ⟨w.heap.size, 2, none⟩ = some (.int .i64 (C : Int)) ∧ w5.cell? ⟨w.heap.size, 3, none⟩ = some (.int .i64 (B : Int)) ∧ w5.cell? ⟨w.heap.size, 4, none⟩ = some (.int .i64 (N : Int)) ∧ w5.cell? ⟨w.heap.size, 5, none⟩ = some (.int .i64 m_) ∧ w5.cell? ⟨w.heap.size, 6, none⟩ = some (.int .i64 j_) ∧ w5.cell? ⟨w.heap.size, 7, none⟩ = some (.int .i64 p_)) := HCe.out w5 B4.out
  refine hK'.out _ _ C4.out (fun _ => ?_)
  clear hK' K'
  try simp only [Act.put, List.setIfInBounds_toArray, List.set_cons_zero, List.set_cons_succ]
  refine wpAnyH_ready (rs := [19]) (by kernel_rfl) (by simp) ?_
  refine AllReadyH.cons (o := ⟨some 24, _, _, _, _, _⟩) rfl (fun K' hK' => ?_) AllReadyH.nil
  go_simp
  refine (known_any _ _ _).mono ?_
  rintro e w6 ⟨rfl, kn⟩
  have K4 : Hid (Kn _ _ w5 w6) := kn
  clear kn
  have B5 : Hid (Below W1.heap.size W1 w6) := HBa.out w5 w6 B4.out K4.out.bel
  have C5 : Hid (w6.cell? ⟨w.heap.size, 1, none⟩ = some (.int .i64 r_) ∧ w6.cell? ⟨w.heap.size, 2, none⟩ = some (.int .i64 (C : Int)) ∧ w6.cell? ⟨w.heap.size, 3, none⟩ = some (.int .i64 (B : Int)) ∧ w6.cell? ⟨w.heap.size, 4, none⟩ = some (.int .i64 (N : Int)) ∧ w6.cell? ⟨w.heap.size, 5, none⟩ = some (.int .i64 m_) ∧ w6.cell? ⟨w.heap.size, 6, none⟩ = some (.int .i64 j_) ∧ w6.cell? ⟨w.heap.size, 7, none⟩ = some (.int .i64 p_)) := HCe.out w6 B5.out
  refine hK'.out _ _ C5.out (fun _ => ?_)
  clear hK' K'
  try simp only [Act.put, List.setIfInBounds_toArray, List.set_cons_zero, List.set_cons_succ]
  refine wpAnyH_ready (rs := [23]) (by kernel_rfl) (by simp) ?_
  refine AllReadyH.cons (o := ⟨some 28, _, _, _, _, _⟩) rfl (fun K' hK' => ?_) AllReadyH.nil
  go_simp
  refine (known_any _ _ _).mono ?_
  rintro e w7 ⟨rfl, kn⟩
  have K5 : Hid (Kn _ _ w6 w7) := kn
  clear kn
  have B6 : Hid (Below W1.heap.size W1 w7) := HBa.out w6 w7 B5.out K5.out.bel
  have C6 : Hid (w7.cell? ⟨w.heap.size, 1, none⟩ = some (.int .i64 r_) ∧ w7.cell? ⟨w.heap.size, 2, none⟩ = some (.int .i64 (C : Int)) ∧ w7.cell? ⟨w.heap.size, 3, none⟩ = some (.int .i64 (B : Int)) ∧ w7.cell? ⟨w.heap.size, 4, none⟩ = some (.int .i64 (N : Int)) ∧ w7.cell? ⟨w.heap.size, 5, none⟩ = some (.int .i64 m_) ∧ w7.cell? ⟨w.heap.size, 6, none⟩ = some (.int .i64 j_) ∧ w7.cell? ⟨w.heap.size, 7, none⟩ = some (.int .i64 p_)) := HCe.out w7 B6.out
  refine hK'.out _ _ C6.out (fun _ => ?_)
  clear hK' K'
  try simp only [Act.put, List.setIfInBounds_toArray, List.set_cons_zero, List.set_cons_succ]
  refine wpAnyH_ready (rs := [26]) (by kernel_rfl) (by simp) ?_
  refine AllReadyH.cons (o := ⟨some 31, _, _, _, _, _⟩) rfl (fun K' hK' => ?_) AllReadyH.nil
  go_simp
  refine (known_any _ _ _).mono ?_
  rintro e w8 ⟨rfl, kn⟩
  have K6 : Hid (Kn _ _ w7 w8) := kn
  clear kn
  have B7 : Hid (Below W1.heap.size W1 w8) := HBa.out w7 w8 B6.out K6.out.bel
  have C7 : Hid (w8.cell? ⟨w.heap.size, 1, none⟩ = some (.int .i64 r_) ∧ w8.cell? ⟨w.heap.size, 2, none⟩ = some (.int .i64 (C : Int)) ∧ w8.cell? ⟨w.heap.size, 3, none⟩ = some (.int .i64 (B : Int)) ∧ w8.cell? ⟨w.heap.size, 4, none⟩ = some (.int .i64 (N : Int)) ∧ w8.cell? ⟨w.heap.size, 5, none⟩ = some (.int .i64 m_) ∧ w8.cell? ⟨w.heap.size, 6, none⟩ = some (.int .i64 j_) ∧ w8.cell? ⟨w.heap.size, 7, none⟩ = some (.int .i64 p_)) := HCe.out w8 B7.out
  refine hK'.out _ _ C7.out (fun _ => ?_)
  clear hK' K'
  try simp only [Act.put, List.setIfInBounds_toArray, List.set_cons_zero, List.set_cons_succ]
  refine wpAnyH_ready (rs := [27]) (by kernel_rfl) (by simp) ?_
  refine AllReadyH.cons (o := ⟨some 32, _, _, _, _, _⟩) rfl (fun K' hK' => ?_) AllReadyH.nil
  go_simp
  refine (known_any _ _ _).mono ?_
  rintro e w9 ⟨rfl, kn⟩
  have K7 : Hid (Kn _ _ w8 w9) := kn
  clear kn
  have B8 : Hid (Below W1.heap.size W1 w9) := HBa.out w8 w9 B7.out K7.out.bel
  have C8 : Hid (w9.cell? ⟨w.heap.size, 1, none⟩ = some (.int .i64 r_) ∧ w9.cell? ⟨w.heap.size, 2, none⟩ = some (.int .i64 (C : Int)) ∧ w9.cell? ⟨w.heap.size, 3, none⟩ = some (.int .i64 (B : Int)) ∧ w9.cell? ⟨w.heap.size, 4, none⟩ = some (.int .i64 (N : Int)) ∧ w9.cell? ⟨w.heap.size, 5, none⟩ = some (.int .i64 m_) ∧ w9.cell? ⟨w.heap.size, 6, none⟩ = some (.int .i64 j_) ∧ w9.cell? ⟨w.heap.size, 7, none⟩ = some (.int .i64 p_)) := HCe.out w9 B8.out
  refine hK'.out _ _ C8.out (fun _ => ?_)
  clear hK' K'
  try simp only [Act.put, List.setIfInBounds_toArray, List.set_cons_zero, List.set_cons_succ]
  refine wpAnyH_ready (rs := [31]) (by kernel_rfl) (by simp) ?_
  refine AllReadyH.cons (o := ⟨some 36, _, _, _, _, _⟩) rfl (fun K' hK' => ?_) AllReadyH.nil
  go_simp
  have C9 : Hid (∀ o, (w9.alloc o).cell? ⟨w.heap.size, 1, none⟩ = some (.int .i64 r_) ∧ (w9.alloc o).cell? ⟨w.heap.size, 2, none⟩ = some (.int .i64 (C : Int)) ∧ (w9.alloc o).cell? ⟨w.heap.size, 3, none⟩ = some (.int .i64 (B : Int)) ∧ (w9.alloc o).cell? ⟨w.heap.size, 4, none⟩ = some (.int .i64 (N : Int)) ∧ (w9.alloc o).cell? ⟨w.heap.size, 5, none⟩ = some (.int .i64 m_) ∧ (w9.alloc o).cell? ⟨w.heap.size, 6, none⟩ = some (.int .i64 j_) ∧ (w9.alloc o).cell? ⟨w.heap.size, 7, none⟩ = some (.int .i64 p_)) := fun o => HCe.out _ (B8.out.alloc B8.out.size o)
  refine hK'.out _ _ (C9.out _) (fun _ => ?_)
  clear hK' K'
  try simp only [Act.put, List.setIfInBounds_toArray, List.set_cons_zero, List.set_cons_succ]
  refine wpAnyH_take (i := 32) (oi := ⟨some 4, _, _, _, _, _⟩) (v := ?_) rfl (by kernel_rfl) (by kernel_rfl) (by kernel_rfl) (fun _ _ _ h => h) (Or.inl ⟨by rfl, ?_⟩) (C9.out _) ?_
  rotate_left
  · intro wx hx; obtain ⟨s1, s2, s3, s4, s5, s6, s7⟩ := hx; go_simp; try with_reducible rfl
  simp only [Act.put, List.setIfInBounds_toArray, List.set_cons_zero, List.set_cons_succ]
  refine wpAnyH_done (by kernel_rfl) ?_ _
  clear C1 C2 C3 C4 C5 C6 C7 C8 C9 HCd HCe HBa
  go_wp2
  clear HB0 n0 b0 c0 n1 b1 c1
  have q9 : Below w9.heap.size w9 w9 := Below.refl _ _
  have q8 : Below w8.heap.size w8 w9 := K7.out.bel.trans (q9.mono K7.out.bel.size)
  have q7 : Below w7.heap.size w7 w9 := K6.out.bel.trans (q8.mono K6.out.bel.size)
  have q6 : Below w6.heap.size w6 w9 := K5.out.bel.trans (q7.mono K5.out.bel.size)
  have q5 : Below w5.heap.size w5 w9 := K4.out.bel.trans (q6.mono K4.out.bel.size)
  have q4 : Below w4.heap.size w4 w9 := K3.out.bel.trans (q5.mono K3.out.bel.size)
  have q3 : Below w3.heap.size w3 w9 := K2.out.bel.trans (q4.mono K2.out.bel.size)
  have q2 : Below w2.heap.size w2 w9 := K1.out.bel.trans (q3.mono K1.out.bel.size)
  have q1 : Below W1.heap.size W1 w9 := K0.out.bel.trans (q2.mono K0.out.bel.size)
  have e2 : w2.heap.size = w.heap.size + 4 := by have := K0.out.size; omega
  have e3 : w3.heap.size = w.heap.size + 6 := by have := K1.out.size; omega
  have e4 : w4.heap.size = w.heap.size + 8 := by have := K2.out.size; omega
  have e5 : w5.heap.size = w.heap.size + 10 := by have := K3.out.size; omega
  have e6 : w6.heap.size = w.heap.size + 12 := by have := K4.out.size; omega
  have e7 : w7.heap.size = w.heap.size + 14 := by have := K5.out.size; omega
  have e8 : w8.heap.size = w.heap.size + 16 := by have := K6.out.size; omega
  have e9 : w9.heap.size = w.heap.size + 18 := by have := K7.out.size; omega
  have d0 := blk_below q2 K0.out.num K0.out.num.lt
  have f0 := blk_below q2 K0.out.wid K0.out.wid.lt
  rw [hs1] at d0 f0
  have d1 := blk_below q3 K1.out.num K1.out.num.lt
  have f1 := blk_below q3 K1.out.wid K1.out.wid.lt
  rw [e2] at d1 f1
  have d2 := blk_below q4 K2.out.num K2.out.num.lt
  have f2 := blk_below q4 K2.out.wid K2.out.wid.lt
  rw [e3] at d2 f2
  have d3 := blk_below q5 K3.out.num K3.out.num.lt
  have f3 := blk_below q5 K3.out.wid K3.out.wid.lt
  rw [e4] at d3 f3
  have d4 := blk_below q6 K4.out.num K4.out.num.lt
  have f4 := blk_below q6 K4.out.wid K4.out.wid.lt
  rw [e5] at d4 f4
  have d5 := blk_below q7 K5.out.num K5.out.num.lt
  have f5 := blk_below q7 K5.out.wid K5.out.wid.lt
  rw [e6] at d5 f5
  have d6 := blk_below q8 K6.out.num K6.out.num.lt
  have f6 := blk_below q8 K6.out.wid K6.out.wid.lt
  rw [e7] at d6 f6
  have d7 := blk_below q9 K7.out.num K7.out.num.lt
  have f7 := blk_below q9 K7.out.wid K7.out.wid.lt
  rw [e8] at d7 f7
  refine bodyPost_ret (results_tmp rfl _ _ _) rfl ?_
  simp only [e2, e3, e4, e5, e6, e7, e8, e9]
  obtain ⟨W, hW⟩ : ∃ W, w9.alloc (.cells (fl w.heap.size) 221) = W := ⟨_, rfl⟩
  have hlist : Blk W (w.heap.size + 18) (fl w.heap.size) 221 := by
    rw [← hW, ← e9]
    exact Blk.new w9 _ _
  have hWb : Below w9.heap.size w9 W := by rw [← hW]; exact bel1 _ _
  have hWs : W.heap.size = w.heap.size + 19 := by rw [← hW, alloc_size, e9]
  have b19 := q1.trans (hWb.mono q1.size)
  have b09 := hb0.trans (b19.mono hb0.size)
  refine ⟨rfl, ?_⟩
  show Fds _ vj vs vc w (w9.alloc (.cells (fl w.heap.size) 221))
  rw [hW]
  have HW : ∀ {k : Nat} {cur : Array Value} {t : TypeId}, Blk w9 k cur t → Blk W k cur t := fun h => blk_below hWb h h.lt
  refine ⟨b09, hWs, blk_below b19 hf1 hf1.lt, blk_below b19 hp1 hp1.lt, fun i hi => ?_, fun i hi => ?_, hlist⟩
  · match i, hi with
    | 0, _ => exact HW d0
    | 1, _ => exact HW d1
    | 2, _ =>
      have := HW d2
      rw [show IntKind.i64.wrap (IntKind.i64.wrap ((N : Int) / 4) - 1) = (N : Int) / 4 - 1 by rw [wrap_id ((N : Int) / 4) (by omega) (by omega), wrap_id _ (by omega) (by omega)]] at this
      exact this
    | 3, _ =>
      have := HW d3
      rw [show IntKind.i64.wrap (IntKind.i64.wrap (2 * IntKind.i64.wrap ((C : Int) - 1)) + j_) = 2 * ((C : Int) - 1) + j_ by rw [wrap_id ((C : Int) - 1) (by omega) (by omega), wrap_id (2 * ((C : Int) - 1)) (by omega) (by omega), wrap_id _ (by omega) (by omega)]] at this
      exact this
    | 4, _ => exact HW d4
    | 5, _ =>
      have := HW d5
      rw [show IntKind.i64.wrap ((B : Int) / 8) = (B : Int) / 8 by rw [wrap_id _ (by omega) (by omega)]] at this
      exact this
    | 6, _ => exact HW d6
    | 7, _ => exact HW d7
  · match i, hi with
    | 0, _ => exact HW f0
    | 1, _ => exact HW f1
    | 2, _ => exact HW f2
    | 3, _ => exact HW f3
    | 4, _ => exact HW f4
    | 5, _ => exact HW f5
    | 6, _ => exact HW f6
    | 7, _ => exact HW f7

section
variable {σ : Type} {K : FuncId} {caps : Array Value} {A : Ad} {N0 C B N : Nat} {I : σ → Nb → World → Prop} {step : σ → Int → Nat → σ × Int}

def hdrT (step : σ → Int → Nat → σ × Int) (f : M.Fmt) (s : σ) : Nat → σ
  | 0 => s
  | q + 1 => (step (hdrT step f s q) (hz f q) (hk q)).1
def jnT (step : σ → Int → Nat → σ × Int) (f : M.Fmt) (B : Nat) (s : σ) (m : Nb) : σ × Nb :=
  if f.j = 1 then ((rowT step 1 (hdrT step f s 8) m.j B).1, { m with j := (rowT step 1 (hdrT step f s 8) m.j B).2 }) else (hdrT step f s 8, m)
def scT (step : σ → Int → Nat → σ × Int) (f : M.Fmt) (C B : Nat) (s : σ) (m : Nb) : σ × Nb := sclT step B (jnT step f B s m).1 (jnT step f B s m).2 C
def allT (step : σ → Int → Nat → σ × Int) (f : M.Fmt) (C B N r : Nat) (sl : Int) (s : σ) (m : Nb) : σ × Nb :=
  codT step (fun c b => (M.wid f C B r (scT step f C B s m).2.s sl c b).toNat) (scT step f C B s m) (plist N C B)
def stT (step : σ → Int → Nat → σ × Int) (f : M.Fmt) (C B N r : Nat) (sl : Int) (s : σ) (m : Nb) (q : Nat) : σ × Nb :=
  if q ≤ 8 then (hdrT step f s q, m) else if q = 9 then jnT step f B s m else if q = 10 then scT step f C B s m else allT step f C B N r sl s m

structure Iv (I : σ → Nb → World → Prop) (N0 F : Nat) (sm : Nat → σ × Nb) (W0 : World) (q : Nat) (W : World) : Prop where
  inv : I (sm q).1 (sm q).2 W
  os : W.os = W0.os
  tape : W.tape = W0.tape
  output : W.output = W0.output
  size : W0.heap.size ≤ W.heap.size
  block : ∀ x, N0 ≤ x → x < W0.heap.size → (∀ i, i < 8 → x ≠ F + 2 + 2 * i) → W.heap[x]? = W0.heap[x]?
  num : ∀ i, q ≤ i → i < 8 → W.heap[F + 2 + 2 * i]? = W0.heap[F + 2 + 2 * i]?
theorem Iv.abv {F : Nat} {sm : Nat → σ × Nb} {W0 W W' : World} {q : Nat} (h : Iv I N0 F sm W0 q W) (ha : Abv N0 W W') (hF : N0 ≤ F) (hs : F + 19 ≤ W0.heap.size) (hi : I (sm (q + 1)).1 (sm (q + 1)).2 W') : Iv I N0 F sm W0 (q + 1) W' :=
  ⟨hi, ha.os.trans h.os, ha.tape.trans h.tape, ha.output.trans h.output, Nat.le_trans h.size ha.size, fun x h0 h1 h2 => (ha.block x h0 (Nat.lt_of_lt_of_le h1 h.size)).trans (h.block x h0 h1 h2), fun i h1 h2 => (ha.block _ (by omega) (by have := h.size; omega)).trans (h.num i (by omega) h2)⟩

theorem each_any (T : Tk σ K caps A N0 C B N I step) (f : M.Fmt) (r : Nat) (sl : Int) (s : σ) (m : Nb) (w W0 : World) (hF : Sb f C B N r) (hS : Sh f C B r (scT step f C B s m).2.s sl) (hZ : ∀ c, c < C → ∀ b, b < B → 0 ≤ (scT step f C B s m).2.s c b ∧ (scT step f C B s m).2.s c b ≤ 15)
    (hN : N0 ≤ w.heap.size) (hd : Fds f (A.vj B) (A.vs C) (A.vc N) w W0) :
    ∀ q, q < 11 → ∃ Kq cq, (fl w.heap.size)[q]? = some (.func (.func Kq) #[] cq) ∧ Enters Tryz.prog Kq ∧ ∀ W, Iv I N0 w.heap.size (stT step f C B N r sl s m) W0 q W → Calls Tryz.prog Kq (#[.func (.func K) #[] caps] ++ cq) W fun e W' => e = .returned (.tuple #[]) ∧ Iv I N0 w.heap.size (stT step f C B N r sl s m) W0 (q + 1) W' := by
  have hs0 := hd.size
  have hr := hF.ok.2.1
  have hh := hF.hC
  have hb := hF.hB
  have hk' := hF.hN
  have hm := hF.method
  have hp := hF.ok.2.2.2.2.2.2.2.2.2.1
  have hp0 := hF.ok.2.2.2.2.2.2.2.1
  have hj := hF.joint
  have c2 := hF.c2
  have b8 := hF.b8
  have n16 := hF.n16
  have hzb : ∀ q, 0 ≤ hz f q ∧ hz f q < 65536 := by
    intro q
    match q with
    | 0 => show (0 : Int) ≤ 156 ∧ (156 : Int) < 65536; omega
    | 1 => show 0 ≤ f.r ∧ f.r < 65536; omega
    | 2 => show 0 ≤ f.k / 4 - 1 ∧ f.k / 4 - 1 < 65536; omega
    | 3 => show 0 ≤ 2 * (f.h - 1) + f.j ∧ 2 * (f.h - 1) + f.j < 65536; omega
    | 4 => show 0 ≤ f.m ∧ f.m < 65536; omega
    | 5 => show 0 ≤ f.b / 8 ∧ f.b / 8 < 65536; omega
    | 6 => show 0 ≤ f.p ∧ f.p < 65536; omega
    | n + 7 => show (0 : Int) ≤ 0 ∧ (0 : Int) < 65536; omega
  have hkb : ∀ q, hk q ≤ 16 := by
    intro q
    match q with
    | 0 => decide
    | 1 => decide
    | 2 => decide
    | 3 => decide
    | 4 => decide
    | 5 => decide
    | 6 => decide
    | n + 7 => show 8 ≤ 16; omega
  have hknown : ∀ q, q < 8 → ∀ W, Iv I N0 w.heap.size (stT step f C B N r sl s m) W0 q W → Calls Tryz.prog 209 #[.func (.func K) #[] caps, .pointer (some ⟨w.heap.size + 2 + 2 * q, 0, none⟩), .pointer (some ⟨w.heap.size + 2 + 2 * q + 1, 0, none⟩)] W fun e W' => e = .returned (.tuple #[]) ∧ Iv I N0 w.heap.size (stT step f C B N r sl s m) W0 (q + 1) W' := by
    intro q hq W h
    have hi : I (hdrT step f s q) m W := by have := h.inv; unfold stT at this; rw [if_pos (show q ≤ 8 by omega)] at this; exact this
    refine (known1_any T (hdrT step f s q) m W (w.heap.size + 2 + 2 * q) (hz f q) (hk q) hi (by omega) ((h.num q (Nat.le_refl _) hq).trans (hd.num q hq)) ((h.block _ (by omega) (by omega) (fun i hi => by omega)).trans (hd.wid q hq)) (hzb q) (hkb q)).mono ?_
    rintro e W' ⟨he, h1, h2, h3, h4, h5, h6⟩
    refine ⟨he, ?_, h3.trans h.os, h4.trans h.tape, h5.trans h.output, Nat.le_trans h.size h2, fun x x0 x1 x2 => (h6 x x0 (x2 q hq) (Nat.lt_of_lt_of_le x1 h.size)).trans (h.block x x0 x1 x2), fun i i0 i1 => (h6 _ (by omega) (by omega) (by have := h.size; omega)).trans (h.num i (by omega) i1)⟩
    unfold stT
    rw [if_pos (show q + 1 ≤ 8 by omega)]
    exact h1
  have hfb : ∀ q W, Iv I N0 w.heap.size (stT step f C B N r sl s m) W0 q W → Blk W w.heap.size (fc f) 23 := fun q W h => (h.block _ hN (by omega) (fun i _ => by omega)).trans hd.fb
  have hpb : ∀ q W, Iv I N0 w.heap.size (stT step f C B N r sl s m) W0 q W → Blk W (w.heap.size + 1) (A.pa C B N) 33 := fun q W h => (h.block _ (by omega) (by omega) (fun i _ => by omega)).trans hd.pb
  have hent := enters_of Tryz.func209 (by kernel_rfl) rfl
  intro q hq
  match q, hq with
  | 0, _ => exact ⟨_, _, rfl, hent, fun W h => hknown 0 (by omega) W h⟩
  | 1, _ => exact ⟨_, _, rfl, hent, fun W h => hknown 1 (by omega) W h⟩
  | 2, _ => exact ⟨_, _, rfl, hent, fun W h => hknown 2 (by omega) W h⟩
  | 3, _ => exact ⟨_, _, rfl, hent, fun W h => hknown 3 (by omega) W h⟩
  | 4, _ => exact ⟨_, _, rfl, hent, fun W h => hknown 4 (by omega) W h⟩
  | 5, _ => exact ⟨_, _, rfl, hent, fun W h => hknown 5 (by omega) W h⟩
  | 6, _ => exact ⟨_, _, rfl, hent, fun W h => hknown 6 (by omega) W h⟩
  | 7, _ => exact ⟨_, _, rfl, hent, fun W h => hknown 7 (by omega) W h⟩
  | 8, _ =>
    refine ⟨_, _, rfl, enters_of Tryz.func176 (by kernel_rfl) rfl, fun W h => ?_⟩
    have hi : I (hdrT step f s 8) m W := h.inv
    by_cases h1 : f.j = 1
    · refine (fields1_any T f w.heap.size (w.heap.size + 1) _ _ W hi (by omega) hN (by omega) (hfb _ W h) (hpb _ W h) h1).mono ?_
      rintro e W' ⟨he, i1, a1⟩
      refine ⟨he, h.abv a1 hN (by omega) ?_⟩
      show I (jnT step f B s m).1 (jnT step f B s m).2 W'
      unfold jnT
      rw [if_pos h1]
      exact i1
    · refine (fields1_none T f w.heap.size (w.heap.size + 1) _ _ W hi (hfb _ W h) h1).mono ?_
      rintro e W' ⟨he, hw⟩
      subst hw
      refine ⟨he, h.abv (Abv.refl _ _) hN (by omega) ?_⟩
      show I (jnT step f B s m).1 (jnT step f B s m).2 W'
      unfold jnT
      rw [if_neg h1]
      exact hi
  | 9, _ =>
    refine ⟨_, _, rfl, enters_of Tryz.func178 (by kernel_rfl) rfl, fun W h => ?_⟩
    have hi : I (jnT step f B s m).1 (jnT step f B s m).2 W := h.inv
    refine (fields2_any T (w.heap.size + 1) _ _ W hi (by omega) (by omega) (by omega) (hpb _ W h)).mono ?_
    rintro e W' ⟨he, i1, a1⟩
    exact ⟨he, h.abv a1 hN (by omega) i1⟩
  | 10, _ =>
    refine ⟨_, _, rfl, enters_of Tryz.func179 (by kernel_rfl) rfl, fun W h => ?_⟩
    have hi : I (scT step f C B s m).1 (scT step f C B s m).2 W := h.inv
    refine (fields3_any T f r w.heap.size (w.heap.size + 1) _ _ sl W hi hF hS hZ hN (by omega) (hfb _ W h) (hpb _ W h)).mono ?_
    rintro e W' ⟨he, i1, a1⟩
    exact ⟨he, h.abv a1 hN (by omega) i1⟩

set_option maxRecDepth 100000 in
set_option maxHeartbeats 2000000 in
theorem takeAll_any (T : Tk σ K caps A N0 C B N I step) (f : M.Fmt) (r : Nat) (sl : Int) (s : σ) (m : Nb) (w : World) (hF : Sb f C B N r) (hS : Sh f C B r (scT step f C B s m).2.s sl) (hZ : ∀ c, c < C → ∀ b, b < B → 0 ≤ (scT step f C B s m).2.s c b ∧ (scT step f C B s m).2.s c b ≤ 15) (h : I s m w) :
    Calls Tryz.prog 70 #[fv f, pa (A.vj B) (A.vs C) (A.vc N), .func (.func K) #[] caps] w fun e w' => e = .returned (.tuple #[]) ∧ I (allT step f C B N r sl s m).1 (allT step f C B N r sl s m).2 w' ∧ Abv N0 w w' := by
  have hw0 := T.size _ _ _ h
  obtain ⟨W1, hW1⟩ : ∃ W1, (w.alloc (.cells (fc f) 23)).alloc (.cells #[A.vj B, A.vs C, A.vc N] 33) = W1 := ⟨_, rfl⟩
  have bel : Below w.heap.size w W1 := by rw [← hW1]; exact (bel1 _ _).alloc (bel1 _ _).size _
  have hs1 : W1.heap.size = w.heap.size + 2 := by rw [← hW1]; simp
  have hf1 : Blk W1 w.heap.size (fc f) 23 := by rw [← hW1]; exact (Blk.new w _ _).alloc _
  have hp1 : Blk W1 (w.heap.size + 1) #[A.vj B, A.vs C, A.vc N] 33 := by
    rw [← hW1]
    have := Blk.new (w.alloc (.cells (fc f) 23)) #[A.vj B, A.vs C, A.vc N] 33
    rw [alloc_size] at this
    exact this
  have xs := box_cells hf1
  have y0 : W1.cell? ⟨w.heap.size + 1, 0, none⟩ = some (A.vj B) := hp1.cell rfl
  have y1 : W1.cell? ⟨w.heap.size + 1, 1, none⟩ = some (A.vs C) := hp1.cell rfl
  have y2 : W1.cell? ⟨w.heap.size + 1, 2, none⟩ = some (A.vc N) := hp1.cell rfl
  clear hf1 hp1
  have hj := hF.joint
  have hfl := fields_any f C B N (A.vj B) (A.vs C) (A.vc N) W1 hF.hC hF.hB hF.hN hF.c2 hF.b8 hF.n16 (by omega)
  have hstart : ∀ W0, Fds f (A.vj B) (A.vs C) (A.vc N) W1 W0 → Iv I N0 W1.heap.size (stT step f C B N r sl s m) W0 0 W0 ∧ (∀ q, q < 11 → ∃ Kq cq, (fl W1.heap.size)[q]? = some (.func (.func Kq) #[] cq) ∧ Enters Tryz.prog Kq ∧ ∀ W, Iv I N0 W1.heap.size (stT step f C B N r sl s m) W0 q W → Calls Tryz.prog Kq (#[.func (.func K) #[] caps] ++ cq) W fun e W' => e = .returned (.tuple #[]) ∧ Iv I N0 W1.heap.size (stT step f C B N r sl s m) W0 (q + 1) W') ∧
      (∀ q W, Iv I N0 W1.heap.size (stT step f C B N r sl s m) W0 q W → Blk W (W1.heap.size + 18) (fl W1.heap.size) 221) ∧ (∀ W, Iv I N0 W1.heap.size (stT step f C B N r sl s m) W0 11 W → I (allT step f C B N r sl s m).1 (allT step f C B N r sl s m).2 W ∧ Abv N0 w W) := by
    intro W0 hd
    have b0 := bel.trans (hd.bel.mono bel.size)
    have hs := hd.size
    refine ⟨⟨?_, rfl, rfl, rfl, Nat.le_refl _, fun _ _ _ _ => rfl, fun _ _ _ => rfl⟩, each_any T f r sl s m W1 W0 hF hS hZ (by omega) hd, fun q W hi => (hi.block _ (by omega) (by omega) (fun i _ => by omega)).trans hd.list, fun W hi => ⟨hi.inv, hi.os.trans b0.os, hi.tape.trans b0.tape, hi.output.trans b0.output, Nat.le_trans b0.size hi.size, fun k k0 k1 => (hi.block k k0 (by omega) (fun i _ => by omega)).trans (b0.block k k1)⟩⟩
    show I s m W0
    exact T.keep _ _ _ _ h (fun k hk => b0.block k (by omega)) b0.size
  have HS : Hid _ := hstart
  clear hstart bel hS hZ h T hF hj hs1
  unfold pa Ad.vj Ad.vs Ad.vc at hfl ⊢
  unfold Ad.vj Ad.vs Ad.vc at hW1 HS
  unfold Ad.vj at y0
  unfold Ad.vs at y1
  unfold Ad.vc at y2
  obtain ⟨c_, r_, h_, b_, k_, m_, j_, p_, l_, y_⟩ := f
  unfold fv at hfl ⊢
  unfold fc at hW1
  dsimp only at hfl hW1 xs ⊢
  obtain ⟨x0, x1, x2, x3, x4, x5, x6, x7, x8, x9⟩ := xs
  go_enter Tryz.func70, Tryz.ntmps70
  go_wp2_with (go_at_call 131; refine hfl.mono ?_; clear hfl; rintro e W0 ⟨rfl, hd⟩; obtain ⟨i0, hea, hbk, hfi⟩ := HS.out W0 hd; clear HS; have HI0 : Hid (Iv _ _ _ _ _ 0 W0) := i0; have HE : Hid _ := hea; have HBk : Hid _ := hbk; have HFi : Hid _ := hfi; clear i0 hea hbk hfi hd)
  clear hW1 x0 x1 x2 x3 x4 x5 x6 x7 x8 x9 y0 y1 y2
  go_loopw [12] (fun i wr => ∃ q : Nat, q ≤ 11 ∧ i = .int .i64 q ∧ Iv I N0 W1.heap.size (stT step ⟨c_, r_, h_, b_, k_, m_, j_, p_, l_, y_⟩ C B N r sl s m) W0 q wr) (fun i _ => 11 - (intOf i).toNat)
  case atStart => exact ⟨0, by omega, rfl, HI0.out⟩
  case round =>
    clear HI0
    obtain ⟨q, hq, rfl, hi⟩ := hrel
    by_cases hlt : q < 11
    · have hlt' : (q : Int) < 11 := by omega
      obtain ⟨Kq, cq, hc, hent, hcall⟩ := HE.out q hlt
      have hc' := (HBk.out q wr hi).cell hc
      have hcall' := hcall wr hi
      clear hcall hc hi
      unfold Enters at hent
      go_wp2_with (go_at_fn Kq; refine hcall'.mono ?_; rintro e w3 ⟨rfl, h1⟩; replace h1 : Hid _ := h1)
      go_roundw
      case rel => exact ⟨q + 1, by omega, by go_num, h1.out⟩
      case measure => simp [intOf]; omega
    · obtain rfl : q = 11 := by omega
      have hf := HFi.out wr hi
      have HF : Hid _ := hf
      clear hi hf
      go_wp2
      go_end0
      exact ⟨rfl, HF.out⟩
end

end Sub
end Go.Proofs.YtcaifpjbjghhaaaGreatDoor

