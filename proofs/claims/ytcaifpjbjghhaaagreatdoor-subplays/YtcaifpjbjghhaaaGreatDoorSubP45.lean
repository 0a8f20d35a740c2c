import Derived.Deep.AppendLies
import Derived.Deep.RegionLaw
import Derived.Deep.RegionHeld3
import Derived.Test.YtcaifpjbjghhaaaGreatDoorSubP15
import Derived.Test.YtcaifpjbjghhaaaGreatDoorSubP43
import Derived.Test.YtcaifpjbjghhaaaGreatDoorSubP39
import Derived.Test.YtcaifpjbjghhaaaGreatDoorSubP33
/-
  The document's answer: the samples of all planes that came. Conditions: as told at each.
-/
namespace Go.Proofs.YtcaifpjbjghhaaaGreatDoor
set_option linter.unusedVariables false
open Go.RowKit
namespace Sub
open Bank (Blk But)
open Poly (Reads cell_keep alloc_size enc enc_get enc_length Gat)
open _root_.Go.Proofs.YtcaifpjbjghhaaaGreatDoor.Form (fv fc bel1 box_cells blk_below)

theorem wpList_max2 {P : Program} {w : World} {ops : Array Oper} {rest : List Oper} {o : Oper} {a : Act} {Q : Exit → Act → World → Prop} (hgd : o.guard = none) (x y : Operand) (t : TypeId)
    (ho : o.op = .call { callee := .builtin .max, args := #[x, y], argTypes := #[t, t] }) (p q m : Int) (hx : a.eval x = .int .i64 p) (hy : a.eval y = .int .i64 q) (hm : m = max p q)
    (k : wpList P ops Q rest (a.put o.dst (.int .i64 m)) w) : wpList P ops Q (o :: rest) a w := by
  refine wpList_plain hgd fun _ hK => ?_
  have e : (if q > p then q else p) = m := by subst hm; split <;> omega
  unfold Oper.wp execOp
  simp only [ho, resolve, invoke, builtin, Sem.run_bind, Sem.run_pure, Result.andThen_ok, List.map_toArray, List.map_cons, List.map_nil, hx, hy, Builtin.max_, List.foldlM_cons, List.foldlM_nil, Builtin.max2, e]
  exact hK _ _ k

theorem sizeS32 (w : World) : (Go.sizeOf 97).run Tryz.prog w = .ok 1 w := by kernel_rfl
theorem elemS32 : Tryz.prog.elem 82 = 97 := by simp [Program.elem, Tryz.underlying82]
theorem winS32 (b n cap l h : Nat) (hlh : l < h) (hh : h ≤ cap) (wz : World) : (Instr.slice 82 (.slice (some ⟨b, 0, none⟩) n cap) (some (.int .i64 (l : Int))) (some (.int .i64 (h : Int))) none).run Tryz.prog wz = .ok (.slice (some ⟨b, l, none⟩) (h - l) (cap - l)) wz := by
  rw [run_slice_lh (P := Tryz.prog) wz 82 _ n cap (by rw [elemS32]; exact Tryz.underlying82) .i64 .i64 l h (by omega) (by omega) (by omega), elemS32, sizeS32]
  have hne : ¬ cap = l := by omega
  by_cases h0 : l = 0
  · subst h0
    simp [Result.andThen, Go.sliced, Addr.add, hne]
  · simp [Result.andThen, Go.sliced, Addr.add, hne, h0]

theorem rJoin_any (lo hi B : Nat) (hB : B = 4 ∨ B = 8) (zss : List (List Int)) (vb : Value) (w : World) (hR : Poly.Rows .i32 lo hi w vb zss) (h1 : hi ≤ w.heap.size) (hr : ∀ i, i < zss.length → (zss.getD i []).length = B) (hn : zss.length ≤ 100) :
    Calls Tryz.prog 94 #[vb, .int .i64 B] w fun e w' => ∃ v, e = .returned v ∧ Reads .i16 w.heap.size w'.heap.size w' v (M.jn B (M.allv B zss)) ∧ Below w.heap.size w w' := by
  rcases hB with rfl | rfl
  · exact Poly.join_4 lo hi zss vb w hR h1 hr hn
  · exact Poly.join_8 lo hi zss vb w hR h1 hr hn

theorem Gat_below {k : IntKind} {t : TypeId} {B : Nat} {v : Value} {zs : List Int} {w wr w' : World} (h : Gat k t B v zs w wr) (hb : Below wr.heap.size wr w') : Gat k t B v zs w w' :=
  ⟨h.1.kept (row := none) ⟨hb.os, hb.tape, hb.output, hb.size, fun k hk _ => hb.block k hk⟩ (by cases hv : v.ownBlock <;> simp), h.2.1.trans (hb.mono h.size), h.2.2⟩
theorem Gat_more {k : IntKind} {t : TypeId} {B n : Nat} {v v' : Value} {zs ys : List Int} {w wr w1 : World} (h : Gat k t B v zs w wr) (hl : ys.length = n)
    (hown : w1.ownsRow B t 1 v' (zs.length + n) (enc k zs ++ enc k ys)) (hg : wr.grownBy w1 v.ownBlock) : Gat k t B v' (zs ++ ys) w w1 := by
  refine ⟨?_, Qnt.below_grown h.2.1 h.size hg (fun j hj => (h.1.lt j hj).1), h.2.2⟩
  have e : enc k (zs ++ ys) = enc k zs ++ enc k ys := by simp [enc]
  rw [e, List.length_append, hl]
  exact hown

def smR (N B R : Nat) (X : Nat → Nat → Nat → Int) (c j : Nat) : Int := (M.jsm B (X c) (M.lnR N B (X c) R) N).getD j 0
theorem smR_bd (N B R : Nat) (X : Nat → Nat → Nat → Int) (c j : Nat) : -32768 ≤ smR N B R X c j ∧ smR N B R X c j ≤ 32767 := M.fits_getD (M.jsm_fits _ _ _ _) j
def wvR (C N B R : Nat) (X : Nat → Nat → Nat → Int) (i : Nat) : Int := smR N B R X (i % C) (i / C)
theorem wvR_wov (C N B R : Nat) (X : Nat → Nat → Nat → Int) (hC : 0 < C) : (List.range (C * (N * B))).map (wvR C N B R X) = M.wov C (N * B) ((List.range C).map fun c => M.jsm B (X c) (M.lnR N B (X c) R) N) := by
  unfold M.wov
  apply List.map_congr_left
  intro i _
  have h : i % C < C := Nat.mod_lt _ hC
  unfold wvR smR
  rw [show ((List.range C).map fun c => M.jsm B (X c) (M.lnR N B (X c) R) N).getD (i % C) [] = M.jsm B (X (i % C)) (M.lnR N B (X (i % C)) R) N by simp [List.getD, h]]
theorem wvR_fits (C N B R : Nat) (X : Nat → Nat → Nat → Int) (n : Nat) : M.fits16 ((List.range n).map (wvR C N B R X)) := fun z hz => by
  obtain ⟨i, _, rfl⟩ := List.mem_map.1 hz
  exact smR_bd _ _ _ _ _ _
theorem wvR_at {C N B R : Nat} {X : Nat → Nat → Nat → Int} {c p : Nat} (hc : c < C) : wvR C N B R X (C * p + c) = smR N B R X c p := by
  unfold wvR
  rw [Nat.mul_add_mod, Nat.mod_eq_of_lt hc, Nat.mul_add_div (by omega), Nat.div_eq_of_lt hc, Nat.add_zero]

set_option maxRecDepth 100000 in
set_option maxHeartbeats 8000000 in
theorem rPlay_any (hi : Nat) (f : M.Fmt) (C B N r R : Nat) (ab ao ac : Nat) (v : Value) (X : Nat → Nat → Nat → Int) (w : World) (hF : Sb f C B N r) (hR : R ≤ 2) (hv : V3 .i32 hi v C N B X w) (hX : ∀ c, Qnt.F32 (X c)) (hh : hi ≤ w.heap.size)
    (hab : ab < w.heap.size) (hall : ∀ i, i < R + 1 → w.cell? ⟨ab, ao + i, none⟩ = some v) :
    Calls Tryz.prog 35 #[fv f, .slice (some ⟨ab, ao, none⟩) (R + 1) ac] w fun e w' => ∃ u, e = .returned u ∧ Below w.heap.size w w' ∧
      Reads .i16 w.heap.size w'.heap.size w' u (M.wov C (N * B) ((List.range C).map fun c => M.jsm B (X c) (M.lnR N B (X c) R) N)) := by
  have n16 := hF.n16
  have c2 := hF.c2
  have b8 := hF.b8
  obtain ⟨i0, hi0, hz0, hz1, hz2⟩ := info_parts Poly.info16
  obtain ⟨j0, hj0, hy0, hy1, hy2⟩ := info_parts Poly.infoS32
  obtain ⟨k0, hk0, hx0, hx1, hx2⟩ := info_parts Poly.infoS16
  obtain ⟨W, hW⟩ : ∃ W, w.alloc (.cells (fc f) 23) = W := ⟨_, rfl⟩
  have sz : W.heap.size = w.heap.size + 1 := by rw [← hW]; simp
  have bel : Below w.heap.size w W := by rw [← hW]; exact bel1 _ _
  have hbx : Blk W w.heap.size (fc f) 23 := by rw [← hW]; exact Blk.new _ _ _
  have HBx : Hid (∀ wx, Below W.heap.size W wx → Blk wx w.heap.size (fc f) 23) := fun wx hb => blk_below hb hbx (by omega)
  have HBel : Hid (Below w.heap.size w W) := bel
  obtain ⟨pb, po, pc, rfl⟩ := hv.form
  -- the planes and their lists, in every world that keeps what was there
  have hcell : ∀ q, q < C → ∃ rb ro rc : Nat, rb < hi ∧ N ≤ rc ∧ ∃ eb eo ec : Nat → Nat, ∀ wx, Below W.heap.size W wx → wx.cell? ⟨pb, po + q, none⟩ = some (.slice (some ⟨rb, ro, none⟩) N rc) ∧ ∀ j, j < N → wx.cell? ⟨rb, ro + j, none⟩ = some (.slice (some ⟨eb j, eo j, none⟩) B (ec j)) ∧ Reads .i32 0 hi wx (.slice (some ⟨eb j, eo j, none⟩) B (ec j)) (rl B (X q j)) := by
    intro q hq
    obtain ⟨_, hpb, h1⟩ := hv.at
    obtain ⟨rb, ro, rc, hrb, hu, h2⟩ := h1 q hq
    obtain ⟨eb, eo, ec, he⟩ := V2.rows_at h2
    obtain ⟨b', o', c', e', hc', _⟩ := id h2
    cases e'
    refine ⟨rb, ro, rc, hrb, hc', eb, eo, ec, fun wx hb => ?_⟩
    have kp : ∀ k, k < hi → wx.heap[k]? = w.heap[k]? := fun k hk => (hb.block k (by omega)).trans (bel.block k (by omega))
    refine ⟨(cell_keep (kp _ hpb)).trans hu, fun j hj => ?_⟩
    obtain ⟨k1, k2, k3, k4⟩ := he j hj
    refine ⟨(cell_keep (kp _ hrb)).trans k3, ?_⟩
    have hv1 : V1 .i32 hi (.slice (some ⟨eb j, eo j, none⟩) B (ec j)) B (X q j) wx := ⟨_, _, _, rfl, k2, k1, fun x hx => (cell_keep (kp _ k1)).trans (k4 x hx)⟩
    exact hv1.reads fun x => Poly.wf32.2 (hX q j x)
  have HCell : Hid _ := hcell
  have HAll : Hid (∀ wx, Below W.heap.size W wx → ∀ i, i < R + 1 → wx.cell? ⟨ab, ao + i, none⟩ = some (.slice (some ⟨pb, po, none⟩) C pc)) := fun wx hb i hi => (cell_keep ((hb.block ab (by omega)).trans (bel.block ab hab))).trans (hall i hi)
  have HHi : Hid (hi ≤ W.heap.size) := by show _ ≤ _; omega
  have HWs : Hid (w.heap.size ≤ W.heap.size) := by show _ ≤ _; omega
  have hN := hF.hN
  have hC := hF.hC
  have hBB := hF.hB
  obtain ⟨T0, hT0⟩ : ∃ T0, R * N = T0 := ⟨_, rfl⟩
  have t32 : T0 ≤ 32 := by rw [← hT0]; have := Nat.mul_le_mul hR (show N ≤ 16 by omega); omega
  have hT1 : (R + 1) * N = T0 + N := by rw [Nat.succ_mul, hT0]
  obtain ⟨NB, hNB⟩ : ∃ NB, N * B = NB := ⟨_, rfl⟩
  have nb128 : 16 ≤ NB ∧ NB ≤ 128 := by rw [← hNB]; have := Nat.mul_le_mul (show N ≤ 16 by omega) (show B ≤ 8 by omega); have := Nat.mul_le_mul (show 4 ≤ N by omega) (show 4 ≤ B by omega); omega
  obtain ⟨B0, hB0⟩ : ∃ B0, W.heap.size = B0 := ⟨_, rfl⟩
  have H0 : Hid (Gn 55 B0 0 (E1 .i16 182 NB (smR N B R X)) (.slice none 0 0) W W) := by have := Gn.nil 55 (E1 .i16 182 NB (smR N B R X)) W; rwa [hB0] at this
  have K1 : Hid (KeepE 55 B0 (E1 .i16 182 NB (smR N B R X))) := keepE1 (by decide)
  have HNB : Hid (N * B = NB) := hNB
  have HT0 : Hid (R * N = T0) := hT0
  have HT1 : Hid ((R + 1) * N = T0 + N) := hT1
  clear hF hv hX hcell hall hab bel hbx hNB hT0 hT1
  obtain ⟨c_, r_, h_, b_, k_, m_, j_, p_, l_, y_⟩ := f
  obtain rfl : h_ = C := hC
  obtain rfl : b_ = B := hBB
  obtain rfl : k_ = N := hN
  unfold fv
  unfold fc at hW HBx
  dsimp only at hW HBx ⊢
  have i1 : (1 : Int) ≤ C ∧ (C : Int) ≤ 2 := by omega
  have i2 : (4 : Int) ≤ B ∧ (B : Int) ≤ 8 := by omega
  have i3 : (4 : Int) ≤ N ∧ (N : Int) ≤ 16 := by omega
  have i4 : (R : Int) ≤ 2 := by omega
  have i5 : (T0 : Int) ≤ 32 := by omega
  have i6 : (16 : Int) ≤ NB ∧ (NB : Int) ≤ 128 := by omega
  have hbx0 := HBx.out W (Below.refl _ _)
  have xs := box_cells (f := ⟨c_, r_, C, B, N, m_, j_, p_, l_, y_⟩) hbx0
  dsimp only at xs
  obtain ⟨x0, x1, x2, x3, x4, x5, x6, x7, x8, x9⟩ := xs
  clear hbx0
  go_enter Tryz.func35, Tryz.ntmps35
  go_wp2
  go_loopw [5, 6] (fun u i wr => ∃ q : Nat, q ≤ C ∧ i = .int .i64 q ∧ Gn 55 B0 q (E1 .i16 182 NB (smR N B R X)) u W wr) (fun _ i _ => C - (intOf i).toNat)
  case atStart => exact ⟨0, by omega, rfl, H0.out⟩
  case round =>
    clear H0 x0 x1 x2 x3 x4 x5 x6 x7 x8 x9
    obtain ⟨w1, hw1⟩ : ∃ w1, w1 = wr := ⟨_, rfl⟩
    subst hw1
    obtain ⟨q, hq, rfl, hG⟩ := hrel
    have hbx := HBx.out w1 (hG.bel.mono (by omega))
    have xs := box_cells (f := ⟨c_, r_, C, B, N, m_, j_, p_, l_, y_⟩) hbx
    dsimp only at xs
    obtain ⟨x0, x1, x2, x3, x4, x5, x6, x7, x8, x9⟩ := xs
    by_cases hlt : q < C
    · have hlt' : (q : Int) < C := by omega
      obtain ⟨rb, ro, rc, hrb, hrc, eb, eo, ec, hrow⟩ := HCell.out q hlt
      have HRow : Hid _ := hrow
      have HG : Hid (Gn 55 B0 q (E1 .i16 182 NB (smR N B R X)) u5 W w1) := hG
      have hWr : Below W.heap.size W w1 := hG.bel.mono (by omega)
      have HWr : Hid (Below W.heap.size W w1) := hWr
      obtain ⟨B1, hB1⟩ : ∃ B1, w1.heap.size = B1 := ⟨_, rfl⟩
      have hB01 : B0 ≤ B1 := by have := hG.size; omega
      have H1 : Hid (Gn 97 B1 0 (ER .i32 hi fun i => rl B (X q (i % N))) (.slice none 0 0) w1 w1) := by have := Gn.nil 97 (ER .i32 hi fun i => rl B (X q (i % N))) w1; rwa [hB1] at this
      have K2 : Hid (KeepE 97 B1 (ER .i32 hi fun i => rl B (X q (i % N)))) := fun i u wa wb h hb => keepER i u wa wb h (show Bar 97 hi wa wb from ⟨hb.size, fun k hk hor => hb.block k hk (hor.imp (fun h => by have := HHi.out; omega) id)⟩)
      clear hG hrow hWr hbx
      go_wp2
      go_loopw [7, 8] (fun u i wx => ∃ p : Nat, p ≤ R + 1 ∧ i = .int .i64 p ∧ Gn 97 B1 (p * N) (ER .i32 hi fun i => rl B (X q (i % N))) u w1 wx) (fun _ i _ => R + 1 - (intOf i).toNat)
      case atStart => exact ⟨0, by omega, rfl, by rw [Nat.zero_mul]; exact H1.out⟩
      case round =>
        clear H1 x0 x1 x2 x3 x4 x5 x6 x7 x8 x9
        obtain ⟨wx, hwx⟩ : ∃ wx, wx = wr := ⟨_, rfl⟩
        subst hwx
        obtain ⟨p, hp, rfl, hG⟩ := hrel
        have hWx : Below W.heap.size W wx := HWr.out.trans (hG.bel.mono (by omega))
        by_cases hlp : p < R + 1
        · have hlp' : (p : Int) < (R : Int) + 1 := by omega
          have z1 := HAll.out wx hWx p hlp
          obtain ⟨z2, z3⟩ := HRow.out wx hWx
          obtain ⟨PN, hPN⟩ : ∃ PN, p * N = PN := ⟨_, rfl⟩
          have pn : PN ≤ 32 := by rw [← hPN]; have := Nat.mul_le_mul (show p ≤ 2 by omega) (show N ≤ 16 by omega); omega
          have HPN : Hid (p * N = PN) := hPN
          have hGP := hG
          rw [hPN] at hGP
          obtain ⟨⟨us, hown, hE⟩, hbl, hbs⟩ := hGP
          have hnews : ∀ j u, ((List.range N).map fun j => Value.slice (some ⟨eb j, eo j, none⟩) B (ec j))[j]? = some u → wx.cell? ((⟨rb, ro, none⟩ : Addr).add j) = some u := by
            intro j u hj
            have hjl : j < N := by have := (List.getElem?_eq_some_iff.1 hj).1; simpa using this
            rw [Poly.add_off, (z3 j hjl).1]
            simp [hjl] at hj
            rw [hj]
          have hone : ∀ u ∈ ((List.range N).map fun j => Value.slice (some ⟨eb j, eo j, none⟩) B (ec j)), u.oneCell' = true := by
            intro u hu
            obtain ⟨j, _, rfl⟩ := List.mem_map.1 hu
            rfl
          have hlen : ((List.range N).map fun j => Value.slice (some ⟨eb j, eo j, none⟩) B (ec j)).length = N * 1 := by simp
          have hys : ∀ j y, ((List.range N).map fun j => Value.slice (some ⟨eb j, eo j, none⟩) B (ec j))[j]? = some y → ER .i32 hi (fun i => rl B (X q (i % N))) (PN + j) y wx := by
            intro j y hj
            have hjl : j < N := by have := (List.getElem?_eq_some_iff.1 hj).1; simpa using this
            simp [hjl] at hj
            subst hj
            show Reads .i32 0 hi wx _ (rl B (X q ((PN + j) % N)))
            rw [← hPN, Nat.mul_comm, Nat.mul_add_mod, Nat.mod_eq_of_lt hjl]
            exact (z3 j hjl).2
          have HYs : Hid _ := hys
          have HE : Hid _ := hE
          have HBl : Hid (Below B1 w1 wx) := hbl
          have HBs : Hid (w1.heap.size = B1) := hbs
          have hB1x : B1 ≤ wx.heap.size := hG.size
          obtain ⟨ua, uc, rfl⟩ := Poly.own_form hown
          generalize ((List.range N).map fun j => Value.slice (some ⟨eb j, eo j, none⟩) B (ec j)) = news at *
          clear hys hE hbl hbs hG hPN z3
          go_wp2_with (at_builtin; refine wpList_append_own _ rfl (.tmp 27) (.tmp 34) 82 rfl B1 97 j0 (.slice none 0 0) 1 24 Tryz.underlying82 hj0 hy0 hy1 hy2 rfl (by decide) _ _ _ rfl hown ⟨rb, ro, none⟩ N rc news rfl hlen hnews hone ?c3 ?c4 hB1x ?_)
          case c3 => unfold maxLen; omega
          case c4 => omega
          · intro v' w4 hown' hgrow _
            have R1 : Hid (Gn 97 B1 (PN + N) (ER .i32 hi fun i => rl B (X q (i % N))) v' w1 w4) := Gn.more hown HE.out HBl.out HBs.out K2.out HYs.out (Below.refl _ _) hown' hgrow
            clear hown' hgrow hown hnews hone hlen
            go_wp2
            go_roundw
            case rel => exact ⟨p + 1, by omega, by go_num, by rw [Nat.succ_mul, HPN.out]; exact R1.out⟩
            case measure => simp [intOf]; omega
        · obtain rfl : p = R + 1 := by omega
          have hlp' : ¬ ((R : Int) + 1 < (R : Int) + 1) := by omega
          have hGP := hG
          rw [HT1.out] at hGP
          obtain ⟨bg, bc, cur, rfl, hbc, _, _, _⟩ := hGP.at (by omega)
          have HGb : Hid (Gn 97 B1 (T0 + N) (ER .i32 hi fun i => rl B (X q (i % N))) (.slice (some ⟨bg, 0, none⟩) (T0 + N) bc) w1 wx) := hGP
          have hbx := HBx.out wx hWx
          have HBw : Hid (Blk wx w.heap.size _ 23) := hbx
          have xs := box_cells (f := ⟨c_, r_, C, B, N, m_, j_, p_, l_, y_⟩) hbx
          dsimp only at xs
          obtain ⟨x0, x1, x2, x3, x4, x5, x6, x7, x8, x9⟩ := xs
          obtain ⟨B2, hB2⟩ : ∃ B2, wx.heap.size = B2 := ⟨_, rfl⟩
          have hB12 : B1 ≤ B2 := by have := hG.size; omega
          have H2 : Hid (Gat .i16 182 B2 (.slice none 0 0) (M.jsm B (X q) (M.lnR N B (X q) R) 0) wx wx) := by have := Gat.nil .i16 182 wx; rwa [hB2] at this
          have HWx : Hid (Below W.heap.size W wx) := hWx
          have hwT : IntKind.i64.wrap (((T0 + N : Nat) : Int) - N) = T0 := by rw [show ((T0 + N : Nat) : Int) - N = T0 by omega]; exact wrapI _ (by omega) (by omega)
          have HB2 : Hid (wx.heap.size = B2) := hB2
          clear hG hGP hbx hWx
          go_wp2
          go_loopw [9, 10] (fun u i wy => ∃ p : Nat, p ≤ N ∧ i = .int .i64 ((T0 + p : Nat) : Int) ∧ Gat .i16 182 B2 u (M.jsm B (X q) (M.lnR N B (X q) R) p) wx wy) (fun _ i _ => T0 + N - (intOf i).toNat)
          case atStart => exact ⟨0, by omega, rfl, H2.out⟩
          case round =>
            clear H2 x0 x1 x2 x3 x4 x5 x6 x7 x8 x9
            obtain ⟨wy, hwy⟩ : ∃ wy, wy = wr := ⟨_, rfl⟩
            subst hwy
            obtain ⟨p, hp, rfl, hG⟩ := hrel
            have hxy : Below wx.heap.size wx wy := hG.2.1.mono (by rw [HB2.out]; exact Nat.le_refl _)
            have hWy : Below W.heap.size W wy := HWx.out.trans (hxy.mono HWx.out.size)
            have hbx := HBx.out wy hWy
            have xs := box_cells (f := ⟨c_, r_, C, B, N, m_, j_, p_, l_, y_⟩) hbx
            dsimp only at xs
            obtain ⟨x0, x1, x2, x3, x4, x5, x6, x7, x8, x9⟩ := xs
            obtain ⟨sa, sc, rfl⟩ := hG.form
            by_cases hlp : p < N
            · have hlp' : (p : Int) < N := by omega
              obtain ⟨d, hd⟩ : ∃ d, d = T0 + p - 9 := ⟨_, rfl⟩
              have hdT : d ≤ T0 + p := by omega
              have hmax : max (((T0 + p : Nat) : Int) - 9) 0 = (d : Int) := by omega
              have hdd : d = 0 ∨ d + 10 = R * N + p + 1 := by have := HT0.out; omega
              have hJs := M.jsm_rep N B (X q) R p d hlp hdd
              rw [HT0.out] at hJs
              have hgb := HGb.out.below K2.out hxy
              have hrw := hgb.rows d (T0 + p + 1 - d) (c' := bc - d) (by omega) (by omega) (by have := HHi.out; have := hWy.size; omega)
              obtain ⟨zss, hzss⟩ : ∃ zss, ((List.range (T0 + p + 1 - d)).map fun i => rl B (X q ((d + i) % N))) = zss := ⟨_, rfl⟩
              rw [hzss] at hJs
              have hrw : Poly.Rows .i32 0 wy.heap.size wy (.slice (some ⟨bg, d, none⟩) (T0 + p + 1 - d) (bc - d)) zss := by rw [← hzss]; exact hrw
              have hzl : zss.length ≤ 100 ∧ ∀ i, i < zss.length → (zss.getD i []).length = B := by
                rw [← hzss]
                refine ⟨by simp; omega, fun i hi => ?_⟩
                simp at hi
                rw [show ((List.range (T0 + p + 1 - d)).map fun i => rl B (X q ((d + i) % N))).getD i [] = rl B (X q ((d + i) % N)) by simp [List.getD, hi], rl_length]
              have hjn : ∀ wz, Below wy.heap.size wy wz → Calls Tryz.prog 94 #[.slice (some ⟨bg, d, none⟩) (T0 + p + 1 - d) (bc - d), .int .i64 B] wz fun e w' => ∃ jb jo jc, e = .returned (.slice (some ⟨jb, jo, none⟩) B jc) ∧ (∀ j u, (enc .i16 (M.jn B (M.allv B zss)))[j]? = some u → w'.cell? ((⟨jb, jo, none⟩ : Addr).add j) = some u) ∧ Below wz.heap.size wz w' := fun wz hb =>
                (rJoin_any 0 wy.heap.size B b8 zss _ wz (hrw.below hb (Nat.le_refl _)) hb.size hzl.2 hzl.1).mono fun e w' ⟨v, he, hr, hb'⟩ => by
                  obtain ⟨a, c, rfl⟩ := hr.form
                  obtain ⟨jb, jo, rfl, _, _, hc⟩ := hr.cell (by rw [M.jn_length]; omega)
                  rw [M.jn_length] at he
                  refine ⟨jb, jo, c, he, fun j u hj => ?_, hb'⟩
                  have hjl : j < (M.jn B (M.allv B zss)).length := by have := (List.getElem?_eq_some_iff.1 hj).1; rwa [enc_length] at this
                  rw [enc_get hjl] at hj
                  rw [Poly.add_off, hc j hjl]
                  exact hj
              have HJn : Hid _ := hjn
              have hjl : (enc .i16 (M.jn B (M.allv B zss))).length = B * 1 := by rw [enc_length, M.jn_length, Nat.mul_one]
              have hj1 : ∀ u ∈ enc .i16 (M.jn B (M.allv B zss)), u.oneCell' = true := Poly.enc_one _ _
              have hsl : ∀ wz, (Instr.slice 82 (.slice (some ⟨bg, 0, none⟩) (T0 + N) bc) (some (.int .i64 (d : Int))) (some (.int .i64 (((T0 + p : Nat) : Int) + 1))) none).run Tryz.prog wz = .ok (.slice (some ⟨bg, d, none⟩) (T0 + p + 1 - d) (bc - d)) wz := fun wz => by
                exact winS32 bg (T0 + N) bc d (T0 + p + 1) (by omega) (by omega) wz
              have hYl : (M.jsm B (X q) (M.lnR N B (X q) R) p).length ≤ 128 := by rw [M.jsm_length]; have := Nat.mul_le_mul (show p ≤ 16 by omega) (show B ≤ 8 by omega); omega
              have HJs : Hid _ := hJs
              have HGt : Hid (Gat .i16 182 B2 _ (M.jsm B (X q) (M.lnR N B (X q) R) p) wx wy) := hG
              have HZB : Hid (B2 ≤ wy.heap.size) := hG.size
              have C0 : Hid (wy.drew.cell? ⟨w.heap.size, 3, none⟩ = some (.int .i64 B)) := x3
              have hB4 : 0 < B := by omega
              have HBw2 : Hid (∀ wz, Below wx.heap.size wx wz → wz.cell? ⟨w.heap.size, 3, none⟩ = some (.int .i64 B)) := fun wz hb => by
                have xs := box_cells (f := ⟨c_, r_, C, B, N, m_, j_, p_, l_, y_⟩) (HBx.out wz (HWx.out.trans (hb.mono HWx.out.size)))
                exact xs.2.2.2.1
              have HXy : Hid (Below wx.heap.size wx wy) := hxy
              generalize M.jsm B (X q) (M.lnR N B (X q) R) p = Y at *
              generalize M.jn B (M.allv B zss) = Z at *
              have hZl : Z.length = B := by rw [enc_length] at hjl; omega
              have HZl : Hid (Z.length = B) := hZl
              clear hd hdd hgb hrw hzss hzl hjn hJs hG hWy hbx hZl hxy
              have iT : (0 : Int) ≤ ((T0 + p : Nat) : Int) ∧ ((T0 + p : Nat) : Int) ≤ 48 := by omega
              have iT2 : ((T0 + p : Nat) : Int) < ((T0 + N : Nat) : Int) := by omega
              have hYL : Y.length + B ≤ 200 := by omega
              have HB2x : Hid (B2 ≤ wx.heap.size ∧ wx.heap.size ≤ B2) := by have := HB2.out; exact ⟨by omega, by omega⟩
              generalize hTPe : T0 + p = TP at *
              have HTP : Hid (T0 + p = TP) := hTPe
              have hw1 : IntKind.i64.wrap ((TP : Int) + 1) = (TP : Int) + 1 := wrapI _ (by omega) (by omega)
              have iD : (0 : Int) ≤ d ∧ (d : Int) ≤ (TP : Int) + 1 := by omega
              have iD2 : (TP : Int) + 1 ≤ bc := by omega
              clear hTPe
              go_wp2_with (refine wpList_max2 rfl (.tmp 48) (.const (.int .i64 0)) 3 rfl ((TP : Int) - 9) 0 d rfl rfl hmax.symm ?_)
              go_region_held3 (fun wx => wx.cell? ⟨w.heap.size, 3, none⟩ = some (.int .i64 (B : Int)))
                (first | exact C0.out | exact C1.out | exact C2.out)
                (first
                  | (go_at_call 94; refine (HJn.out _ (Poly.below_drew (Below.refl _ _))).mono ?_; clear HJn; rintro e w5 ⟨jb, jo, jc, rfl, hnw, b5⟩; have B5 : Hid (Below wy.heap.size wy w5) := ⟨b5.os, b5.tape, b5.output, b5.size, b5.block⟩; have HNw : Hid _ := hnw; have hown5 := (Gat_below HGt.out B5.out).1; have C1 : Hid (w5.cell? ⟨w.heap.size, 3, none⟩ = some (.int .i64 (B : Int))) := HBw2.out w5 (HXy.out.trans (B5.out.mono HXy.out.size)); have hsz5 : B2 ≤ w5.heap.size := Nat.le_trans HZB.out B5.out.size; clear hnw b5)
                  | (refine step_append_lies _ (by rfl) _ _ _ (by rfl) B2 182 i0 _ 1 2 Tryz.underlying55 hi0 hz0 hz1 hz2 rfl (by omega) _ Y.length (enc .i16 Y) (by rfl) hown5 ⟨jb, jo, none⟩ B jc (enc .i16 Z) (by rfl) hjl HNw.out hj1 hB4 (by unfold maxLen; omega) (by omega) hsz5 w5.heap.size rfl ?_; intro gg cap w8 hown8 hgrow8 hat8 hlt8; have R8 : Hid (Gat .i16 182 B2 (.slice (some ⟨gg, 0, none⟩) (Y.length + B) cap) (Y ++ Z) wx w8) := Gat_more (Gat_below HGt.out B5.out) HZl.out hown8 hgrow8; have C2 : Hid (w8.cell? ⟨w.heap.size, 3, none⟩ = some (.int .i64 (B : Int))) := HBw2.out w8 (R8.out.2.1.mono HB2x.out.2)))
              clear hown8 hgrow8 hat8 hlt8 hown5 hsz5 C0 C1 C2
              go_wp2
              go_roundw
              case rel => exact ⟨p + 1, by omega, by rw [← HTP.out]; go_num, by rw [HJs.out]; exact R8.out⟩
              case measure => simp [intOf]; omega
            · obtain rfl : p = N := by omega
              have hGY := hG
              have hYl : (M.jsm B (X q) (M.lnR p B (X q) R) p).length = NB := by rw [M.jsm_length]; exact HNB.out
              have hown := hG.1
              rw [hYl] at hown
              have hE : E1 .i16 182 NB (smR p B R X) q (.slice sa NB sc) wy := E1.of_own hown (by omega) fun j _ => rfl
              have hGn : Gn 55 B0 q (E1 .i16 182 NB (smR p B R X)) u5 W wy := HG.out.below K1.out (by
                have h1 : Below w1.heap.size w1 wx := HGb.out.bel.mono (by have := HGb.out.base; omega)
                exact h1.trans (hxy.mono h1.size))
              obtain ⟨⟨us, hown1, hE1⟩, hbl1, hbs1⟩ := hGn
              have HE1 : Hid (∀ i u, us[i]? = some u → E1 .i16 182 NB (smR p B R X) i u wy) := hE1
              have HBl1 : Hid (Below B0 W wy) := hbl1
              have HBs1 : Hid (W.heap.size = B0) := hbs1
              have HE : Hid (E1 .i16 182 NB (smR p B R X) q (.slice sa NB sc) wy) := hE
              have hs0 : B0 ≤ wy.heap.size := by have := hbl1.size; omega
              have hlp' : ¬ ((p : Int) < (p : Int)) := by omega
              have hpn : ¬ (((T0 + p : Nat) : Int) < ((T0 + p : Nat) : Int)) := by omega
              obtain ⟨ua, uc, rfl⟩ := Poly.own_form hown1
              rw [hYl]
              clear hGY hYl hown hE hE1 hbl1 hbs1 hG hxy hWy hbx
              go_wp2_with (at_builtin; refine wpList_append_own _ rfl (.tmp 60) (.tmp 62) 62 rfl B0 55 k0 (.slice none 0 0) 1 24 Tryz.underlying62 hk0 hx0 hx1 hx2 rfl (by decide) _ _ _ rfl (hown1.alloc _) ⟨_, 0, none⟩ 1 1 [.slice sa NB sc] rfl rfl (cell_one_new _ _ _) ?c2 ?c3 ?c4 ?c5 ?_)
              case c2 => first | rfl | (intro u hu; simp at hu; subst hu; rfl)
              case c3 => unfold maxLen; omega
              case c4 => omega
              case c5 => first | omega | (simp; omega)
              · intro v' w4 hown' hgrow _
                have R1 : Hid (Gn 55 B0 (q + 1) (E1 .i16 182 NB (smR p B R X)) v' W w4) := Gn.step hown1 HE1.out HBl1.out HBs1.out K1.out HE.out hown' hgrow
                clear hown' hgrow hown1
                go_wp2
                go_roundw
                case rel => exact ⟨q + 1, by omega, by go_num, R1.out⟩
                case measure => simp [intOf]; omega
    · obtain rfl : q = C := by omega
      obtain ⟨gp, gc, cur, rfl, _, _, hblk, _⟩ := hG.at (by omega)
      have hv2 := hG.v2 (by omega)
      obtain ⟨eb, eo, ec, he⟩ := V2.rows_at hv2
      have hHW : Below W.heap.size W w1 := hG.bel.mono (by omega)
      have HPt : Hid (∀ wz, Below w1.heap.size w1 wz → ∀ c, c < q → wz.cell? ⟨gp, c, none⟩ = some (.slice (some ⟨eb c, eo c, none⟩) NB (ec c)) ∧ ∀ j, j < NB → wz.cell? ⟨eb c, eo c + j, none⟩ = some (.int .i16 (smR N B R X c j))) := fun wz hb c hc => by
        obtain ⟨k1, k2, k3, k4⟩ := he c hc
        rw [Nat.zero_add] at k3
        exact ⟨(cell_keep (hb.block gp hblk.lt)).trans k3, fun j hj => (cell_keep (hb.block _ k1)).trans (k4 j hj)⟩
      obtain ⟨B3, hB3⟩ : ∃ B3, w1.heap.size = B3 := ⟨_, rfl⟩
      have H3 : Hid (Gat .i16 182 B3 (.slice none 0 0) ((List.range (q * 0)).map (wvR q N B R X)) w1 w1) := by have := Gat.nil .i16 182 w1; rwa [hB3] at this
      have HBx2 : Hid (∀ wz, Below w1.heap.size w1 wz → wz.cell? ⟨w.heap.size, 2, none⟩ = some (.int .i64 (q : Int))) := fun wz hb => by
        have xs := box_cells (f := ⟨c_, r_, q, B, N, m_, j_, p_, l_, y_⟩) (HBx.out wz (hHW.trans (hb.mono hHW.size)))
        exact xs.2.2.1
      have HFin : Hid (Below w.heap.size w w1) := HBel.out.trans (hHW.mono HWs.out)
      have hB3' : Hid (w1.heap.size = B3) := hB3
      have hws : w.heap.size ≤ w1.heap.size := HFin.out.size
      have q0 := HPt.out w1 (Below.refl _ _) 0 (by omega)
      have q00 := q0.1
      have hqq : ¬ ((q : Int) < (q : Int)) := by omega
      have qb : q ≤ 2 := by omega
      have HNBe := HNB
      clear hG hv2 he hHW hblk hbx HCell HAll HBx q0 K1 HT0 HT1 HNB
      go_wp2
      go_loopw [12, 13] (fun u i wz => ∃ p : Nat, p ≤ NB ∧ i = .int .i64 p ∧ Gat .i16 182 B3 u ((List.range (q * p)).map (wvR q N B R X)) w1 wz) (fun _ i _ => NB - (intOf i).toNat)
      case atStart => exact ⟨0, by omega, rfl, H3.out⟩
      case round =>
        clear H3 q00 x0 x1 x2 x3 x4 x5 x6 x7 x8 x9
        obtain ⟨wx, hwx⟩ : ∃ wx, wx = wr := ⟨_, rfl⟩
        subst hwx
        obtain ⟨p, hp, rfl, hG⟩ := hrel
        have hbl : Below w1.heap.size w1 wx := hG.2.1.mono (by have := hB3'.out; omega)
        have q00 := (HPt.out wx hbl 0 (by omega)).1
        by_cases hlp : p < NB
        · have hlp' : (p : Int) < NB := by omega
          have x2 := HBx2.out wx hbl
          have HG : Hid (Gat .i16 182 B3 u12 ((List.range (q * p + 0)).map (wvR q N B R X)) w1 wx) := hG
          clear hG hbl
          go_wp2
          go_loopw [12, 14] (fun u i wz => ∃ c : Nat, c ≤ q ∧ i = .int .i64 c ∧ Gat .i16 182 B3 u ((List.range (q * p + c)).map (wvR q N B R X)) w1 wz) (fun _ i _ => q - (intOf i).toNat)
          case atStart => exact ⟨0, by omega, rfl, HG.out⟩
          case round =>
            clear HG q00 x2
            obtain ⟨wy, hwy⟩ : ∃ wy, wy = wr := ⟨_, rfl⟩
            subst hwy
            obtain ⟨c, hc, rfl, hG⟩ := hrel
            have hbl : Below w1.heap.size w1 wy := hG.2.1.mono (by have := hB3'.out; omega)
            have x2 := HBx2.out wy hbl
            by_cases hlc : c < q
            · have hlc' : (c : Int) < q := by omega
              obtain ⟨q1, q2⟩ := HPt.out wy hbl c hlc
              have q3 := q2 p hlp
              have HSt : Hid (∀ y, smR N B R X c p = y → (List.range (q * p + (c + 1))).map (wvR q N B R X) = (List.range (q * p + c)).map (wvR q N B R X) ++ [y]) := fun y h => by
                rw [show q * p + (c + 1) = q * p + c + 1 from rfl, List.range_succ, List.map_append]
                show _ ++ [wvR q N B R X (q * p + c)] = _
                rw [wvR_at hlc, h]
              have hlen : ((List.range (q * p + c)).map (wvR q N B R X)).length ≤ 300 := by
                simp
                have := Nat.mul_le_mul qb (show p ≤ 128 by omega)
                omega
              obtain ⟨y, hy⟩ : ∃ y, smR N B R X c p = y := ⟨_, rfl⟩
              have HSt2 : Hid _ := HSt.out y hy
              have hyb := smR_bd N B R X c p
              rw [hy] at q3 hyb
              have hown := hG.1
              have hsz := hG.size
              have HG : Hid (Gat .i16 182 B3 _ ((List.range (q * p + c)).map (wvR q N B R X)) w1 wy) := hG
              obtain ⟨ya, yc, rfl⟩ := hG.form
              clear hG hbl q2 HSt hy
              generalize (List.range (q * p + c)).map (wvR q N B R X) = YS at *
              go_wp2_with (at_builtin; refine wpList_append_own _ rfl (.tmp 78) (.tmp 86) 55 rfl B3 182 i0 (.int .i16 0) 1 2 Tryz.underlying55 hi0 hz0 hz1 hz2 rfl (by decide) _ _ _ rfl (hown.alloc _) ⟨_, 0, none⟩ 1 1 [.int .i16 y] rfl rfl (cell_one_new _ _ _) ?c2 ?c3 ?c4 ?c5 ?_)
              case c2 => intro u hu; simp at hu; subst hu; rfl
              case c3 => unfold maxLen; omega
              case c4 => omega
              case c5 => simp; omega
              · intro v' w4 hown' hgrow _
                have R1 : Hid (Gat .i16 182 B3 v' (YS ++ [y]) w1 w4) := Gat.step HG.out hown' hgrow
                clear hown' hgrow hown
                go_wp2
                go_roundw
                case rel => exact ⟨c + 1, by omega, by go_num, by rw [HSt2.out]; exact R1.out⟩
                case measure => simp [intOf]; omega
            · obtain rfl : c = q := by omega
              have R1 : Hid (Gat .i16 182 B3 u12 ((List.range (c * (p + 1))).map (wvR c N B R X)) w1 wy) := by rw [Nat.mul_succ]; exact hG
              clear hG hbl
              go_wp2
              go_roundw
              case rel => exact ⟨p + 1, by omega, by go_num, R1.out⟩
              case measure => simp [intOf]; omega
        · obtain rfl : p = NB := by omega
          have hpp : ¬ ((p : Int) < (p : Int)) := by omega
          have hr := hG.reads (Poly.fit16.2 (wvR_fits _ _ _ _ _ _))
          rw [← HNBe.out, wvR_wov q N B R X (by omega)] at hr
          have HR : Hid (Reads .i16 B3 wx.heap.size wx u12 (M.wov q (N * B) ((List.range q).map fun c => M.jsm B (X c) (M.lnR N B (X c) R) N))) := hr
          have HB : Hid (Below w.heap.size w wx) := HFin.out.trans (hbl.mono hws)
          have HBs : Hid (w.heap.size ≤ B3) := by have := hB3'.out; show _ ≤ _; omega
          clear hG hbl hr
          go_wp2
          go_ret
          exact ⟨_, rfl, HB.out, HR.out.mono HBs.out (Nat.le_refl _)⟩

end Sub
end Go.Proofs.YtcaifpjbjghhaaaGreatDoor

