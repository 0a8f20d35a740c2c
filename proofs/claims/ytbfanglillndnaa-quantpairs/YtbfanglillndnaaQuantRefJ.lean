/-
  The document's answer: which bands are better joined; which planes fit. Conditions: as told at each.
-/
import Derived.Test.YtbfanglillndnaaQuantRefM
import Derived.Test.YtbfanglillndnaaQuantRefS
import Derived.Test.YtbfanglillndnaaQuantJoins
import Derived.Deep.AppendLies
import Derived.Deep.RegionLaw
namespace Go.Proofs.Ytbfanglillndnaa
set_option linter.unusedVariables false
open Go.RowKit
namespace Qnt
open Bank (Blk But)
open Poly (cell_keep alloc_size)

theorem wrap_id (n : Int) (h0 : -9223372036854775808 ≤ n) (h1 : n ≤ 9223372036854775807) : IntKind.i64.wrap n = n := by rw [IntKind.wrap_i64]; omega
/-- a list of values that is gathered, in blocks from B on -/
def GatV (t : TypeId) (B : Nat) (v : Value) (xs : List Value) (w wr : World) : Prop := wr.ownsRow B t 1 v xs.length xs ∧ Below B w wr ∧ w.heap.size = B
theorem GatV.drewN {t : TypeId} {B : Nat} {v : Value} {xs : List Value} {w wr : World} (h : GatV t B v xs w wr) (n : Nat) : GatV t B v xs w (wr.drewN n) := ⟨h.1, ⟨h.2.1.os, h.2.1.tape, h.2.1.output, h.2.1.size, h.2.1.block⟩, h.2.2⟩
theorem GatV.nil (t : TypeId) (w : World) : GatV t w.heap.size (.slice none 0 0) [] w w := ⟨World.ownsRow_nil _ _ _ _, Below.refl _ _, rfl⟩
theorem GatV.size {t : TypeId} {B : Nat} {v : Value} {xs : List Value} {w wr : World} (h : GatV t B v xs w wr) : B ≤ wr.heap.size := by have := h.2.1.size; have := h.2.2; omega
theorem GatV.step {t : TypeId} {B : Nat} {v v' : Value} {xs : List Value} {w wr w1 : World} {c : Array Value} {ty : TypeId} {x : Value} (h : GatV t B v xs w wr)
    (hown : w1.ownsRow B t 1 v' (xs.length + 1) (xs ++ [x])) (hg : (wr.alloc (.cells c ty)).grownBy w1 v.ownBlock) : GatV t B v' (xs ++ [x]) w w1 := by
  refine ⟨by rw [List.length_append]; exact hown, ?_, h.2.2⟩
  have hs := h.size
  exact (h.2.1.alloc hs _).grown hg (by simp; omega) (fun j hj => (h.1.lt j hj).1)
/-- an answer that tells values -/
def LstV (N : Nat) (V : Nat → Value) (v : Value) (w : World) : Prop := ∃ b off c, v = .slice (some ⟨b, off, none⟩) N c ∧ b < w.heap.size ∧ ∀ j, j < N → w.cell? ⟨b, off + j, none⟩ = some (V j)
theorem GatV.lst {t : TypeId} {B C : Nat} {v : Value} {V : Nat → Value} {w wr : World} (h : GatV t B v ((List.range C).map V) w wr) (c1 : 1 ≤ C) : LstV C V v wr := by
  have h1 := h.1
  simp only [List.length_map, List.length_range] at h1
  rcases id h1.2 with ⟨_, h0⟩ | ⟨g, cap, cur, rfl, _, hh, _⟩
  · omega
  · refine ⟨g, 0, cap, rfl, (Array.getElem?_eq_some_iff.1 hh).1, fun j hj => ?_⟩
    have := h1.cells (g := g) rfl j (V j) (by simp [hj])
    rw [Poly.add_at] at this
    rw [Nat.zero_add]; exact this
theorem rngV_snoc (V : Nat → Value) (k : Nat) {y : Value} (h : V k = y) : (List.range (k + 1)).map V = (List.range k).map V ++ [y] := by
  rw [List.range_succ, List.map_append, ← h]; rfl

/-- what a list of scales holds in every world that keeps what was there -/
theorem Lst.all {W w' : World} {N : Nat} {G : Nat → Int} {v : Value} (h : Lst W N G v w') : ∃ b off c, v = .slice (some ⟨b, off, none⟩) N c ∧ b < w'.heap.size ∧ ∀ wx B, Below B w' wx → w'.heap.size ≤ B → ∀ j, j < N → wx.cell? ⟨b, off + j, none⟩ = some (.int .i64 (G j)) := by
  obtain ⟨b, off, c, rfl, _, hb, hx⟩ := h
  exact ⟨b, off, c, rfl, hb, fun wx B hw hB j hj => (cell_keep (hw.block b (by omega))).trans (hx j hj)⟩

set_option maxHeartbeats 8000000 in
set_option maxRecDepth 100000 in
theorem rJoins_any (hi : Nat) (va vb : Value) (n C : Nat) (F G : Nat → Nat → Int) (w : World) (ha : Vw hi va n C F w) (hb : Vw hi vb n C G w) (hF : F32 F) (hG : F32 G) (n1 : 1 ≤ n) (n40 : n ≤ 40) (c1 : 1 ≤ C) (c8 : C ≤ 8) (hh : hi ≤ w.heap.size) :
    Calls Try.prog 25 #[va, vb] w fun e w' => ∃ u, e = .returned u ∧ Below w.heap.size w w' ∧
      LstV C (fun b => .bool (M.jb (M.tg F G n) (M.tg (fun i b => M.hs (F i b) (G i b)) (fun i b => M.hd (F i b) (G i b)) n) C b)) u w' := by
  obtain ⟨i0, hi0, hz0, hz1, hz2⟩ := info_parts infoQB
  have h1 := rMiddle_any hi va vb n C F G w ha hb hF hG n1 n40 c1 c8 hh
  have hsc : ∀ hj v H wx, Vw hj v n C H wx → F32 H → hj ≤ wx.heap.size → Calls Try.prog 18 #[v] wx fun e w' => ∃ u, e = .returned u ∧ Lst wx C (M.scl H n) u w' ∧ Below wx.heap.size wx w' :=
    fun hj v H wx hv hH hle => rScales_any hj v n C H wx hv hH n1 n40 c1 c8 hle
  have HV : Hid (∀ wx, Below w.heap.size w wx → Vw hi va n C F wx ∧ Vw hi vb n C G wx ∧ hi ≤ wx.heap.size) := fun wx hbw => ⟨ha.below hbw hh, hb.below hbw hh, by have := hbw.size; omega⟩
  have HF : Hid (F32 F) := hF
  have HG : Hid (F32 G) := hG
  have HMf : Hid (F32 (fun i b => M.hs (F i b) (G i b))) := fun i b => M.hs_bd (hF i b) (hG i b)
  have HDf : Hid (F32 (fun i b => M.hd (F i b) (G i b))) := fun i b => M.hd_bd (hF i b) (hG i b)
  obtain ⟨MF, hMF⟩ : ∃ MF : Nat → Nat → Int, MF = fun i b => M.hs (F i b) (G i b) := ⟨_, rfl⟩
  obtain ⟨DF, hDF⟩ : ∃ DF : Nat → Nat → Int, DF = fun i b => M.hd (F i b) (G i b) := ⟨_, rfl⟩
  rw [← hMF, ← hDF] at h1
  rw [← hMF] at HMf
  rw [← hDF] at HDf
  rw [← hMF, ← hDF]
  have HT1 : Hid (∀ b, M.tg F G n b = M.scl F n b + M.scl G n b) := fun b => rfl
  have HT2 : Hid (∀ b, M.tg MF DF n b = M.scl MF n b + M.scl DF n b) := fun b => rfl
  have HB1 : Hid (∀ b, 0 ≤ M.scl F n b ∧ M.scl F n b ≤ 15) := M.scl_bd F n
  have HB2 : Hid (∀ b, 0 ≤ M.scl G n b ∧ M.scl G n b ≤ 15) := M.scl_bd G n
  have HB3 : Hid (∀ b, 0 ≤ M.scl MF n b ∧ M.scl MF n b ≤ 15) := M.scl_bd MF n
  have HB4 : Hid (∀ b, 0 ≤ M.scl DF n b ∧ M.scl DF n b ≤ 15) := M.scl_bd DF n
  obtain ⟨ba0, oa0, ca, rfl⟩ := ha.form
  obtain ⟨bb0, ob0, cb, rfl⟩ := hb.form
  have HSc : Hid _ := hsc
  have c1' : (1 : Int) ≤ C := by omega
  have c8' : (C : Int) ≤ 8 := by omega
  clear ha hb hF hG hsc hMF hDF
  generalize M.tg F G n = T at *
  generalize M.tg MF DF n = T2 at *
  go_enter Try.func25, Try.ntmps25
  go_upto_region 3 with (first
    | (go_at_call 23; refine h1.mono ?_; rintro e w2 ⟨u1, u2, rfl, b2, m2, d2⟩; obtain ⟨bm, om, cm, rfl⟩ := m2.form; obtain ⟨bd, od, cd, rfl⟩ := d2.form; have B2 : Hid (Below w.heap.size w w2) := b2; have V2 : Hid (∀ wx, Below w2.heap.size w2 wx → Vw w2.heap.size (.slice (some ⟨bm, om, none⟩) n cm) n C MF wx ∧ Vw w2.heap.size (.slice (some ⟨bd, od, none⟩) n cd) n C DF wx ∧ w2.heap.size ≤ wx.heap.size) := (fun wx hb => ⟨m2.below hb (Nat.le_refl _), d2.below hb (Nat.le_refl _), hb.size⟩); clear b2 m2 d2 h1)
    | (go_at_call_of 18 ca; refine (HSc.out hi _ F w2 (HV.out _ B2.out).1 HF.out (HV.out _ B2.out).2.2).mono ?_; rintro e w3 ⟨u3, rfl, l3, b3⟩; obtain ⟨g3, o3, c3, rfl, lt3, x3⟩ := l3.all; have L3 : Hid _ := x3; have G3 : Hid (g3 < w3.heap.size) := lt3; have B3 : Hid (Below w2.heap.size w2 w3) := b3; clear l3 x3 lt3 b3)
    | (go_at_call_of 18 cb; refine (HSc.out hi _ G w3 (HV.out _ (B2.out.trans (B3.out.mono B2.out.size))).2.1 HG.out (HV.out _ (B2.out.trans (B3.out.mono B2.out.size))).2.2).mono ?_; rintro e w4 ⟨u4, rfl, l4, b4⟩; obtain ⟨g4, o4, c4, rfl, lt4, x4⟩ := l4.all; have L4 : Hid _ := x4; have G4 : Hid (g4 < w4.heap.size) := lt4; have B4 : Hid (Below w3.heap.size w3 w4) := b4; clear l4 x4 lt4 b4)
    | (go_at_call_of 18 cm; refine (HSc.out _ _ MF w4 (V2.out _ (B3.out.trans (B4.out.mono B3.out.size))).1 HMf.out (V2.out _ (B3.out.trans (B4.out.mono B3.out.size))).2.2).mono ?_; rintro e w5 ⟨u5, rfl, l5, b5⟩; obtain ⟨g5, o5, c5, rfl, lt5, x5⟩ := l5.all; have L5 : Hid _ := x5; have G5 : Hid (g5 < w5.heap.size) := lt5; have B5 : Hid (Below w4.heap.size w4 w5) := b5; clear l5 x5 lt5 b5)
    | (go_at_call_of 18 cd; refine (HSc.out _ _ DF w5 (V2.out _ ((B3.out.trans (B4.out.mono B3.out.size)).trans (B5.out.mono (Nat.le_trans B3.out.size B4.out.size)))).2.1 HDf.out (V2.out _ ((B3.out.trans (B4.out.mono B3.out.size)).trans (B5.out.mono (Nat.le_trans B3.out.size B4.out.size)))).2.2).mono ?_; rintro e w6 ⟨u6, rfl, l6, b6⟩; obtain ⟨g6, o6, c6, rfl, lt6, x6⟩ := l6.all; have L6 : Hid _ := x6; have G6 : Hid (g6 < w6.heap.size) := lt6; have B6 : Hid (Below w5.heap.size w5 w6) := b6; clear l6 x6 lt6 b6))
  have HLs : Hid (∀ wx, Below w6.heap.size w6 wx → ∀ j, j < C → wx.cell? ⟨g3, o3 + j, none⟩ = some (.int .i64 (M.scl F n j)) ∧ wx.cell? ⟨g4, o4 + j, none⟩ = some (.int .i64 (M.scl G n j)) ∧ wx.cell? ⟨g5, o5 + j, none⟩ = some (.int .i64 (M.scl MF n j)) ∧ wx.cell? ⟨g6, o6 + j, none⟩ = some (.int .i64 (M.scl DF n j))) := by
    intro wx hb j hj
    have s4 := B4.out.size
    have s5 := B5.out.size
    have s6 := B6.out.size
    have k6 : Below w5.heap.size w5 wx := B6.out.trans (hb.mono s6)
    have k5 : Below w4.heap.size w4 wx := B5.out.trans (k6.mono s5)
    have k4 : Below w3.heap.size w3 wx := B4.out.trans (k5.mono s4)
    exact ⟨L3.out wx _ k4 (Nat.le_refl _) j hj, L4.out wx _ k5 (Nat.le_refl _) j hj, L5.out wx _ k6 (Nat.le_refl _) j hj, L6.out wx _ hb (Nat.le_refl _) j hj⟩
  have HGl : Hid (g3 < w6.heap.size ∧ g4 < w6.heap.size ∧ g5 < w6.heap.size ∧ g6 < w6.heap.size) := by
    have s4 := B4.out.size
    have s5 := B5.out.size
    have s6 := B6.out.size
    have h3 := G3.out
    have h4 := G4.out
    have h5 := G5.out
    have h6 := G6.out
    exact ⟨by omega, by omega, by omega, by omega⟩
  have HBe : Hid (Below w.heap.size w w6) := by
    have s2 := B2.out.size
    have s3 := B3.out.size
    have s4 := B4.out.size
    have s5 := B5.out.size
    exact B2.out.trans ((B3.out.mono s2).trans ((B4.out.mono (Nat.le_trans s2 s3)).trans ((B5.out.mono (Nat.le_trans s2 (Nat.le_trans s3 s4))).trans (B6.out.mono (Nat.le_trans s2 (Nat.le_trans s3 (Nat.le_trans s4 s5)))))))
  have H0 : Hid (GatV 4 w6.heap.size (.slice none 0 0) ((List.range 0).map fun b => Value.bool (M.jb T T2 C b)) w6 w6) := GatV.nil _ _
  clear B2 B3 B4 B5 B6 L3 L4 L5 L6 G3 G4 G5 G6 V2 HV HSc HF HG HMf HDf
  generalize M.scl F n = P3 at *
  generalize M.scl G n = P4 at *
  generalize M.scl MF n = P5 at *
  generalize M.scl DF n = P6 at *
  go_wp2
  go_loopw [11, 12] (fun u i wr => ∃ k : Nat, k ≤ C ∧ i = .int .i64 k ∧ GatV 4 w6.heap.size u ((List.range k).map fun b => Value.bool (M.jb T T2 C b)) w6 wr) (fun _ i _ => C - (intOf i).toNat)
  case atStart => exact ⟨0, by omega, rfl, H0.out⟩
  case round =>
    clear H0
    obtain ⟨k, hk, rfl, hG⟩ := hrel
    by_cases hkl : k < C
    · have hkl' : (k : Int) < C := by omega
      have xs := HLs.out wr hG.2.1 k hkl
      have HXs : Hid _ := xs
      clear xs
      have hsz := hG.size
      have hown := hG.1
      have HLk : Hid (∀ wx, Below w6.heap.size w6 wx → wx.cell? ⟨g3, o3 + k, none⟩ = some (.int .i64 (P3 k)) ∧ wx.cell? ⟨g4, o4 + k, none⟩ = some (.int .i64 (P4 k)) ∧ wx.cell? ⟨g5, o5 + k, none⟩ = some (.int .i64 (P5 k)) ∧ wx.cell? ⟨g6, o6 + k, none⟩ = some (.int .i64 (P6 k))) := fun wx hb => HLs.out wx hb k hkl
      have HKA : Hid (∀ o, (wr.alloc o).cell? ⟨g3, o3 + k, none⟩ = some (.int .i64 (P3 k)) ∧ (wr.alloc o).cell? ⟨g4, o4 + k, none⟩ = some (.int .i64 (P4 k)) ∧ (wr.alloc o).cell? ⟨g5, o5 + k, none⟩ = some (.int .i64 (P5 k)) ∧ (wr.alloc o).cell? ⟨g6, o6 + k, none⟩ = some (.int .i64 (P6 k))) := fun o => HLs.out _ (hG.2.1.alloc hsz o) k hkl
      have HG : Hid (GatV 4 w6.heap.size u11 ((List.range k).map fun b => Value.bool (M.jb T T2 C b)) w6 wr) := hG
      have hlen : ((List.range k).map fun b => Value.bool (M.jb T T2 C b)).length ≤ 8 := by simp; omega
      have HSt : Hid (∀ y, Value.bool (M.jb T T2 C k) = y → (List.range (k + 1)).map (fun b => Value.bool (M.jb T T2 C b)) = ((List.range k).map fun b => Value.bool (M.jb T T2 C b)) ++ [y]) := fun y h => rngV_snoc _ k h
      have t1 := HT1.out k
      have t2 := HT2.out k
      obtain ⟨p31, p32⟩ := HB1.out k
      obtain ⟨p41, p42⟩ := HB2.out k
      obtain ⟨p51, p52⟩ := HB3.out k
      obtain ⟨p61, p62⟩ := HB4.out k
      by_cases hl2 : k + 1 < C
      · have hl2' : decide ((k : Int) + 1 < C) = true := by simp; omega
        have hl3 : (k : Int) + 1 < C := by omega
        have HE : Hid (Value.bool (M.jb T T2 C k) = Value.bool (decide (P5 k + P6 k < P3 k + P4 k))) := by
          show _ = _
          unfold M.jb
          rw [decide_eq_true hl2, Bool.true_and, t1, t2]
        have HSt2 : Hid _ := HSt.out _ HE.out
        clear hG t1 t2 HSt
        generalize (List.range k).map (fun b => Value.bool (M.jb T T2 C b)) = YS at *
        generalize P3 k = p3 at *
        generalize P4 k = p4 at *
        generalize P5 k = p5 at *
        generalize P6 k = p6 at *
        have hw1 : IntKind.i64.wrap ((k : Int) + 1) = (k : Int) + 1 := wrap_id _ (by omega) (by omega)
        have hw2 : IntKind.i64.wrap (p5 + p6) = p5 + p6 := wrap_id _ (by omega) (by omega)
        have hw3 : IntKind.i64.wrap (p3 + p4) = p3 + p4 := wrap_id _ (by omega) (by omega)
        have hxs := HXs.out
        obtain ⟨x3, x4, x5, x6⟩ := hxs
        go_wp2
        go_region_held3 (fun wx => wx.cell? ⟨g3, o3 + k, none⟩ = some (.int .i64 p3) ∧ wx.cell? ⟨g4, o4 + k, none⟩ = some (.int .i64 p4) ∧ wx.cell? ⟨g5, o5 + k, none⟩ = some (.int .i64 p5) ∧ wx.cell? ⟨g6, o6 + k, none⟩ = some (.int .i64 p6))
          (first | exact HXs.out | exact HKA.out _ | exact ys)
          (first
            | (refine step_append_lies _ (by rfl) _ _ _ (by rfl) w6.heap.size 4 i0 _ 1 1 Try.underlying43 hi0 hz0 hz1 hz2 rfl (by omega) _ YS.length YS (by rfl) ((hown.alloc _).drew) ⟨wr.heap.size, 0, none⟩ 1 1 [.bool (decide (p5 + p6 < p3 + p4))] (by rfl) (by rfl) (World.news_of_block (cs := #[.bool (decide (p5 + p6 < p3 + p4))]) (t := 4) (fr := (0, 0)) (heap_alloc_new wr _)) (by simp [Value.oneCell']) (by omega) (by unfold maxLen; omega) (by omega) (by simp; omega) (wr.heap.size + 1) (by simp) ?_; intro gg cap w8 hown8 hgrow8 hat hlt8; have HR1 : Hid (GatV 4 w6.heap.size (.slice (some ⟨gg, 0, none⟩) (YS.length + 1) cap) (YS ++ [.bool (decide (p5 + p6 < p3 + p4))]) w6 w8) := (HG.out.step (c := #[.bool (decide (p5 + p6 < p3 + p4))]) (ty := 4) hown8 ⟨hgrow8.os, hgrow8.tape, hgrow8.output, hgrow8.size, hgrow8.block⟩); have ys := HLk.out w8 HR1.out.2.1))
        clear hown8 hgrow8 hat hlt8 ys hown hsz
        go_wp2
        go_roundw
        case rel => exact ⟨k + 1, by omega, by go_num, by rw [HSt2.out]; exact HR1.out⟩
        case measure => simp [intOf]; omega
      · have hl2' : decide ((k : Int) + 1 < C) = false := by simp; omega
        have hl3 : ¬ (k : Int) + 1 < C := by omega
        have HE : Hid (Value.bool (M.jb T T2 C k) = Value.bool false) := by
          show _ = _
          unfold M.jb
          rw [decide_eq_false hl2, Bool.false_and]
        have HSt2 : Hid _ := HSt.out _ HE.out
        clear hG t1 t2 HSt HKA HLk HXs
        generalize (List.range k).map (fun b => Value.bool (M.jb T T2 C b)) = YS at *
        have hw1 : IntKind.i64.wrap ((k : Int) + 1) = (k : Int) + 1 := wrap_id _ (by omega) (by omega)
        go_wp2
        refine wp_region_held_drew (S := fun _ => True) (by kernel_rfl) trivial (fun _ => ?_)
        refine wpAnyH_take (i := 0) (oi := ⟨some 33, _, _, _, _, _⟩) (v := ?_) rfl (by kernel_rfl) (by kernel_rfl) (by kernel_rfl) (fun _ _ _ h => h) (Or.inl ⟨by rfl, ?_⟩) trivial ?_
        rotate_left
        · intro _ _; go_simp; try with_reducible rfl
        simp only [Act.put, List.setIfInBounds_toArray, List.set_cons_zero, List.set_cons_succ]
        refine wpAnyH_take (i := 1) (oi := ⟨some 34, _, _, _, _, _⟩) (v := ?_) rfl (by kernel_rfl) (by kernel_rfl) (by kernel_rfl) (fun _ _ _ h => h) (Or.inl ⟨by rfl, ?_⟩) trivial ?_
        rotate_left
        · intro _ _; go_simp; try with_reducible rfl
        simp only [Act.put, List.setIfInBounds_toArray, List.set_cons_zero, List.set_cons_succ]
        refine wpAnyH_take (i := 2) (oi := ⟨some 35, _, _, _, _, _⟩) (v := ?_) rfl (by kernel_rfl) (by kernel_rfl) (by kernel_rfl) (fun _ _ _ h => h) (Or.inl ⟨by rfl, ?_⟩) trivial ?_
        rotate_left
        · intro _ _; go_simp; try with_reducible rfl
        simp only [Act.put, List.setIfInBounds_toArray, List.set_cons_zero, List.set_cons_succ]
        refine wpAnyH_take (i := 3) (oi := ⟨some 36, _, _, _, _, _⟩) (v := ?_) rfl (by kernel_rfl) (by kernel_rfl) (by kernel_rfl) (fun _ _ _ h => h) (Or.inl ⟨by rfl, ?_⟩) trivial ?_
        rotate_left
        · intro _ _; go_simp; try with_reducible rfl
        simp only [Act.put, List.setIfInBounds_toArray, List.set_cons_zero, List.set_cons_succ]
        refine wpAnyH_take (i := 4) (oi := ⟨some 37, _, _, _, _, _⟩) (v := ?_) rfl (by kernel_rfl) (by kernel_rfl) (by kernel_rfl) (fun _ _ _ h => h) (Or.inl ⟨by rfl, ?_⟩) trivial ?_
        rotate_left
        · intro _ _; go_simp; try with_reducible rfl
        simp only [Act.put, List.setIfInBounds_toArray, List.set_cons_zero, List.set_cons_succ]
        refine wpAnyH_take (i := 5) (oi := ⟨some 38, _, _, _, _, _⟩) (v := ?_) rfl (by kernel_rfl) (by kernel_rfl) (by kernel_rfl) (fun _ _ _ h => h) (Or.inl ⟨by rfl, ?_⟩) trivial ?_
        rotate_left
        · intro _ _; go_simp; try with_reducible rfl
        simp only [Act.put, List.setIfInBounds_toArray, List.set_cons_zero, List.set_cons_succ]
        refine wpAnyH_take (i := 6) (oi := ⟨some 39, _, _, _, _, _⟩) (v := ?_) rfl (by kernel_rfl) (by kernel_rfl) (by kernel_rfl) (fun _ _ _ h => h) (Or.inl ⟨by rfl, ?_⟩) trivial ?_
        rotate_left
        · intro _ _; go_simp; try with_reducible rfl
        simp only [Act.put, List.setIfInBounds_toArray, List.set_cons_zero, List.set_cons_succ]
        refine wpAnyH_take (i := 7) (oi := ⟨some 40, _, _, _, _, _⟩) (v := undef) rfl (by kernel_rfl) (by kernel_rfl) (by kernel_rfl) (fun _ _ _ h => h) (Or.inr ⟨by rfl, rfl⟩) trivial ?_
        simp only [Act.put, List.setIfInBounds_toArray, List.set_cons_zero, List.set_cons_succ]
        refine wpAnyH_take (i := 8) (oi := ⟨some 41, _, _, _, _, _⟩) (v := undef) rfl (by kernel_rfl) (by kernel_rfl) (by kernel_rfl) (fun _ _ _ h => h) (Or.inr ⟨by rfl, rfl⟩) trivial ?_
        simp only [Act.put, List.setIfInBounds_toArray, List.set_cons_zero, List.set_cons_succ]
        refine wpAnyH_take (i := 9) (oi := ⟨some 42, _, _, _, _, _⟩) (v := undef) rfl (by kernel_rfl) (by kernel_rfl) (by kernel_rfl) (fun _ _ _ h => h) (Or.inr ⟨by rfl, rfl⟩) trivial ?_
        simp only [Act.put, List.setIfInBounds_toArray, List.set_cons_zero, List.set_cons_succ]
        refine wpAnyH_take (i := 10) (oi := ⟨some 43, _, _, _, _, _⟩) (v := undef) rfl (by kernel_rfl) (by kernel_rfl) (by kernel_rfl) (fun _ _ _ h => h) (Or.inr ⟨by rfl, rfl⟩) trivial ?_
        simp only [Act.put, List.setIfInBounds_toArray, List.set_cons_zero, List.set_cons_succ]
        refine wpAnyH_take (i := 11) (oi := ⟨some 44, _, _, _, _, _⟩) (v := undef) rfl (by kernel_rfl) (by kernel_rfl) (by kernel_rfl) (fun _ _ _ h => h) (Or.inr ⟨by rfl, rfl⟩) trivial ?_
        simp only [Act.put, List.setIfInBounds_toArray, List.set_cons_zero, List.set_cons_succ]
        refine wpAnyH_take (i := 12) (oi := ⟨some 45, _, _, _, _, _⟩) (v := undef) rfl (by kernel_rfl) (by kernel_rfl) (by kernel_rfl) (fun _ _ _ h => h) (Or.inr ⟨by rfl, rfl⟩) trivial ?_
        simp only [Act.put, List.setIfInBounds_toArray, List.set_cons_zero, List.set_cons_succ]
        refine wpAnyH_take (i := 13) (oi := ⟨some 46, _, _, _, _, _⟩) (v := undef) rfl (by kernel_rfl) (by kernel_rfl) (by kernel_rfl) (fun _ _ _ h => h) (Or.inr ⟨by rfl, rfl⟩) trivial ?_
        simp only [Act.put, List.setIfInBounds_toArray, List.set_cons_zero, List.set_cons_succ]
        refine wpAnyH_take (i := 14) (oi := ⟨some 47, _, _, _, _, _⟩) (v := undef) rfl (by kernel_rfl) (by kernel_rfl) (by kernel_rfl) (fun _ _ _ h => h) (Or.inr ⟨by rfl, rfl⟩) trivial ?_
        simp only [Act.put, List.setIfInBounds_toArray, List.set_cons_zero, List.set_cons_succ]
        refine wpAnyH_take (i := 15) (oi := ⟨some 48, _, _, _, _, _⟩) (v := undef) rfl (by kernel_rfl) (by kernel_rfl) (by kernel_rfl) (fun _ _ _ h => h) (Or.inr ⟨by rfl, rfl⟩) trivial ?_
        simp only [Act.put, List.setIfInBounds_toArray, List.set_cons_zero, List.set_cons_succ]
        refine wpAnyH_take (i := 16) (oi := ⟨some 49, _, _, _, _, _⟩) (v := undef) rfl (by kernel_rfl) (by kernel_rfl) (by kernel_rfl) (fun _ _ _ h => h) (Or.inr ⟨by rfl, rfl⟩) trivial ?_
        simp only [Act.put, List.setIfInBounds_toArray, List.set_cons_zero, List.set_cons_succ]
        refine wpAnyH_take (i := 17) (oi := ⟨some 50, _, _, _, _, _⟩) (v := undef) rfl (by kernel_rfl) (by kernel_rfl) (by kernel_rfl) (fun _ _ _ h => h) (Or.inr ⟨by rfl, rfl⟩) trivial ?_
        simp only [Act.put, List.setIfInBounds_toArray, List.set_cons_zero, List.set_cons_succ]
        refine wpAnyH_take (i := 18) (oi := ⟨some 51, _, _, _, _, _⟩) (v := undef) rfl (by kernel_rfl) (by kernel_rfl) (by kernel_rfl) (fun _ _ _ h => h) (Or.inr ⟨by rfl, rfl⟩) trivial ?_
        simp only [Act.put, List.setIfInBounds_toArray, List.set_cons_zero, List.set_cons_succ]
        refine wpAnyH_take (i := 19) (oi := ⟨some 52, _, _, _, _, _⟩) (v := undef) rfl (by kernel_rfl) (by kernel_rfl) (by kernel_rfl) (fun _ _ _ h => h) (Or.inr ⟨by rfl, rfl⟩) trivial ?_
        simp only [Act.put, List.setIfInBounds_toArray, List.set_cons_zero, List.set_cons_succ]
        refine wpAnyH_take (i := 20) (oi := ⟨some 53, _, _, _, _, _⟩) (v := undef) rfl (by kernel_rfl) (by kernel_rfl) (by kernel_rfl) (fun _ _ _ h => h) (Or.inr ⟨by rfl, rfl⟩) trivial ?_
        simp only [Act.put, List.setIfInBounds_toArray, List.set_cons_zero, List.set_cons_succ]
        refine wpAnyH_take (i := 21) (oi := ⟨some 54, _, _, _, _, _⟩) (v := undef) rfl (by kernel_rfl) (by kernel_rfl) (by kernel_rfl) (fun _ _ _ h => h) (Or.inr ⟨by rfl, rfl⟩) trivial ?_
        simp only [Act.put, List.setIfInBounds_toArray, List.set_cons_zero, List.set_cons_succ]
        refine wpAnyH_take (i := 22) (oi := ⟨some 55, _, _, _, _, _⟩) (v := undef) rfl (by kernel_rfl) (by kernel_rfl) (by kernel_rfl) (fun _ _ _ h => h) (Or.inr ⟨by rfl, rfl⟩) trivial ?_
        simp only [Act.put, List.setIfInBounds_toArray, List.set_cons_zero, List.set_cons_succ]
        refine wpAnyH_take (i := 23) (oi := ⟨some 56, _, _, _, _, _⟩) (v := undef) rfl (by kernel_rfl) (by kernel_rfl) (by kernel_rfl) (fun _ _ _ h => h) (Or.inr ⟨by rfl, rfl⟩) trivial ?_
        simp only [Act.put, List.setIfInBounds_toArray, List.set_cons_zero, List.set_cons_succ]
        refine wpAnyH_take (i := 24) (oi := ⟨some 57, _, _, _, _, _⟩) (v := undef) rfl (by kernel_rfl) (by kernel_rfl) (by kernel_rfl) (fun _ _ _ h => h) (Or.inr ⟨by rfl, rfl⟩) trivial ?_
        simp only [Act.put, List.setIfInBounds_toArray, List.set_cons_zero, List.set_cons_succ]
        refine wpAnyH_take (i := 25) (oi := ⟨some 58, _, _, _, _, _⟩) (v := undef) rfl (by kernel_rfl) (by kernel_rfl) (by kernel_rfl) (fun _ _ _ h => h) (Or.inr ⟨by rfl, rfl⟩) trivial ?_
        simp only [Act.put, List.setIfInBounds_toArray, List.set_cons_zero, List.set_cons_succ]
        refine wpAnyH_take (i := 26) (oi := ⟨some 59, _, _, _, _, _⟩) (v := ?_) rfl (by kernel_rfl) (by kernel_rfl) (by kernel_rfl) (fun _ _ _ h => h) (Or.inl ⟨by rfl, ?_⟩) trivial ?_
        rotate_left
        · intro _ _; go_simp; try with_reducible rfl
        simp only [Act.put, List.setIfInBounds_toArray, List.set_cons_zero, List.set_cons_succ]
        refine wpAnyH_ready (rs := [27]) (by kernel_rfl) (by simp) ?_
        refine AllReadyH.cons (o := ⟨some 60, _, _, _, _, _⟩) rfl (fun K hK => ?_) AllReadyH.nil
        go_simp
        refine hK.out _ _ trivial (fun _ => ?_)
        clear hK K
        try simp only [Act.put, List.setIfInBounds_toArray, List.set_cons_zero, List.set_cons_succ]
        refine wpAnyH_ready (rs := [28]) (by kernel_rfl) (by simp) ?_
        refine AllReadyH.cons (o := ⟨some 61, _, _, _, _, _⟩) rfl (fun K hK => ?_) AllReadyH.nil
        refine step_append_lies _ (by rfl) _ _ _ (by rfl) w6.heap.size 4 i0 _ 1 1 Try.underlying43 hi0 hz0 hz1 hz2 rfl (by omega) _ YS.length YS (by rfl) ((hown.alloc _).drew) ⟨wr.heap.size, 0, none⟩ 1 1 [.bool false] (by rfl) (by rfl) (World.news_of_block (cs := #[.bool false]) (t := 4) (fr := (0, 0)) (heap_alloc_new wr _)) (by simp [Value.oneCell']) (by omega) (by unfold maxLen; omega) (by omega) (by simp; omega) (wr.heap.size + 1) (by simp) ?_
        intro gg cap w8 hown8 hgrow8 hat hlt8
        have HR1 : Hid (GatV 4 w6.heap.size (.slice (some ⟨gg, 0, none⟩) (YS.length + 1) cap) (YS ++ [.bool false]) w6 w8) := (HG.out.step (c := #[.bool false]) (ty := 4) hown8 ⟨hgrow8.os, hgrow8.tape, hgrow8.output, hgrow8.size, hgrow8.block⟩)
        clear hown8 hgrow8 hat hlt8 hown hsz
        refine hK.out _ _ trivial (fun _ => ?_)
        clear hK K
        try simp only [Act.put, List.setIfInBounds_toArray, List.set_cons_zero, List.set_cons_succ]
        refine wpAnyH_take (i := 29) (oi := ⟨some 11, _, _, _, _, _⟩) (v := ?_) rfl (by kernel_rfl) (by kernel_rfl) (by kernel_rfl) (fun _ _ _ h => h) (Or.inl ⟨by rfl, ?_⟩) trivial ?_
        rotate_left
        · intro _ _; go_simp; try with_reducible rfl
        simp only [Act.put, List.setIfInBounds_toArray, List.set_cons_zero, List.set_cons_succ]
        refine wpAnyH_done (by kernel_rfl) ?_ _
        go_wp2
        go_roundw
        case rel => exact ⟨k + 1, by omega, by go_num, by rw [HSt2.out]; exact HR1.out⟩
        case measure => simp [intOf]; omega
    · obtain rfl : k = C := by omega
      have HG : Hid (LstV k (fun b => Value.bool (M.jb T T2 k b)) u11 wr) := hG.lst c1
      have HB : Hid (Below w.heap.size w wr) := HBe.out.trans (hG.2.1.mono HBe.out.size)
      clear hG
      go_wp2
      go_ret
      exact ⟨_, rfl, HB.out, HG.out⟩

end Qnt
end Go.Proofs.Ytbfanglillndnaa
