/-
  Contracts of package quant: which bands are better joined. Conditions: as told at each.
-/
import Derived.Test.YtbfanglillndnaaQuantPair
namespace Go.Proofs.Ytbfanglillndnaa
set_option linter.unusedVariables false
open Go.RowKit
namespace M
/-- is a band better joined? -/
def jb (A B : Nat → Int) (C b : Nat) : Bool := decide (b + 1 < C) && decide (B b < A b)
/-- the scales of two planes together -/
def tg (F G : Nat → Nat → Int) (n b : Nat) : Int := scl F n b + scl G n b
theorem tg_bd (F G : Nat → Nat → Int) (n b : Nat) : 0 ≤ tg F G n b ∧ tg F G n b ≤ 30 := by
  unfold tg; have := scl_bd F n b; have := scl_bd G n b; omega
end M
namespace Qnt
open Bank (Blk But)
open Poly (cell_keep alloc_size)

/-- a list of values in a block -/
def TbV (g : Nat) (t : TypeId) (C : Nat) (V : Nat → Value) (w : World) : Prop := ∃ tab : Array Value, Blk w g tab t ∧ tab.size = C ∧ ∀ j, j < C → tab[j]? = some (V j)
theorem TbV.cell {g : Nat} {t : TypeId} {C : Nat} {V : Nat → Value} {w : World} (h : TbV g t C V w) {j : Nat} (hj : j < C) : w.cell? ⟨g, j, none⟩ = some (V j) := by
  obtain ⟨tab, h1, _, h2⟩ := h; exact h1.cell (h2 j hj)
theorem TbV.free {g : Nat} {t : TypeId} {C : Nat} {V : Nat → Value} {w : World} (h : TbV g t C V w) (j : Nat) : w.frozen? ⟨g, j, none⟩ = false := by
  obtain ⟨tab, h1, _⟩ := h; exact h1.free j
theorem TbV.lt {g : Nat} {t : TypeId} {C : Nat} {V : Nat → Value} {w : World} (h : TbV g t C V w) : g < w.heap.size := by
  obtain ⟨tab, h1, _⟩ := h; exact h1.lt
theorem TbV.below {g B : Nat} {t : TypeId} {C : Nat} {V : Nat → Value} {w w' : World} (h : TbV g t C V w) (hb : Below B w w') (hB : g < B) : TbV g t C V w' := by
  obtain ⟨tab, h1, h2⟩ := h; exact ⟨tab, (hb.block g hB).trans h1, h2⟩
theorem TbV.drewN {g : Nat} {t : TypeId} {C : Nat} {V : Nat → Value} {w : World} (h : TbV g t C V w) (m : Nat) : TbV g t C V (w.drewN m) := h
theorem TbV.set {g : Nat} {t : TypeId} {C : Nat} {V V' : Nat → Value} {w : World} (h : TbV g t C V w) {b : Nat} (hb : b < C) {x : Value} (hx : x = V' b) (ho : ∀ j, j ≠ b → V' j = V j) : TbV g t C V' (w.setCell ⟨g, b, none⟩ x) := by
  obtain ⟨tab, h1, h2, h3⟩ := h
  refine ⟨_, h1.set b _, by simpa using h2, fun j hj => ?_⟩
  rw [Array.getElem?_setIfInBounds]
  split
  · rename_i e; subst e; rw [if_pos (by omega), hx]
  · rename_i e; rw [h3 j hj, ho j (fun e' => e e'.symm)]
theorem TbV.ext {g : Nat} {t : TypeId} {C : Nat} {V V' : Nat → Value} {w : World} (h : TbV g t C V w) (ho : ∀ j, j < C → V' j = V j) : TbV g t C V' w := by
  obtain ⟨tab, h1, h2, h3⟩ := h
  exact ⟨tab, h1, h2, fun j hj => by rw [h3 j hj, ho j hj]⟩

set_option maxHeartbeats 4000000 in
set_option maxRecDepth 100000 in
theorem together_any (hi : Nat) (va vb : Value) (n C : Nat) (F G : Nat → Nat → Int) (w : World) (ha : Vw hi va n C F w) (hb : Vw hi vb n C G w) (hF : F32 F) (hG : F32 G) (n1 : 1 ≤ n) (n40 : n ≤ 40) (c1 : 1 ≤ C) (c8 : C ≤ 8) (hh : hi ≤ w.heap.size) :
    Calls Try.prog 40 #[va, vb] w fun e w' => e = .returned (.slice (some ⟨w.heap.size + 1, 0, none⟩) C C) ∧ Below w.heap.size w w' ∧ Tb (w.heap.size + 1) 3 .i64 C (M.tg F G n) w' ∧ w'.heap.size = w.heap.size + 4 := by
  have h1 := scalesOf_any hi va n C F w ha hF n1 n40 c1 c8 hh
  have h2 : ∀ wx, Below w.heap.size w wx → wx.heap.size = w.heap.size + 2 → Calls Try.prog 36 #[vb] wx fun e w' => e = .returned (.slice (some ⟨w.heap.size + 3, 0, none⟩) C C) ∧ Below (w.heap.size + 2) wx w' ∧ Tb (w.heap.size + 3) 3 .i64 C (M.scl G n) w' ∧ w'.heap.size = w.heap.size + 4 := fun wx hb' hs => by
    have := scalesOf_any hi vb n C G wx (hb.below hb' hh) hG n1 n40 c1 c8 (by omega)
    rw [hs] at this
    exact this
  obtain ⟨ba0, oa0, ca, rfl⟩ := ha.form
  obtain ⟨bb0, ob0, cb, rfl⟩ := hb.form
  have c1' : (1 : Int) ≤ C := by omega
  have c8' : (C : Int) ≤ 8 := by omega
  have HF : Hid (∀ b, 0 ≤ M.scl F n b ∧ M.scl F n b ≤ 15) := M.scl_bd F n
  have HG : Hid (∀ b, 0 ≤ M.scl G n b ∧ M.scl G n b ≤ 15) := M.scl_bd G n
  have HT : Hid (∀ b, M.tg F G n b = M.scl F n b + M.scl G n b) := fun b => rfl
  have H2 : Hid _ := h2
  clear ha hb hF hG h2
  generalize M.tg F G n = T at *
  generalize M.scl F n = P at *
  generalize M.scl G n = Q at *
  go_enter Try.func40, Try.ntmps40
  go_wp2_with (first
    | (go_at_call_of 36 ca; refine h1.mono ?_; rintro e w3 ⟨rfl, b3, t3, s3⟩; have B3 : Hid (Below w.heap.size w w3) := b3; have T3 : Hid (Tb (w.heap.size + 1) 3 .i64 C P w3) := t3; have S3 : Hid (w3.heap.size = w.heap.size + 2) := s3; clear b3 t3 s3 h1)
    | (go_at_call_of 36 cb; refine (H2.out _ B3.out S3.out).mono ?_; rintro e w4 ⟨rfl, b4, t4, s4⟩; have B4 : Hid (Below w.heap.size w w4) := B3.out.trans (b4.mono (by omega)); have T4 : Hid (Tb (w.heap.size + 3) 3 .i64 C Q w4) := t4; have S4 : Hid (w4.heap.size = w.heap.size + 4) := s4; have U4 : Hid (Tb (w.heap.size + 1) 3 .i64 C P w4) := T3.out.below b4 (by omega); clear b4 t4 s4))
  go_loopw [13] (fun i wr => ∃ k : Nat, k ≤ C ∧ i = .int .i64 k ∧ Tb (w.heap.size + 1) 3 .i64 C (fun j => if j < k then T j else P j) wr ∧ Tb (w.heap.size + 3) 3 .i64 C Q wr ∧ Below w.heap.size w wr ∧ wr.heap.size = w.heap.size + 4) (fun i _ => C - (intOf i).toNat)
  case atStart => exact ⟨0, by omega, rfl, U4.out.ext fun j _ => if_neg (by omega), T4.out, B4.out, S4.out⟩
  case round =>
    clear U4 T4 B4 S4 T3 B3 S3
    obtain ⟨k, hk, rfl, ht, hq, hb, hs⟩ := hrel
    by_cases hkl : k < C
    · have hkl' : (k : Int) < C := by omega
      have x1 := ht.cell hkl
      have xf := ht.free k
      rw [if_neg (by omega)] at x1
      have x2 := hq.cell hkl
      have HSt : Hid (Tb (w.heap.size + 1) 3 .i64 C (fun j => if j < k + 1 then T j else P j) (wr.setCell ⟨w.heap.size + 1, k, none⟩ (.int .i64 (P k + Q k)))) :=
        ht.set hkl (by rw [if_pos (by omega), HT.out]) fun j hj => by
          by_cases hjk : j < k
          · rw [if_pos (by omega), if_pos hjk]
          · rw [if_neg (by omega), if_neg hjk]
      have HQ : Hid (∀ x, Tb (w.heap.size + 3) 3 .i64 C Q (wr.setCell ⟨w.heap.size + 1, k, none⟩ x)) := fun x => hq.set_ne (by show w.heap.size + 3 ≠ w.heap.size + 1; omega) x
      have HB : Hid (∀ x, Below w.heap.size w (wr.setCell ⟨w.heap.size + 1, k, none⟩ x)) := fun x => hb.setCell (Nat.le_succ _) _
      have HS : Hid (∀ x, (wr.setCell ⟨w.heap.size + 1, k, none⟩ x).heap.size = w.heap.size + 4) := fun x => by simpa [World.setCell] using hs
      obtain ⟨p1, p2⟩ := HF.out k
      obtain ⟨q1, q2⟩ := HG.out k
      clear ht hq hb hs
      generalize P k = p at *
      generalize Q k = q at *
      go_wp2
      go_roundw
      case rel => exact ⟨k + 1, by omega, by go_num, HSt.out, HQ.out _, HB.out _, HS.out _⟩
      case measure => simp [intOf]; omega
    · obtain rfl : k = C := by omega
      have HTt : Hid (Tb (w.heap.size + 1) 3 .i64 k T wr) := ht.ext fun j hj => (if_pos hj).symm
      have HB : Hid (Below w.heap.size w wr) := hb
      have HS : Hid (wr.heap.size = w.heap.size + 4) := hs
      clear ht hq hb hs
      go_wp2
      go_ret
      exact ⟨rfl, HB.out, HTt.out, HS.out⟩

theorem Joins_no (hi : Nat) (va vb : Value) (na nb : Nat) (la lb : Nat → Nat) (w : World)
    (ha : Hd hi va na la w) (hb : Hd hi vb nb lb w) (fa : ¬ FarL na la) (fb : ¬ FarL nb lb) (hno : ¬ Fit na nb la lb) :
    Calls Try.prog 21 #[va, vb] w fun e w' => e = .returned (.tuple #[.slice none 0 0, .int .i64 1]) ∧ ∃ m, w' = w.drewN m := by
  have h1 := Middle_no hi va vb na nb la lb w ha hb fa fb hno
  obtain ⟨ax, ca, rfl⟩ := ha.form
  obtain ⟨bx, cb, rfl⟩ := hb.form
  clear ha hb fa fb hno
  go_enter Try.func21, Try.ntmps21
  go_wp2_with (go_at_call 19; refine h1.mono ?_; rintro e w2 ⟨rfl, m, rfl⟩)
  go_ret2
  exact ⟨rfl, m, rfl⟩

set_option maxHeartbeats 4000000 in
set_option maxRecDepth 100000 in
theorem Joins_ok (hi : Nat) (va vb : Value) (n C : Nat) (F G : Nat → Nat → Int) (w : World) (ha : Vw hi va n C F w) (hb : Vw hi vb n C G w) (hF : F32 F) (hG : F32 G) (n1 : 1 ≤ n) (n40 : n ≤ 40) (c1 : 1 ≤ C) (c8 : C ≤ 8) (hh : hi ≤ w.heap.size) :
    Calls Try.prog 21 #[va, vb] w fun e w' => ∃ g, e = .returned (.tuple #[.slice (some ⟨g, 0, none⟩) C C, .int .i64 0]) ∧ Below w.heap.size w w' ∧ w.heap.size ≤ g ∧
      TbV g 4 C (fun b => .bool (M.jb (M.tg F G n) (M.tg (fun i b => M.hs (F i b) (G i b)) (fun i b => M.hd (F i b) (G i b)) n) C b)) w' := by
  have h1 := Middle_ok hi va vb n C F G w ha hb hF hG n1 n40 c1 c8 hh
  obtain ⟨N1, hN1⟩ : ∃ N1, w.heap.size + 1 + n + 1 + n = N1 := ⟨_, rfl⟩
  have hsz : ∀ wx, Two w.heap.size (w.heap.size + 1 + n) n C (n * C) (fun i b => M.hs (F i b) (G i b)) (fun i b => M.hd (F i b) (G i b)) w wx → wx.heap.size = N1 := fun wx h => h.size.trans hN1
  have h2 : ∀ wx, Two w.heap.size (w.heap.size + 1 + n) n C (n * C) (fun i b => M.hs (F i b) (G i b)) (fun i b => M.hd (F i b) (G i b)) w wx → Calls Try.prog 40 #[va, vb] wx fun e w' => e = .returned (.slice (some ⟨N1 + 1, 0, none⟩) C C) ∧ Below N1 wx w' ∧ Tb (N1 + 1) 3 .i64 C (M.tg F G n) w' ∧ w'.heap.size = N1 + 4 := fun wx h => by
    have := together_any hi va vb n C F G wx (ha.below h.bel hh) (hb.below h.bel hh) hF hG n1 n40 c1 c8 (by have := h.bel.size; omega)
    rw [hsz wx h] at this
    exact this
  have h3 : ∀ wx wy, Two w.heap.size (w.heap.size + 1 + n) n C (n * C) (fun i b => M.hs (F i b) (G i b)) (fun i b => M.hd (F i b) (G i b)) w wx → Below N1 wx wy → wy.heap.size = N1 + 4 → Calls Try.prog 40 #[.slice (some ⟨w.heap.size, 0, none⟩) n n, .slice (some ⟨w.heap.size + 1 + n, 0, none⟩) n n] wy fun e w' => e = .returned (.slice (some ⟨N1 + 5, 0, none⟩) C C) ∧ Below (N1 + 4) wy w' ∧ Tb (N1 + 5) 3 .i64 C (M.tg (fun i b => M.hs (F i b) (G i b)) (fun i b => M.hd (F i b) (G i b)) n) w' ∧ w'.heap.size = N1 + 8 := fun wx wy h hb' hs => by
    have v1 := (h.one.whole).below hb' (by omega)
    have v2 := (h.two.whole).below hb' (by omega)
    have := together_any N1 _ _ n C _ _ wy (v1.mono (by omega)) (v2.mono (by omega)) (fun i b => M.hs_bd (hF i b) (hG i b)) (fun i b => M.hd_bd (hF i b) (hG i b)) n1 n40 c1 c8 (by omega)
    rw [hs] at this
    exact this
  have HT1 : Hid (∀ b, 0 ≤ M.tg F G n b ∧ M.tg F G n b ≤ 30) := M.tg_bd F G n
  have HT2 : Hid (∀ b, 0 ≤ M.tg (fun i b => M.hs (F i b) (G i b)) (fun i b => M.hd (F i b) (G i b)) n b ∧ M.tg (fun i b => M.hs (F i b) (G i b)) (fun i b => M.hd (F i b) (G i b)) n b ≤ 30) := M.tg_bd _ _ n
  obtain ⟨ba0, oa0, ca, rfl⟩ := ha.form
  obtain ⟨bb0, ob0, cb, rfl⟩ := hb.form
  have c1' : (1 : Int) ≤ C := by omega
  have c8' : (C : Int) ≤ 8 := by omega
  have H2 : Hid _ := h2
  have H3 : Hid _ := h3
  have HW : Hid (w.heap.size ≤ N1) := by show _ ≤ _; omega
  clear ha hb hF hG h2 h3 hsz hN1
  generalize M.tg F G n = P at *
  generalize M.tg (fun i b => M.hs (F i b) (G i b)) (fun i b => M.hd (F i b) (G i b)) n = Q at *
  go_enter Try.func21, Try.ntmps21
  go_upto_region 5 with (first
    | (go_at_call 19; refine h1.mono ?_; rintro e w2 ⟨rfl, t2⟩; have T2 : Hid (Two w.heap.size (w.heap.size + 1 + n) n C (n * C) (fun i b => M.hs (F i b) (G i b)) (fun i b => M.hd (F i b) (G i b)) w w2) := t2; clear t2 h1)
    | (go_at_call_of 40 ca; refine (H2.out _ T2.out).mono ?_; rintro e w3 ⟨rfl, b3, t3, s3⟩; have B3 : Hid (Below N1 w2 w3) := b3; have T3 : Hid (Tb (N1 + 1) 3 .i64 C P w3) := t3; have S3 : Hid (w3.heap.size = N1 + 4) := s3; clear b3 t3 s3)
    | (go_at_call 40; refine (H3.out _ _ T2.out B3.out S3.out).mono ?_; rintro e w4 ⟨rfl, b4, t4, s4⟩; have B4 : Hid (Below w.heap.size w w4) := T2.out.bel.trans ((B3.out.mono HW.out).trans (b4.mono (by have := HW.out; omega))); have T4 : Hid (Tb (N1 + 5) 3 .i64 C Q w4) := t4; have S4 : Hid (w4.heap.size = N1 + 8) := s4; have U4 : Hid (Tb (N1 + 1) 3 .i64 C P w4) := T3.out.below b4 (by omega); clear b4 t4 s4))
  obtain ⟨g, hg⟩ : ∃ g, w4.heap.size = g := ⟨_, rfl⟩
  have hmk := makeQB w4 C (by omega)
  rw [hg] at hmk
  have HG : Hid (N1 + 5 < g ∧ w.heap.size ≤ g) := by
    have h1 := S4.out
    have h2 := HW.out
    exact ⟨by omega, by omega⟩
  have H0 : Hid (TbV g 4 C (fun j => if j < 0 then .bool (M.jb P Q C j) else .bool false) (w4.alloc (.cells (List.replicate C (.bool false)).toArray 4))) := by
    refine ⟨_, by rw [← hg]; exact Blk.new _ _ _, by simp, fun j hj => ?_⟩
    rw [List.getElem?_toArray, List.getElem?_replicate, if_pos hj]
    show _ = some (if j < 0 then Value.bool (M.jb P Q C j) else Value.bool false)
    rw [if_neg (by omega)]
  have H1 : Hid (Tb (N1 + 1) 3 .i64 C P (w4.alloc (.cells (List.replicate C (.bool false)).toArray 4))) := U4.out.alloc _
  have H5 : Hid (Tb (N1 + 5) 3 .i64 C Q (w4.alloc (.cells (List.replicate C (.bool false)).toArray 4))) := T4.out.alloc _
  have HB : Hid (Below w.heap.size w (w4.alloc (.cells (List.replicate C (.bool false)).toArray 4))) := B4.out.alloc B4.out.size _
  clear hg
  generalize (List.replicate C (Value.bool false)).toArray = cs at *
  go_wp2
  go_loopw [35] (fun i wr => ∃ k : Nat, k + 1 ≤ C ∧ i = .int .i64 k ∧ TbV g 4 C (fun j => if j < k then .bool (M.jb P Q C j) else .bool false) wr ∧ Tb (N1 + 1) 3 .i64 C P wr ∧ Tb (N1 + 5) 3 .i64 C Q wr ∧ Below w.heap.size w wr) (fun i _ => C - (intOf i).toNat)
  case atStart => exact ⟨0, by omega, rfl, H0.out, H1.out, H5.out, HB.out⟩
  case round =>
    clear H0 H1 H5 HB hmk T2 B3 T3 S3 B4 T4 S4 U4
    obtain ⟨k, hk, rfl, ht, h1, h5, hb⟩ := hrel
    by_cases hkl : k + 1 < C
    · have hkl' : (k : Int) < (C : Int) - 1 := by omega
      have hkl2 : (k : Int) < (C : Int) := by omega
      have x1 := h1.cell (j := k) (by omega)
      have x5 := h5.cell (j := k) (by omega)
      have xt := ht.cell (j := k) (by omega)
      rw [if_neg (by omega)] at xt
      have xf := ht.free k
      have HE : Hid (M.jb P Q C k = decide (Q k < P k)) := by
        show _ = _
        unfold M.jb
        rw [decide_eq_true hkl, Bool.true_and]
      have HSt : Hid (∀ m x, x = .bool (M.jb P Q C k) → TbV g 4 C (fun j => if j < k + 1 then .bool (M.jb P Q C j) else .bool false) ((wr.drewN m).setCell ⟨g, k, none⟩ x)) := fun m x hx =>
        (ht.drewN m).set (by omega) (by rw [if_pos (by omega)]; exact hx) fun j hj => by
          by_cases hjk : j < k
          · rw [if_pos (by omega), if_pos hjk]
          · rw [if_neg (by omega), if_neg hjk]
      have H1 : Hid (∀ m x, Tb (N1 + 1) 3 .i64 C P ((wr.drewN m).setCell ⟨g, k, none⟩ x)) := fun m x => (h1.drewN m).set_ne (by show N1 + 1 ≠ g; have := HG.out; omega) x
      have H5 : Hid (∀ m x, Tb (N1 + 5) 3 .i64 C Q ((wr.drewN m).setCell ⟨g, k, none⟩ x)) := fun m x => (h5.drewN m).set_ne (by show N1 + 5 ≠ g; have := HG.out; omega) x
      have HB : Hid (∀ m x, Below w.heap.size w ((wr.drewN m).setCell ⟨g, k, none⟩ x)) := fun m x => (show Below w.heap.size w (wr.drewN m) from ⟨hb.os, hb.tape, hb.output, hb.size, hb.block⟩).setCell HG.out.2 x
      have HSet : Hid (∀ (wx : World) (v : Value), (wx.cell? ⟨N1 + 1, k, none⟩ = some (.int .i64 (P k)) ∧ wx.cell? ⟨N1 + 5, k, none⟩ = some (.int .i64 (Q k))) → ((wx.setCell ⟨g, k, none⟩ v).cell? ⟨N1 + 1, k, none⟩ = some (.int .i64 (P k)) ∧ (wx.setCell ⟨g, k, none⟩ v).cell? ⟨N1 + 5, k, none⟩ = some (.int .i64 (Q k)))) := by
        intro wx v h
        have := HG.out
        rw [cell_set_ne v (by show N1 + 1 ≠ g; omega), cell_set_ne v (by show N1 + 5 ≠ g; omega)]
        exact h
      clear ht h1 h5 hb
      generalize P k = p at *
      generalize Q k = q at *
      go_wp2
      go_region_held3 (fun wx => wx.cell? ⟨N1 + 1, k, none⟩ = some (.int .i64 p) ∧ wx.cell? ⟨N1 + 5, k, none⟩ = some (.int .i64 q))
        (first | exact ⟨x1, x5⟩ | exact HSet.out _ _ ⟨x1, x5⟩)
        (first | fail)
      all_goals (
        go_wp2
        go_roundw
        case rel => exact ⟨k + 1, by omega, by go_num, HSt.out _ _ (by rw [HE.out]), H1.out _ _, H5.out _ _, HB.out _ _⟩
        case measure => simp [intOf]; omega)
    · have HTt : Hid (TbV g 4 C (fun b => .bool (M.jb P Q C b)) wr) := ht.ext fun j hj => by
        by_cases hjk : j < k
        · rw [if_pos hjk]
        · rw [if_neg hjk]
          unfold M.jb
          rw [decide_eq_false (by omega), Bool.false_and]
      have HB : Hid (Below w.heap.size w wr) := hb
      have hkl' : ¬ (k : Int) < (C : Int) - 1 := by omega
      clear ht h1 h5 hb
      go_wp2
      go_ret2
      exact ⟨g, rfl, HB.out, HG.out.2, HTt.out⟩

end Qnt
end Go.Proofs.Ytbfanglillndnaa
