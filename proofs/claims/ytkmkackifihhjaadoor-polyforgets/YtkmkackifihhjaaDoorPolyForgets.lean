/-
  The walk of PolyForgets. Conditions: as the law has them; the polynomial stands.
-/
import Derived.Test.YtkmkackifihhjaaDoorPolyFour
namespace Go.Proofs.YtkmkackifihhjaaDoor
set_option linter.unusedVariables false
open Go.RowKit
namespace Poly
open Bank (Blk But)

set_option maxRecDepth 100000 in
set_option maxHeartbeats 4000000 in
theorem forgetsE_4 (p l : List Int) (vp vl : Value) (w : World) (hT : Wave.Tab w) (hrp : Reads .i16 0 w.heap.size w vp p) (hrl : Reads .i16 0 w.heap.size w vl l) (hp : p.length ≤ 300) (hl : l.length ≤ 100) (hpar : p.length % 2 = 0) :
    Calls Tryd.prog 5 #[.bool false, vp, vl] w fun e w' => e = .returned (.bool true) ∧ Below w.heap.size w w' := by
  have HSet : Hid (∀ wa, Below w.heap.size w wa → _) := fun wa (bela : Below w.heap.size w wa) => setup4 (m := 4) (by omega) hT bela
  have HCutP : Hid (∀ (alo agl blo bgl clo cgl dlo dgl : Nat) (xa xb lc ld : List Int) (wr : World), Four 4 alo agl blo bgl clo cgl dlo dgl xa xb lc ld w wr → _) := fun alo agl blo bgl clo cgl dlo dgl xa xb lc ld wr (h : Four 4 alo agl blo bgl clo cgl dlo dgl xa xb lc ld w wr) => four_cut (m := 4) (by omega) h (hrp.below h.1.2.2.2.2 (Nat.le_refl _)) h.1.2.2.2.2.size hp
  have HCutL : Hid (∀ (alo agl blo bgl clo cgl dlo dgl : Nat) (xa xb lc ld : List Int) (wr : World), Four 4 alo agl blo bgl clo cgl dlo dgl xa xb lc ld w wr → _) := fun alo agl blo bgl clo cgl dlo dgl xa xb lc ld wr (h : Four 4 alo agl blo bgl clo cgl dlo dgl xa xb lc ld w wr) => four_cut (m := 4) (by omega) h (hrl.below h.1.2.2.2.2 (Nat.le_refl _)) h.1.2.2.2.2.size (by omega)
  have HT : Hid (Wave.Tab w) := hT
  obtain ⟨pa, pc, rfl⟩ := hrp.form
  obtain ⟨la, lc0, rfl⟩ := hrl.form
  obtain ⟨n, hn⟩ : ∃ n, (M.cutL 4 p).length = n := ⟨_, rfl⟩
  obtain ⟨nl, hnl⟩ : ∃ n, (M.cutL 4 l).length = n := ⟨_, rfl⟩
  have HN : Hid ((M.cutL 4 p).length = n) := hn
  have HNL : Hid ((M.cutL 4 l).length = nl) := hnl
  have hfew : n ≤ 75 := by rw [← hn]; exact M.cutL_few (by omega) (by omega)
  have hfewl : nl ≤ 75 := by rw [← hnl]; exact M.cutL_few (by omega) (by omega)
  have HR : Hid (∀ i, i < (M.cutL 4 p).length → ((M.cutL 4 p).getD i []).length = 4) := M.cutL_rows
  have HRL : Hid (∀ i, i < (M.cutL 4 l).length → ((M.cutL 4 l).getD i []).length = 4) := M.cutL_rows
  obtain ⟨P, hP⟩ : ∃ P, p.length = P := ⟨_, rfl⟩
  obtain ⟨L, hL⟩ : ∃ L, l.length = L := ⟨_, rfl⟩
  rw [hn, hP] at HCutP
  rw [hnl, hL] at HCutL
  rw [hP] at hp hpar ⊢
  rw [hL] at hl ⊢
  have hp' : ¬ (300 : Int) < P := by omega
  have hl' : ¬ (100 : Int) < L := by omega
  have htm : (P : Int).tmod 2 = 0 := by rw [tmod2, hpar]; rfl
  have hnot : ∀ (x : Bool) (w : World), (Op.unary .not (.bool x)).run Tryd.prog w = .ok (.bool (!x)) w := fun _ _ => rfl
  generalize M.cutL 4 p = zss at *
  generalize M.cutL 4 l = yss at *
  have hA : Hid True := trivial
  clear hT hrp hrl hn hnl hP hL hpar
  go_enter Tryd.func5, Tryd.ntmps5
  go_wp2_with (first
    | (go_at_call 8; refine (alive_any _ HT.out).mono ?_; rintro e wa ⟨rfl, bela⟩; have h1 := HSet.out wa bela; clear bela HSet HT)
    | (go_at_call 10; refine h1.mono ?_; clear h1; rintro e w1 ⟨bp, rfl, h2⟩)
    | (go_at_call 9; have _f := hA; refine h2.mono ?_; clear h2 hA; rintro e w2 ⟨agl, rfl, h1⟩)
    | (go_at_call 9; refine h2.mono ?_; clear h2; rintro e w2 ⟨bgl, rfl, h1⟩)
    | (go_at_call 15; refine h2.mono ?_; clear h2; first | (rintro e w5 ⟨dgl, rfl, alo, blo, clo, dlo, hFo⟩; have h3 := HCutP.out _ _ _ _ _ _ _ _ _ _ _ _ _ hFo; clear hFo HCutP) | (rintro e w5 ⟨cgl, rfl, h1⟩))
    | (go_at_call 11; refine h3.mono ?_; clear h3; rintro e w6 ⟨va, vc, rfl, hvc, hFo, r0, r1, g0, g1, hRw⟩; have HFo : Hid _ := hFo; have HRw : Hid _ := hRw; clear hFo hRw))
  have hvc' : (n : Int) ≤ vc := by omega
  have g1' : Hid (r1 ≤ w6.heap.size) := g1
  clear g1
  go_loopw [74] (fun i wr => ∃ k : Nat, k ≤ n ∧ i = .int .i64 k ∧ ∃ xa q, Four 4 alo agl blo bgl clo cgl dlo dgl xa (List.replicate (10 * 4) 0) q (List.replicate (20 * 4) 0) w wr ∧ Rows .i16 r0 r1 wr (.slice va n vc) zss ∧ r1 ≤ wr.heap.size) (fun i _ => n - (intOf i).toNat)
  case atStart => exact ⟨0, by omega, rfl, _, _, HFo.out, HRw.out, g1'.out⟩
  case round =>
    clear HFo HRw g1'
    obtain ⟨k, hk, rfl, xa, q, hFo, hRw, hs⟩ := hrel
    by_cases hlt : k < n
    · have hlt' : (k : Int) < n := by omega
      obtain ⟨b, off, rfl, _, _, _⟩ := hRw.cell (by rw [HN.out]; omega)
      obtain ⟨ua, uc, hc, hfeed⟩ := four_past (by omega) hFo hRw g0 hs (by rw [HN.out]; exact hlt) HR.out
      clear hFo hRw hs
      go_wp2_with (first
        | (go_at_call 12; refine hfeed.mono ?_; clear hfeed; rintro e w7 ⟨xa, xc, rfl, h5⟩)
        | (go_at_call 17; refine h5.mono ?_; clear h5; rintro e w8 ⟨ya, yc, rfl, hI⟩; have HI : Hid _ := hI; clear hI))
      go_roundw
      case rel => exact ⟨k + 1, by omega, by go_num, HI.out⟩
      case measure => simp [intOf] <;> omega
    · obtain rfl : k = n := by omega
      have hres := four_reset (by omega) hFo
      clear hFo hRw hs HR HN hvc hvc'
      go_wp2_with (first
        | (go_at_call 20; refine hres.mono ?_; clear hres; rintro e w7 ⟨rfl, h5⟩)
        | (go_at_call 21; refine h5.mono ?_; clear h5; rintro e w8 ⟨rfl, hI⟩; have h11 := HCutL.out _ _ _ _ _ _ _ _ _ _ _ _ _ hI; clear hI HCutL)
        | (go_at_call 11; refine h11.mono ?_; clear h11; rintro e w12 ⟨vb, ve, rfl, hvl, hFo, t0, t1, gl0, g2, hRw⟩; have HFo : Hid _ := hFo; have HRw : Hid _ := hRw; clear hFo hRw))
      have hvl' : (nl : Int) ≤ ve := by omega
      have g2' : Hid (t1 ≤ w12.heap.size) := g2
      clear g2
      go_loopw [136] (fun i wr => ∃ j : Nat, j ≤ nl ∧ i = .int .i64 j ∧ ∃ x q, Four 4 alo agl blo bgl clo cgl dlo dgl x x q q w wr ∧ Rows .i16 t0 t1 wr (.slice vb nl ve) yss ∧ t1 ≤ wr.heap.size) (fun i _ => nl - (intOf i).toNat)
      case atStart => exact ⟨0, by omega, rfl, _, _, HFo.out, HRw.out, g2'.out⟩
      case round =>
        clear HFo HRw g2'
        obtain ⟨j, hj, rfl, x, q, hFo, hRw, hs⟩ := hrel
        by_cases hlt : j < nl
        · have hlt' : (j : Int) < nl := by omega
          obtain ⟨b, off, rfl, _, _, _⟩ := hRw.cell (by rw [HNL.out]; omega)
          obtain ⟨ua, uc, hc, hfeed⟩ := four_round (by omega) hFo hRw gl0 hs (by rw [HNL.out]; exact hlt) HRL.out
          clear hFo hRw hs
          go_wp2_with (first
            | (go_at_call 12; refine hfeed.mono ?_; clear hfeed; rintro e w13 ⟨xa, xc, rfl, h5⟩)
            | (go_at_call 12; refine h5.mono ?_; clear h5; rintro e w14 ⟨za, zc, rfl, h6⟩)
            | (go_at_call 13; refine h6.mono ?_; clear h6; rintro e w15 ⟨rfl, h7⟩)
            | (go_at_call 17; refine h7.mono ?_; clear h7; rintro e w16 ⟨ya, yc, rfl, h9⟩)
            | (go_at_call 17; refine h9.mono ?_; clear h9; rintro e w17 ⟨qa, qc, rfl, h10⟩)
            | (go_at_call 18; refine h10.mono ?_; clear h10; rintro e w18 ⟨rfl, hI⟩; have HI : Hid _ := hI; clear hI))
          go_roundw
          case rel => exact ⟨j + 1, by omega, by go_num, HI.out⟩
          case measure => simp [intOf] <;> omega
        · obtain rfl : j = nl := by omega
          have HB : Hid (Below w.heap.size w wr) := hFo.1.2.2.2.2
          clear hFo hRw hs
          go_wp2
          go_ret
          exact ⟨rfl, HB.out⟩

set_option maxRecDepth 100000 in
set_option maxHeartbeats 4000000 in
theorem forgetsE_8 (p l : List Int) (vp vl : Value) (w : World) (hT : Wave.Tab w) (hrp : Reads .i16 0 w.heap.size w vp p) (hrl : Reads .i16 0 w.heap.size w vl l) (hp : p.length ≤ 300) (hl : l.length ≤ 100) (hpar : p.length % 2 = 0) :
    Calls Tryd.prog 5 #[.bool true, vp, vl] w fun e w' => e = .returned (.bool true) ∧ Below w.heap.size w w' := by
  have HSet : Hid (∀ wa, Below w.heap.size w wa → _) := fun wa (bela : Below w.heap.size w wa) => setup4 (m := 8) (by omega) hT bela
  have HCutP : Hid (∀ (alo agl blo bgl clo cgl dlo dgl : Nat) (xa xb lc ld : List Int) (wr : World), Four 8 alo agl blo bgl clo cgl dlo dgl xa xb lc ld w wr → _) := fun alo agl blo bgl clo cgl dlo dgl xa xb lc ld wr (h : Four 8 alo agl blo bgl clo cgl dlo dgl xa xb lc ld w wr) => four_cut (m := 8) (by omega) h (hrp.below h.1.2.2.2.2 (Nat.le_refl _)) h.1.2.2.2.2.size hp
  have HCutL : Hid (∀ (alo agl blo bgl clo cgl dlo dgl : Nat) (xa xb lc ld : List Int) (wr : World), Four 8 alo agl blo bgl clo cgl dlo dgl xa xb lc ld w wr → _) := fun alo agl blo bgl clo cgl dlo dgl xa xb lc ld wr (h : Four 8 alo agl blo bgl clo cgl dlo dgl xa xb lc ld w wr) => four_cut (m := 8) (by omega) h (hrl.below h.1.2.2.2.2 (Nat.le_refl _)) h.1.2.2.2.2.size (by omega)
  have HT : Hid (Wave.Tab w) := hT
  obtain ⟨pa, pc, rfl⟩ := hrp.form
  obtain ⟨la, lc0, rfl⟩ := hrl.form
  obtain ⟨n, hn⟩ : ∃ n, (M.cutL 8 p).length = n := ⟨_, rfl⟩
  obtain ⟨nl, hnl⟩ : ∃ n, (M.cutL 8 l).length = n := ⟨_, rfl⟩
  have HN : Hid ((M.cutL 8 p).length = n) := hn
  have HNL : Hid ((M.cutL 8 l).length = nl) := hnl
  have hfew : n ≤ 75 := by rw [← hn]; exact M.cutL_few (by omega) (by omega)
  have hfewl : nl ≤ 75 := by rw [← hnl]; exact M.cutL_few (by omega) (by omega)
  have HR : Hid (∀ i, i < (M.cutL 8 p).length → ((M.cutL 8 p).getD i []).length = 8) := M.cutL_rows
  have HRL : Hid (∀ i, i < (M.cutL 8 l).length → ((M.cutL 8 l).getD i []).length = 8) := M.cutL_rows
  obtain ⟨P, hP⟩ : ∃ P, p.length = P := ⟨_, rfl⟩
  obtain ⟨L, hL⟩ : ∃ L, l.length = L := ⟨_, rfl⟩
  rw [hn, hP] at HCutP
  rw [hnl, hL] at HCutL
  rw [hP] at hp hpar ⊢
  rw [hL] at hl ⊢
  have hp' : ¬ (300 : Int) < P := by omega
  have hl' : ¬ (100 : Int) < L := by omega
  have htm : (P : Int).tmod 2 = 0 := by rw [tmod2, hpar]; rfl
  have hnot : ∀ (x : Bool) (w : World), (Op.unary .not (.bool x)).run Tryd.prog w = .ok (.bool (!x)) w := fun _ _ => rfl
  generalize M.cutL 8 p = zss at *
  generalize M.cutL 8 l = yss at *
  have hA : Hid True := trivial
  clear hT hrp hrl hn hnl hP hL hpar
  go_enter Tryd.func5, Tryd.ntmps5
  go_wp2_with (first
    | (go_at_call 8; refine (alive_any _ HT.out).mono ?_; rintro e wa ⟨rfl, bela⟩; have h1 := HSet.out wa bela; clear bela HSet HT)
    | (go_at_call 10; refine h1.mono ?_; clear h1; rintro e w1 ⟨bp, rfl, h2⟩)
    | (go_at_call 9; have _f := hA; refine h2.mono ?_; clear h2 hA; rintro e w2 ⟨agl, rfl, h1⟩)
    | (go_at_call 9; refine h2.mono ?_; clear h2; rintro e w2 ⟨bgl, rfl, h1⟩)
    | (go_at_call 15; refine h2.mono ?_; clear h2; first | (rintro e w5 ⟨dgl, rfl, alo, blo, clo, dlo, hFo⟩; have h3 := HCutP.out _ _ _ _ _ _ _ _ _ _ _ _ _ hFo; clear hFo HCutP) | (rintro e w5 ⟨cgl, rfl, h1⟩))
    | (go_at_call 11; refine h3.mono ?_; clear h3; rintro e w6 ⟨va, vc, rfl, hvc, hFo, r0, r1, g0, g1, hRw⟩; have HFo : Hid _ := hFo; have HRw : Hid _ := hRw; clear hFo hRw))
  have hvc' : (n : Int) ≤ vc := by omega
  have g1' : Hid (r1 ≤ w6.heap.size) := g1
  clear g1
  go_loopw [74] (fun i wr => ∃ k : Nat, k ≤ n ∧ i = .int .i64 k ∧ ∃ xa q, Four 8 alo agl blo bgl clo cgl dlo dgl xa (List.replicate (10 * 8) 0) q (List.replicate (20 * 8) 0) w wr ∧ Rows .i16 r0 r1 wr (.slice va n vc) zss ∧ r1 ≤ wr.heap.size) (fun i _ => n - (intOf i).toNat)
  case atStart => exact ⟨0, by omega, rfl, _, _, HFo.out, HRw.out, g1'.out⟩
  case round =>
    clear HFo HRw g1'
    obtain ⟨k, hk, rfl, xa, q, hFo, hRw, hs⟩ := hrel
    by_cases hlt : k < n
    · have hlt' : (k : Int) < n := by omega
      obtain ⟨b, off, rfl, _, _, _⟩ := hRw.cell (by rw [HN.out]; omega)
      obtain ⟨ua, uc, hc, hfeed⟩ := four_past (by omega) hFo hRw g0 hs (by rw [HN.out]; exact hlt) HR.out
      clear hFo hRw hs
      go_wp2_with (first
        | (go_at_call 12; refine hfeed.mono ?_; clear hfeed; rintro e w7 ⟨xa, xc, rfl, h5⟩)
        | (go_at_call 17; refine h5.mono ?_; clear h5; rintro e w8 ⟨ya, yc, rfl, hI⟩; have HI : Hid _ := hI; clear hI))
      go_roundw
      case rel => exact ⟨k + 1, by omega, by go_num, HI.out⟩
      case measure => simp [intOf] <;> omega
    · obtain rfl : k = n := by omega
      have hres := four_reset (by omega) hFo
      clear hFo hRw hs HR HN hvc hvc'
      go_wp2_with (first
        | (go_at_call 20; refine hres.mono ?_; clear hres; rintro e w7 ⟨rfl, h5⟩)
        | (go_at_call 21; refine h5.mono ?_; clear h5; rintro e w8 ⟨rfl, hI⟩; have h11 := HCutL.out _ _ _ _ _ _ _ _ _ _ _ _ _ hI; clear hI HCutL)
        | (go_at_call 11; refine h11.mono ?_; clear h11; rintro e w12 ⟨vb, ve, rfl, hvl, hFo, t0, t1, gl0, g2, hRw⟩; have HFo : Hid _ := hFo; have HRw : Hid _ := hRw; clear hFo hRw))
      have hvl' : (nl : Int) ≤ ve := by omega
      have g2' : Hid (t1 ≤ w12.heap.size) := g2
      clear g2
      go_loopw [136] (fun i wr => ∃ j : Nat, j ≤ nl ∧ i = .int .i64 j ∧ ∃ x q, Four 8 alo agl blo bgl clo cgl dlo dgl x x q q w wr ∧ Rows .i16 t0 t1 wr (.slice vb nl ve) yss ∧ t1 ≤ wr.heap.size) (fun i _ => nl - (intOf i).toNat)
      case atStart => exact ⟨0, by omega, rfl, _, _, HFo.out, HRw.out, g2'.out⟩
      case round =>
        clear HFo HRw g2'
        obtain ⟨j, hj, rfl, x, q, hFo, hRw, hs⟩ := hrel
        by_cases hlt : j < nl
        · have hlt' : (j : Int) < nl := by omega
          obtain ⟨b, off, rfl, _, _, _⟩ := hRw.cell (by rw [HNL.out]; omega)
          obtain ⟨ua, uc, hc, hfeed⟩ := four_round (by omega) hFo hRw gl0 hs (by rw [HNL.out]; exact hlt) HRL.out
          clear hFo hRw hs
          go_wp2_with (first
            | (go_at_call 12; refine hfeed.mono ?_; clear hfeed; rintro e w13 ⟨xa, xc, rfl, h5⟩)
            | (go_at_call 12; refine h5.mono ?_; clear h5; rintro e w14 ⟨za, zc, rfl, h6⟩)
            | (go_at_call 13; refine h6.mono ?_; clear h6; rintro e w15 ⟨rfl, h7⟩)
            | (go_at_call 17; refine h7.mono ?_; clear h7; rintro e w16 ⟨ya, yc, rfl, h9⟩)
            | (go_at_call 17; refine h9.mono ?_; clear h9; rintro e w17 ⟨qa, qc, rfl, h10⟩)
            | (go_at_call 18; refine h10.mono ?_; clear h10; rintro e w18 ⟨rfl, hI⟩; have HI : Hid _ := hI; clear hI))
          go_roundw
          case rel => exact ⟨j + 1, by omega, by go_num, HI.out⟩
          case measure => simp [intOf] <;> omega
        · obtain rfl : j = nl := by omega
          have HB : Hid (Below w.heap.size w wr) := hFo.1.2.2.2.2
          clear hFo hRw hs
          go_wp2
          go_ret
          exact ⟨rfl, HB.out⟩

set_option maxRecDepth 100000 in
set_option maxHeartbeats 4000000 in
theorem forgetsO_4 (p l : List Int) (vp vl : Value) (w : World) (hT : Wave.Tab w) (hrp : Reads .i16 0 w.heap.size w vp p) (hrl : Reads .i16 0 w.heap.size w vl l) (hp : p.length ≤ 300) (hl : l.length ≤ 100) (hpar : p.length % 2 = 1) :
    Calls Tryd.prog 5 #[.bool false, vp, vl] w fun e w' => e = .returned (.bool true) ∧ Below w.heap.size w w' := by
  have HSet : Hid (∀ wa, Below w.heap.size w wa → _) := fun wa (bela : Below w.heap.size w wa) => setup4 (m := 4) (by omega) hT bela
  have HCutP : Hid (∀ (alo agl blo bgl clo cgl dlo dgl : Nat) (xa xb lc ld : List Int) (wr : World), Four 4 alo agl blo bgl clo cgl dlo dgl xa xb lc ld w wr → _) := fun alo agl blo bgl clo cgl dlo dgl xa xb lc ld wr (h : Four 4 alo agl blo bgl clo cgl dlo dgl xa xb lc ld w wr) => four_cut (m := 4) (by omega) h (hrp.below h.1.2.2.2.2 (Nat.le_refl _)) h.1.2.2.2.2.size hp
  have HCutL : Hid (∀ (alo agl blo bgl clo cgl dlo dgl : Nat) (xa xb lc ld : List Int) (wr : World), Four 4 alo agl blo bgl clo cgl dlo dgl xa xb lc ld w wr → _) := fun alo agl blo bgl clo cgl dlo dgl xa xb lc ld wr (h : Four 4 alo agl blo bgl clo cgl dlo dgl xa xb lc ld w wr) => four_cut (m := 4) (by omega) h (hrl.below h.1.2.2.2.2 (Nat.le_refl _)) h.1.2.2.2.2.size (by omega)
  have HZ : Hid (∀ (alo agl blo bgl clo cgl dlo dgl : Nat) (xa xb lc ld : List Int) (wr : World), Four 4 alo agl blo bgl clo cgl dlo dgl xa xb lc ld w wr → _) := fun alo agl blo bgl clo cgl dlo dgl xa xb lc ld wr (h : Four 4 alo agl blo bgl clo cgl dlo dgl xa xb lc ld w wr) => four_zero (m := 4) (by omega) h
  have hm16 : ∀ wx : World, (Instr.makeSlice 22 (.int .i64 4) (.int .i64 4)).run Tryd.prog wx = .ok (.slice (some ⟨wx.heap.size, 0, none⟩) 4 4) (wx.alloc (.cells (enc .i16 (List.replicate 4 0)).toArray 32)) := fun wx => make16 wx 4 (by omega)
  have hm32 : ∀ wx : World, (Instr.makeSlice 33 (.int .i64 4) (.int .i64 4)).run Tryd.prog wx = .ok (.slice (some ⟨wx.heap.size, 0, none⟩) 4 4) (wx.alloc (.cells (enc .i32 (List.replicate 4 0)).toArray 21)) := fun wx => make32 wx 4 (by omega)
  generalize (enc .i16 (List.replicate 4 0)).toArray = C16 at *
  generalize (enc .i32 (List.replicate 4 0)).toArray = C32 at *
  have HT : Hid (Wave.Tab w) := hT
  obtain ⟨pa, pc, rfl⟩ := hrp.form
  obtain ⟨la, lc0, rfl⟩ := hrl.form
  obtain ⟨n, hn⟩ : ∃ n, (M.cutL 4 p).length = n := ⟨_, rfl⟩
  obtain ⟨nl, hnl⟩ : ∃ n, (M.cutL 4 l).length = n := ⟨_, rfl⟩
  have HN : Hid ((M.cutL 4 p).length = n) := hn
  have HNL : Hid ((M.cutL 4 l).length = nl) := hnl
  have hfew : n ≤ 75 := by rw [← hn]; exact M.cutL_few (by omega) (by omega)
  have hfewl : nl ≤ 75 := by rw [← hnl]; exact M.cutL_few (by omega) (by omega)
  have HR : Hid (∀ i, i < (M.cutL 4 p).length → ((M.cutL 4 p).getD i []).length = 4) := M.cutL_rows
  have HRL : Hid (∀ i, i < (M.cutL 4 l).length → ((M.cutL 4 l).getD i []).length = 4) := M.cutL_rows
  obtain ⟨P, hP⟩ : ∃ P, p.length = P := ⟨_, rfl⟩
  obtain ⟨L, hL⟩ : ∃ L, l.length = L := ⟨_, rfl⟩
  rw [hn, hP] at HCutP
  rw [hnl, hL] at HCutL
  rw [hP] at hp hpar ⊢
  rw [hL] at hl ⊢
  have hp' : ¬ (300 : Int) < P := by omega
  have hl' : ¬ (100 : Int) < L := by omega
  have htm : (P : Int).tmod 2 = 1 := by rw [tmod2, hpar]; rfl
  have hnot : ∀ (x : Bool) (w : World), (Op.unary .not (.bool x)).run Tryd.prog w = .ok (.bool (!x)) w := fun _ _ => rfl
  generalize M.cutL 4 p = zss at *
  generalize M.cutL 4 l = yss at *
  have hA : Hid True := trivial
  clear hT hrp hrl hn hnl hP hL hpar
  go_enter Tryd.func5, Tryd.ntmps5
  go_wp2_with (first
    | (go_at_call 8; refine (alive_any _ HT.out).mono ?_; rintro e wa ⟨rfl, bela⟩; have h1 := HSet.out wa bela; clear bela HSet HT)
    | (go_at_call 10; refine h1.mono ?_; clear h1; rintro e w1 ⟨bp, rfl, h2⟩)
    | (go_at_call 9; have _f := hA; refine h2.mono ?_; clear h2 hA; rintro e w2 ⟨agl, rfl, h1⟩)
    | (go_at_call 9; refine h2.mono ?_; clear h2; rintro e w2 ⟨bgl, rfl, h1⟩)
    | (go_at_call 15; refine h2.mono ?_; clear h2; first | (rintro e w5 ⟨dgl, rfl, alo, blo, clo, dlo, hFo⟩; have h3 := HCutP.out _ _ _ _ _ _ _ _ _ _ _ _ _ hFo; clear hFo HCutP) | (rintro e w5 ⟨cgl, rfl, h1⟩))
    | (go_at_call 11; refine h3.mono ?_; clear h3; rintro e w6 ⟨va, vc, rfl, hvc, hFo, r0, r1, g0, g1, hRw⟩; have HFo : Hid _ := hFo; have HRw : Hid _ := hRw; clear hFo hRw))
  have hvc' : (n : Int) ≤ vc := by omega
  have g1' : Hid (r1 ≤ w6.heap.size) := g1
  clear g1
  go_loopw [74] (fun i wr => ∃ k : Nat, k ≤ n ∧ i = .int .i64 k ∧ ∃ xa q, Four 4 alo agl blo bgl clo cgl dlo dgl xa (List.replicate (10 * 4) 0) q (List.replicate (20 * 4) 0) w wr ∧ Rows .i16 r0 r1 wr (.slice va n vc) zss ∧ r1 ≤ wr.heap.size) (fun i _ => n - (intOf i).toNat)
  case atStart => exact ⟨0, by omega, rfl, _, _, HFo.out, HRw.out, g1'.out⟩
  case round =>
    clear HFo HRw g1'
    obtain ⟨k, hk, rfl, xa, q, hFo, hRw, hs⟩ := hrel
    by_cases hlt : k < n
    · have hlt' : (k : Int) < n := by omega
      obtain ⟨b, off, rfl, _, _, _⟩ := hRw.cell (by rw [HN.out]; omega)
      obtain ⟨ua, uc, hc, hfeed⟩ := four_past (by omega) hFo hRw g0 hs (by rw [HN.out]; exact hlt) HR.out
      clear hFo hRw hs
      go_wp2_with (first
        | (go_at_call 12; refine hfeed.mono ?_; clear hfeed; rintro e w7 ⟨xa, xc, rfl, h5⟩)
        | (go_at_call 17; refine h5.mono ?_; clear h5; rintro e w8 ⟨ya, yc, rfl, hI⟩; have HI : Hid _ := hI; clear hI))
      go_roundw
      case rel => exact ⟨k + 1, by omega, by go_num, HI.out⟩
      case measure => simp [intOf] <;> omega
    · obtain rfl : k = n := by omega
      have HFo : Hid (Four 4 alo agl blo bgl clo cgl dlo dgl xa (List.replicate (10 * 4) 0) q (List.replicate (20 * 4) 0) w wr) := hFo
      have HX : Hid (xa.length = 10 * 4 ∧ q.length = 20 * 4) := ⟨hFo.1.1.2.2.2.1, hFo.1.2.1.2.2.2.1⟩
      clear hFo hRw hs HR HN hvc hvc'
      go_wp2
      go_loopw [20] (fun i wr => ∃ j : Nat, j ≤ 10 ∧ i = .int .i64 j ∧ Four 4 alo agl blo bgl clo cgl dlo dgl (M.zeroS 4 j xa) (List.replicate (10 * 4) 0) (M.zeroJ 4 j q) (List.replicate (20 * 4) 0) w wr) (fun i _ => 10 - (intOf i).toNat)
      case atStart => exact ⟨0, by omega, rfl, HFo.out⟩
      case round =>
        clear HFo
        obtain ⟨j, hj, rfl, hFo⟩ := hrel
        by_cases hlt : j < 10
        · have hlt' : (j : Int) < 10 := by omega
          have hz := HZ.out _ _ _ _ _ _ _ _ _ _ _ _ _ hFo
          rw [← M.zeroS_succ, ← M.zeroJ_succ] at hz
          clear hFo
          go_wp2_with (first
            | (go_at_call 12; refine hz.mono ?_; clear hz; rintro e w7 ⟨xa', xc, rfl, h5⟩)
            | (go_at_call 17; refine h5.mono ?_; clear h5; rintro e w8 ⟨ya, yc, rfl, hI⟩; have HI : Hid _ := hI; clear hI))
          go_roundw
          case rel => exact ⟨j + 1, by omega, by go_num, HI.out⟩
          case measure => simp [intOf] <;> omega
        · obtain rfl : j = 10 := by omega
          rw [M.zeroS_ten HX.out.1 (by omega), M.zeroJ_ten HX.out.2 (by omega)] at hFo
          have h11 := HCutL.out _ _ _ _ _ _ _ _ _ _ _ _ _ hFo
          clear hFo HCutL HX HZ hm16 hm32
          go_wp2_with (first
            | (go_at_call 11; refine h11.mono ?_; clear h11; rintro e w12 ⟨vb, ve, rfl, hvl, hFo, t0, t1, gl0, g2, hRw⟩; have HFo : Hid _ := hFo; have HRw : Hid _ := hRw; clear hFo hRw))
          have hvl' : (nl : Int) ≤ ve := by omega
          have g2' : Hid (t1 ≤ w12.heap.size) := g2
          clear g2
          go_loopw [136] (fun i wr => ∃ j : Nat, j ≤ nl ∧ i = .int .i64 j ∧ ∃ x q, Four 4 alo agl blo bgl clo cgl dlo dgl x x q q w wr ∧ Rows .i16 t0 t1 wr (.slice vb nl ve) yss ∧ t1 ≤ wr.heap.size) (fun i _ => nl - (intOf i).toNat)
          case atStart => exact ⟨0, by omega, rfl, _, _, HFo.out, HRw.out, g2'.out⟩
          case round =>
            clear HFo HRw g2'
            obtain ⟨j, hj, rfl, x, q, hFo, hRw, hs⟩ := hrel
            by_cases hlt : j < nl
            · have hlt' : (j : Int) < nl := by omega
              obtain ⟨b, off, rfl, _, _, _⟩ := hRw.cell (by rw [HNL.out]; omega)
              obtain ⟨ua, uc, hc, hfeed⟩ := four_round (by omega) hFo hRw gl0 hs (by rw [HNL.out]; exact hlt) HRL.out
              clear hFo hRw hs
              go_wp2_with (first
                | (go_at_call 12; refine hfeed.mono ?_; clear hfeed; rintro e w13 ⟨xa, xc, rfl, h5⟩)
                | (go_at_call 12; refine h5.mono ?_; clear h5; rintro e w14 ⟨za, zc, rfl, h6⟩)
                | (go_at_call 13; refine h6.mono ?_; clear h6; rintro e w15 ⟨rfl, h7⟩)
                | (go_at_call 17; refine h7.mono ?_; clear h7; rintro e w16 ⟨ya, yc, rfl, h9⟩)
                | (go_at_call 17; refine h9.mono ?_; clear h9; rintro e w17 ⟨qa, qc, rfl, h10⟩)
                | (go_at_call 18; refine h10.mono ?_; clear h10; rintro e w18 ⟨rfl, hI⟩; have HI : Hid _ := hI; clear hI))
              go_roundw
              case rel => exact ⟨j + 1, by omega, by go_num, HI.out⟩
              case measure => simp [intOf] <;> omega
            · obtain rfl : j = nl := by omega
              have HB : Hid (Below w.heap.size w wr) := hFo.1.2.2.2.2
              clear hFo hRw hs
              go_wp2
              go_ret
              exact ⟨rfl, HB.out⟩

set_option maxRecDepth 100000 in
set_option maxHeartbeats 4000000 in
theorem forgetsO_8 (p l : List Int) (vp vl : Value) (w : World) (hT : Wave.Tab w) (hrp : Reads .i16 0 w.heap.size w vp p) (hrl : Reads .i16 0 w.heap.size w vl l) (hp : p.length ≤ 300) (hl : l.length ≤ 100) (hpar : p.length % 2 = 1) :
    Calls Tryd.prog 5 #[.bool true, vp, vl] w fun e w' => e = .returned (.bool true) ∧ Below w.heap.size w w' := by
  have HSet : Hid (∀ wa, Below w.heap.size w wa → _) := fun wa (bela : Below w.heap.size w wa) => setup4 (m := 8) (by omega) hT bela
  have HCutP : Hid (∀ (alo agl blo bgl clo cgl dlo dgl : Nat) (xa xb lc ld : List Int) (wr : World), Four 8 alo agl blo bgl clo cgl dlo dgl xa xb lc ld w wr → _) := fun alo agl blo bgl clo cgl dlo dgl xa xb lc ld wr (h : Four 8 alo agl blo bgl clo cgl dlo dgl xa xb lc ld w wr) => four_cut (m := 8) (by omega) h (hrp.below h.1.2.2.2.2 (Nat.le_refl _)) h.1.2.2.2.2.size hp
  have HCutL : Hid (∀ (alo agl blo bgl clo cgl dlo dgl : Nat) (xa xb lc ld : List Int) (wr : World), Four 8 alo agl blo bgl clo cgl dlo dgl xa xb lc ld w wr → _) := fun alo agl blo bgl clo cgl dlo dgl xa xb lc ld wr (h : Four 8 alo agl blo bgl clo cgl dlo dgl xa xb lc ld w wr) => four_cut (m := 8) (by omega) h (hrl.below h.1.2.2.2.2 (Nat.le_refl _)) h.1.2.2.2.2.size (by omega)
  have HZ : Hid (∀ (alo agl blo bgl clo cgl dlo dgl : Nat) (xa xb lc ld : List Int) (wr : World), Four 8 alo agl blo bgl clo cgl dlo dgl xa xb lc ld w wr → _) := fun alo agl blo bgl clo cgl dlo dgl xa xb lc ld wr (h : Four 8 alo agl blo bgl clo cgl dlo dgl xa xb lc ld w wr) => four_zero (m := 8) (by omega) h
  have hm16 : ∀ wx : World, (Instr.makeSlice 22 (.int .i64 8) (.int .i64 8)).run Tryd.prog wx = .ok (.slice (some ⟨wx.heap.size, 0, none⟩) 8 8) (wx.alloc (.cells (enc .i16 (List.replicate 8 0)).toArray 32)) := fun wx => make16 wx 8 (by omega)
  have hm32 : ∀ wx : World, (Instr.makeSlice 33 (.int .i64 8) (.int .i64 8)).run Tryd.prog wx = .ok (.slice (some ⟨wx.heap.size, 0, none⟩) 8 8) (wx.alloc (.cells (enc .i32 (List.replicate 8 0)).toArray 21)) := fun wx => make32 wx 8 (by omega)
  generalize (enc .i16 (List.replicate 8 0)).toArray = C16 at *
  generalize (enc .i32 (List.replicate 8 0)).toArray = C32 at *
  have HT : Hid (Wave.Tab w) := hT
  obtain ⟨pa, pc, rfl⟩ := hrp.form
  obtain ⟨la, lc0, rfl⟩ := hrl.form
  obtain ⟨n, hn⟩ : ∃ n, (M.cutL 8 p).length = n := ⟨_, rfl⟩
  obtain ⟨nl, hnl⟩ : ∃ n, (M.cutL 8 l).length = n := ⟨_, rfl⟩
  have HN : Hid ((M.cutL 8 p).length = n) := hn
  have HNL : Hid ((M.cutL 8 l).length = nl) := hnl
  have hfew : n ≤ 75 := by rw [← hn]; exact M.cutL_few (by omega) (by omega)
  have hfewl : nl ≤ 75 := by rw [← hnl]; exact M.cutL_few (by omega) (by omega)
  have HR : Hid (∀ i, i < (M.cutL 8 p).length → ((M.cutL 8 p).getD i []).length = 8) := M.cutL_rows
  have HRL : Hid (∀ i, i < (M.cutL 8 l).length → ((M.cutL 8 l).getD i []).length = 8) := M.cutL_rows
  obtain ⟨P, hP⟩ : ∃ P, p.length = P := ⟨_, rfl⟩
  obtain ⟨L, hL⟩ : ∃ L, l.length = L := ⟨_, rfl⟩
  rw [hn, hP] at HCutP
  rw [hnl, hL] at HCutL
  rw [hP] at hp hpar ⊢
  rw [hL] at hl ⊢
  have hp' : ¬ (300 : Int) < P := by omega
  have hl' : ¬ (100 : Int) < L := by omega
  have htm : (P : Int).tmod 2 = 1 := by rw [tmod2, hpar]; rfl
  have hnot : ∀ (x : Bool) (w : World), (Op.unary .not (.bool x)).run Tryd.prog w = .ok (.bool (!x)) w := fun _ _ => rfl
  generalize M.cutL 8 p = zss at *
  generalize M.cutL 8 l = yss at *
  have hA : Hid True := trivial
  clear hT hrp hrl hn hnl hP hL hpar
  go_enter Tryd.func5, Tryd.ntmps5
  go_wp2_with (first
    | (go_at_call 8; refine (alive_any _ HT.out).mono ?_; rintro e wa ⟨rfl, bela⟩; have h1 := HSet.out wa bela; clear bela HSet HT)
    | (go_at_call 10; refine h1.mono ?_; clear h1; rintro e w1 ⟨bp, rfl, h2⟩)
    | (go_at_call 9; have _f := hA; refine h2.mono ?_; clear h2 hA; rintro e w2 ⟨agl, rfl, h1⟩)
    | (go_at_call 9; refine h2.mono ?_; clear h2; rintro e w2 ⟨bgl, rfl, h1⟩)
    | (go_at_call 15; refine h2.mono ?_; clear h2; first | (rintro e w5 ⟨dgl, rfl, alo, blo, clo, dlo, hFo⟩; have h3 := HCutP.out _ _ _ _ _ _ _ _ _ _ _ _ _ hFo; clear hFo HCutP) | (rintro e w5 ⟨cgl, rfl, h1⟩))
    | (go_at_call 11; refine h3.mono ?_; clear h3; rintro e w6 ⟨va, vc, rfl, hvc, hFo, r0, r1, g0, g1, hRw⟩; have HFo : Hid _ := hFo; have HRw : Hid _ := hRw; clear hFo hRw))
  have hvc' : (n : Int) ≤ vc := by omega
  have g1' : Hid (r1 ≤ w6.heap.size) := g1
  clear g1
  go_loopw [74] (fun i wr => ∃ k : Nat, k ≤ n ∧ i = .int .i64 k ∧ ∃ xa q, Four 8 alo agl blo bgl clo cgl dlo dgl xa (List.replicate (10 * 8) 0) q (List.replicate (20 * 8) 0) w wr ∧ Rows .i16 r0 r1 wr (.slice va n vc) zss ∧ r1 ≤ wr.heap.size) (fun i _ => n - (intOf i).toNat)
  case atStart => exact ⟨0, by omega, rfl, _, _, HFo.out, HRw.out, g1'.out⟩
  case round =>
    clear HFo HRw g1'
    obtain ⟨k, hk, rfl, xa, q, hFo, hRw, hs⟩ := hrel
    by_cases hlt : k < n
    · have hlt' : (k : Int) < n := by omega
      obtain ⟨b, off, rfl, _, _, _⟩ := hRw.cell (by rw [HN.out]; omega)
      obtain ⟨ua, uc, hc, hfeed⟩ := four_past (by omega) hFo hRw g0 hs (by rw [HN.out]; exact hlt) HR.out
      clear hFo hRw hs
      go_wp2_with (first
        | (go_at_call 12; refine hfeed.mono ?_; clear hfeed; rintro e w7 ⟨xa, xc, rfl, h5⟩)
        | (go_at_call 17; refine h5.mono ?_; clear h5; rintro e w8 ⟨ya, yc, rfl, hI⟩; have HI : Hid _ := hI; clear hI))
      go_roundw
      case rel => exact ⟨k + 1, by omega, by go_num, HI.out⟩
      case measure => simp [intOf] <;> omega
    · obtain rfl : k = n := by omega
      have HFo : Hid (Four 8 alo agl blo bgl clo cgl dlo dgl xa (List.replicate (10 * 8) 0) q (List.replicate (20 * 8) 0) w wr) := hFo
      have HX : Hid (xa.length = 10 * 8 ∧ q.length = 20 * 8) := ⟨hFo.1.1.2.2.2.1, hFo.1.2.1.2.2.2.1⟩
      clear hFo hRw hs HR HN hvc hvc'
      go_wp2
      go_loopw [20] (fun i wr => ∃ j : Nat, j ≤ 10 ∧ i = .int .i64 j ∧ Four 8 alo agl blo bgl clo cgl dlo dgl (M.zeroS 8 j xa) (List.replicate (10 * 8) 0) (M.zeroJ 8 j q) (List.replicate (20 * 8) 0) w wr) (fun i _ => 10 - (intOf i).toNat)
      case atStart => exact ⟨0, by omega, rfl, HFo.out⟩
      case round =>
        clear HFo
        obtain ⟨j, hj, rfl, hFo⟩ := hrel
        by_cases hlt : j < 10
        · have hlt' : (j : Int) < 10 := by omega
          have hz := HZ.out _ _ _ _ _ _ _ _ _ _ _ _ _ hFo
          rw [← M.zeroS_succ, ← M.zeroJ_succ] at hz
          clear hFo
          go_wp2_with (first
            | (go_at_call 12; refine hz.mono ?_; clear hz; rintro e w7 ⟨xa', xc, rfl, h5⟩)
            | (go_at_call 17; refine h5.mono ?_; clear h5; rintro e w8 ⟨ya, yc, rfl, hI⟩; have HI : Hid _ := hI; clear hI))
          go_roundw
          case rel => exact ⟨j + 1, by omega, by go_num, HI.out⟩
          case measure => simp [intOf] <;> omega
        · obtain rfl : j = 10 := by omega
          rw [M.zeroS_ten HX.out.1 (by omega), M.zeroJ_ten HX.out.2 (by omega)] at hFo
          have h11 := HCutL.out _ _ _ _ _ _ _ _ _ _ _ _ _ hFo
          clear hFo HCutL HX HZ hm16 hm32
          go_wp2_with (first
            | (go_at_call 11; refine h11.mono ?_; clear h11; rintro e w12 ⟨vb, ve, rfl, hvl, hFo, t0, t1, gl0, g2, hRw⟩; have HFo : Hid _ := hFo; have HRw : Hid _ := hRw; clear hFo hRw))
          have hvl' : (nl : Int) ≤ ve := by omega
          have g2' : Hid (t1 ≤ w12.heap.size) := g2
          clear g2
          go_loopw [136] (fun i wr => ∃ j : Nat, j ≤ nl ∧ i = .int .i64 j ∧ ∃ x q, Four 8 alo agl blo bgl clo cgl dlo dgl x x q q w wr ∧ Rows .i16 t0 t1 wr (.slice vb nl ve) yss ∧ t1 ≤ wr.heap.size) (fun i _ => nl - (intOf i).toNat)
          case atStart => exact ⟨0, by omega, rfl, _, _, HFo.out, HRw.out, g2'.out⟩
          case round =>
            clear HFo HRw g2'
            obtain ⟨j, hj, rfl, x, q, hFo, hRw, hs⟩ := hrel
            by_cases hlt : j < nl
            · have hlt' : (j : Int) < nl := by omega
              obtain ⟨b, off, rfl, _, _, _⟩ := hRw.cell (by rw [HNL.out]; omega)
              obtain ⟨ua, uc, hc, hfeed⟩ := four_round (by omega) hFo hRw gl0 hs (by rw [HNL.out]; exact hlt) HRL.out
              clear hFo hRw hs
              go_wp2_with (first
                | (go_at_call 12; refine hfeed.mono ?_; clear hfeed; rintro e w13 ⟨xa, xc, rfl, h5⟩)
                | (go_at_call 12; refine h5.mono ?_; clear h5; rintro e w14 ⟨za, zc, rfl, h6⟩)
                | (go_at_call 13; refine h6.mono ?_; clear h6; rintro e w15 ⟨rfl, h7⟩)
                | (go_at_call 17; refine h7.mono ?_; clear h7; rintro e w16 ⟨ya, yc, rfl, h9⟩)
                | (go_at_call 17; refine h9.mono ?_; clear h9; rintro e w17 ⟨qa, qc, rfl, h10⟩)
                | (go_at_call 18; refine h10.mono ?_; clear h10; rintro e w18 ⟨rfl, hI⟩; have HI : Hid _ := hI; clear hI))
              go_roundw
              case rel => exact ⟨j + 1, by omega, by go_num, HI.out⟩
              case measure => simp [intOf] <;> omega
            · obtain rfl : j = nl := by omega
              have HB : Hid (Below w.heap.size w wr) := hFo.1.2.2.2.2
              clear hFo hRw hs
              go_wp2
              go_ret
              exact ⟨rfl, HB.out⟩

set_option maxRecDepth 100000 in
theorem forgets_long (b0 : Bool) (p l : List Int) (vp vl : Value) (w : World) (hT : Wave.Tab w) (hrp : Reads .i16 0 w.heap.size w vp p) (hrl : Reads .i16 0 w.heap.size w vl l) (h : 300 < p.length ∨ 100 < l.length) :
    Calls Tryd.prog 5 #[.bool b0, vp, vl] w fun e w' => e = .returned (.bool true) ∧ Below w.heap.size w w' := by
  have HT : Hid (Wave.Tab w) := hT
  obtain ⟨pa, pc, rfl⟩ := hrp.form
  obtain ⟨la, lc0, rfl⟩ := hrl.form
  obtain ⟨P, hP⟩ : ∃ P, p.length = P := ⟨_, rfl⟩
  obtain ⟨L, hL⟩ : ∃ L, l.length = L := ⟨_, rfl⟩
  rw [hP] at h ⊢
  rw [hL] at h ⊢
  have hnot : ∀ (x : Bool) (w : World), (Op.unary .not (.bool x)).run Tryd.prog w = .ok (.bool (!x)) w := fun _ _ => rfl
  clear hT hrp hrl hP hL
  rcases (by omega : (300 : Int) < P ∨ (¬ (300 : Int) < P ∧ (100 : Int) < L)) with h1 | ⟨h1, h2⟩
  · clear h
    go_enter Tryd.func5, Tryd.ntmps5
    go_wp2_with (go_at_call 8; refine (alive_any _ HT.out).mono ?_; rintro e wa ⟨rfl, bela⟩)
    go_ret
    exact ⟨rfl, bela⟩
  · clear h
    go_enter Tryd.func5, Tryd.ntmps5
    go_wp2_with (go_at_call 8; refine (alive_any _ HT.out).mono ?_; rintro e wa ⟨rfl, bela⟩)
    go_ret
    exact ⟨rfl, bela⟩

theorem PolyForgets_walk (b0 : Bool) (p l : List Int) (vp vl : Value) (w : World) (hT : Wave.Tab w) (hrp : Reads .i16 0 w.heap.size w vp p) (hrl : Reads .i16 0 w.heap.size w vl l) :
    Calls Tryd.prog 5 #[.bool b0, vp, vl] w fun e w' => e = .returned (.bool true) ∧ Below w.heap.size w w' := by
  by_cases h : 300 < p.length ∨ 100 < l.length
  · exact forgets_long b0 p l vp vl w hT hrp hrl h
  · rcases Nat.mod_two_eq_zero_or_one p.length with hp | hp
    · cases b0
      · exact forgetsE_4 p l vp vl w hT hrp hrl (by omega) (by omega) hp
      · exact forgetsE_8 p l vp vl w hT hrp hrl (by omega) (by omega) hp
    · cases b0
      · exact forgetsO_4 p l vp vl w hT hrp hrl (by omega) (by omega) hp
      · exact forgetsO_8 p l vp vl w hT hrp hrl (by omega) (by omega) hp

end Poly
end Go.Proofs.YtkmkackifihhjaaDoor
