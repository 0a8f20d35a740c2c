/-
  The document's answer for layer 12: what bands get. Conditions: as told at each.
-/
import Derived.Test.YthlpbekfjolenaaDoorAllocRefN
import Derived.Deep.DeepCutAuto
namespace Go.Proofs.YthlpbekfjolenaaDoor
set_option linter.unusedVariables false
open Go.RowKit
namespace Alloc
open Bank (Blk But)
open Poly (alloc_size enc enc_get cell_keep below_drew Gat Fill)
open _root_.Go.Proofs.YthlpbekfjolenaaDoor.Form (fv fc bel1 blk_below box_cells of_drew box_behind)

set_option maxHeartbeats 1000000 in
theorem rCosts_any (n : Nat → Int) (N : Nat) (s : Int) (w : World) (b off c : Nat) (hx : ∀ j, j < N → w.cell? ⟨b, off + j, none⟩ = some (.int .i64 (n j))) (hn : ∀ j, -5 ≤ n j ∧ n j ≤ 15) (N16 : N ≤ 16) (hs : -100 ≤ s ∧ s ≤ 100) :
    Calls Tryd.prog 20 #[.slice (some ⟨b, off, none⟩) N c, .int .i64 s] w fun e w' => e = .returned (.int .i64 (M.cst n N s)) ∧ w' = w := by
  have HX : Hid _ := hx
  have HN : Hid (∀ j, -5 ≤ n j ∧ n j ≤ 15) := hn
  clear hx hn
  obtain ⟨s0, s1⟩ := hs
  have N1 : (N : Int) ≤ 16 := by omega
  go_enter Tryd.func20, Tryd.ntmps20
  go_wp2
  go_loopw [5, 6] (fun v i wr => ∃ k : Nat, k ≤ N ∧ v = .int .i64 (M.cst n k s) ∧ i = .int .i64 k ∧ wr = w) (fun _ i _ => N - (intOf i).toNat)
  case atStart => exact ⟨0, by omega, rfl, rfl, rfl⟩
  case round =>
    obtain ⟨k, hk, rfl, rfl, hw⟩ := hrel
    subst hw
    by_cases hlt : k < N
    · have hlt' : (k : Int) < N := by omega
      have y1 := HX.out k hlt
      obtain ⟨n0, n1⟩ := HN.out k
      have HC : Hid (M.cst n (k + 1) s = M.cst n k s + M.c16 (n k - s)) := rfl
      have hcb := M.cst_bd n k s
      have c0 : 0 ≤ M.cst n k s := hcb.1
      have c1 : M.cst n k s ≤ 32 := by omega
      clear hcb
      generalize M.cst n k s = Y at *
      generalize n k = y at *
      rcases (by omega : y = s + 1 ∨ (s + 1 < y ∧ y < s + 16) ∨ (s + 1 < y ∧ ¬ y < s + 16) ∨ (¬ y = s + 1 ∧ ¬ s + 1 < y)) with h1 | ⟨h1, h2⟩ | ⟨h1, h2⟩ | ⟨h0, h1⟩
      · have HE : Hid (M.c16 (y - s) = 2) := by show M.c16 (y - s) = 2; unfold M.c16; rw [if_pos (by omega)]
        have e1 : (y == s + 1) = true := by simp [h1]
        have e2 : ¬ s + 1 < y := by omega
        clear h1
        go_wp2
        go_roundw
        case rel => exact ⟨k + 1, by omega, by rw [HC.out, HE.out], by go_num, by first | rfl | trivial⟩
        case measure => simp [intOf]; omega
      · have HE : Hid (M.c16 (y - s) = 1) := by show M.c16 (y - s) = 1; unfold M.c16; rw [if_neg (by omega), if_pos (by omega)]
        have e1 : (y == s + 1) = false := by simp; omega
        go_wp2
        go_roundw
        case rel => exact ⟨k + 1, by omega, by rw [HC.out, HE.out], by go_num, by first | rfl | trivial⟩
        case measure => simp [intOf]; omega
      · have HE : Hid (M.c16 (y - s) = 0) := by show M.c16 (y - s) = 0; unfold M.c16; rw [if_neg (by omega), if_neg (by omega)]
        have e1 : (y == s + 1) = false := by simp; omega
        go_wp2
        go_roundw
        case rel => exact ⟨k + 1, by omega, by rw [HC.out, HE.out, Int.add_zero], by go_num, by first | rfl | trivial⟩
        case measure => simp [intOf]; omega
      · have HE : Hid (M.c16 (y - s) = 0) := by show M.c16 (y - s) = 0; unfold M.c16; rw [if_neg (by omega), if_neg (by omega)]
        have e1 : (y == s + 1) = false := by simp; omega
        go_wp2
        go_roundw
        case rel => exact ⟨k + 1, by omega, by rw [HC.out, HE.out, Int.add_zero], by go_num, by first | rfl | trivial⟩
        case measure => simp [intOf]; omega
    · obtain rfl : k = N := by omega
      go_wp2
      go_ret
      exact ⟨rfl, rfl⟩

/-- the bits of N bands in the block that was made first behind W -/
structure Bits (W : World) (N : Nat) (G : Nat → Int) (wr : World) : Prop where
  row : Fill .i64 3 W.heap.size N N G wr
  bel : Below W.heap.size W wr
theorem Bits.set {W w : World} {N k : Nat} {G G' : Nat → Int} (h : Bits W N G w) (hk : k < N) {x : Int} (hx : x = G' k) (ho : ∀ j, j ≠ k → G' j = G j) : Bits W N G' (w.setCell ⟨W.heap.size, k, none⟩ (.int .i64 x)) := by
  obtain ⟨⟨tab, h1, h2, h3⟩, hb⟩ := h
  refine ⟨⟨_, h1.set _ _, by simpa using h2, fun j hj => ?_⟩, hb.setCell (Nat.le_refl _) _⟩
  rw [Array.getElem?_setIfInBounds]
  split
  · rename_i e; subst e; rw [if_pos (by omega), hx]
  · rename_i e; rw [h3 j hj, ho j (fun h => e h.symm)]
theorem Bits.ext {W w : World} {N : Nat} {G G' : Nat → Int} (h : Bits W N G w) (e : ∀ j, j < N → G j = G' j) : Bits W N G' w := by
  obtain ⟨⟨tab, h1, h2, h3⟩, hb⟩ := h
  exact ⟨⟨tab, h1, h2, fun j hj => by rw [h3 j hj, e j hj]⟩, hb⟩
theorem Bits.at {W w : World} {N k : Nat} {G : Nat → Int} (h : Bits W N G w) (hk : k < N) : w.cell? ⟨W.heap.size, k, none⟩ = some (.int .i64 (G k)) := by
  obtain ⟨⟨tab, h1, h2, h3⟩, hb⟩ := h
  exact h1.cell (h3 k hk)
theorem Bits.free {W w : World} {N : Nat} {G : Nat → Int} (h : Bits W N G w) (k : Nat) : w.frozen? ⟨W.heap.size, k, none⟩ = false := by
  obtain ⟨⟨tab, h1, h2, h3⟩, hb⟩ := h
  exact h1.free k
theorem Bits.new (W : World) (N : Nat) : Bits W N (fun _ => 0) (W.alloc (.cells (enc .i64 (List.replicate N 0)).toArray 3)) := by
  refine ⟨⟨_, Blk.new W _ _, by simp [enc], fun j hj => ?_⟩, bel1 _ _⟩
  rw [List.getElem?_toArray, enc_get (by simpa using hj)]
  simp [List.getD, hj]

set_option maxHeartbeats 8000000 in
set_option maxRecDepth 100000 in
theorem rShare_ok (f : M.Fmt) (vs : Value) (zss : List (List Int)) (C B r : Nat) (w : World) (h : Good f zss C B r) (hZ : Poly.Rows .i64 0 w.heap.size w vs zss) {sl : Int} (hl : M.lst (M.nd f.m C B r zss) (B * C) f.p sl) (hs : -21 < sl ∧ sl ≤ 16) :
    Calls Tryd.prog 11 #[fv f, vs] w fun e w' => Lst w (B * C) (M.shr (M.nd f.m C B r zss) (B * C) f.p sl) e w' := by
  have hnd := rNeeds_ok f vs zss C B r (w.alloc (.cells (fc f) 23)) h (by rw [alloc_size]; exact (hZ.below (bel1 w _) (Nat.le_refl _)).mono (Nat.le_refl _) (by omega))
  have nb := M.nd_bd (m := f.m) (C := C) (r := r) h.sca
  have np := h.np
  have N4 : 4 ≤ B * C := by
    have : 4 * 1 ≤ B * C := Nat.mul_le_mul (by have := h.b8; omega) h.c2.1
    omega
  have N16 : B * C ≤ 16 := by
    have : B * C ≤ 8 * 2 := Nat.mul_le_mul (by have := h.b8; omega) h.c2.2
    omega
  obtain ⟨ax, cx, rfl, _⟩ := hZ.form
  clear h hZ
  generalize M.nd f.m C B r zss = n at *
  generalize B * C = N at *
  obtain ⟨c_, r_, h_, b_, k_, m_, j_, p, l_, y_⟩ := f
  unfold fv at hnd ⊢
  unfold fc at hnd
  dsimp only at hnd hl np ⊢
  obtain ⟨p0, p16, p250⟩ := np
  have fb := M.fin_bd n N p sl
  have ft := M.fin_tot hl
  have tb := M.tot_bd n N (M.fin n N p sl)
  have F0 : -22 ≤ M.fin n N p sl := by omega
  have F1 : M.fin n N p sl ≤ 16 := by omega
  have HF : Hid (M.fin n N p sl = (if M.tot n N (sl - 1) = p then sl - 1 else sl) ∧ M.x0 n N p sl = M.tot n N (if M.tot n N (sl - 1) = p then sl - 1 else sl)) := ⟨rfl, rfl⟩
  have HXb : Hid (0 ≤ M.x0 n N p sl ∧ M.x0 n N p sl ≤ p) := ⟨tb.1, ft⟩
  have HB0 : Hid (∀ j, M.b0 n N p sl j = M.h16 (n j - M.fin n N p sl)) := fun j => rfl
  have HB1 : Hid (∀ j, M.b1 n N p sl j = M.bts true n (M.fin n N p sl) p (M.b0 n N p sl) (M.x0 n N p sl) N j) := fun j => rfl
  have HX1 : Hid (M.x1 n N p sl = M.sg true n (M.fin n N p sl) p (M.b0 n N p sl) (M.x0 n N p sl) N) := rfl
  have HB2 : Hid (∀ j, M.shr n N p sl j = M.bts false n (M.fin n N p sl) p (M.b1 n N p sl) (M.x1 n N p sl) N j) := fun j => rfl
  have HBb : Hid ((∀ j, 0 ≤ M.b0 n N p sl j ∧ M.b0 n N p sl j ≤ 16) ∧ ∀ j, 0 ≤ M.b1 n N p sl j ∧ M.b1 n N p sl j ≤ 16) := ⟨M.b0_bd n N p sl, M.b1_bd n N p sl⟩
  generalize M.fin n N p sl = F at *
  generalize M.x0 n N p sl = X0 at *
  generalize M.x1 n N p sl = X1 at *
  generalize M.b0 n N p sl = B0 at *
  generalize M.b1 n N p sl = B1 at *
  generalize M.shr n N p sl = B2 at *
  have mb := M.mx_bd n N (fun j _ => (nb j).2)
  have HT0 : Hid (M.tot n N (M.mx n N) = 0) := M.mx_top n N _ (by omega)
  have HTT : Hid (∀ t, M.tot n N (t - 1) = M.tot n N t + M.cst n N t ∧ 0 ≤ M.cst n N t ∧ M.cst n N t ≤ 32 ∧ 0 ≤ M.tot n N t) := fun t => ⟨M.tot_pred n N t, (M.cst_bd n N t).1, by have := (M.cst_bd n N t).2; omega, (M.tot_bd n N t).1⟩
  have HL : Hid (M.lst n N p sl) := hl
  have Hsl : Hid (-21 < sl ∧ sl ≤ 16) := hs
  have HNb : Hid (∀ j, -5 ≤ n j ∧ n j ≤ 15) := nb
  have HM1 : Hid (n 0 = M.mx n 1) := by
    show n 0 = if (-5 : Int) < n 0 then n 0 else -5
    have := (nb 0).1
    split <;> omega
  have N1 : (4 : Int) ≤ N := by omega
  have N2 : (N : Int) ≤ 16 := by omega
  clear fb ft tb nb hl hs p16
  obtain ⟨mb0, mb1⟩ := mb
  go_enter Tryd.func11, Tryd.ntmps11
  go_wp2_with (go_at_call 10; refine hnd.mono ?_; clear hnd; rintro e w2 ⟨b, off, c, rfl, hb0, hb1, hx, bel⟩; have x7 : w2.cell? ⟨w.heap.size, 7, none⟩ = some (.int .i64 p) := (box_cells (box_behind (f := ⟨c_, r_, h_, b_, k_, m_, j_, p, l_, y_⟩) bel).1).2.2.2.2.2.2.2.1; have BE : Hid (Below w.heap.size w w2 ∧ w.heap.size < w2.heap.size) := ⟨(box_behind (f := ⟨c_, r_, h_, b_, k_, m_, j_, p, l_, y_⟩) bel).2, (box_behind (f := ⟨c_, r_, h_, b_, k_, m_, j_, p, l_, y_⟩) bel).1.lt⟩; have HX : Hid (∀ j, j < N → w2.cell? ⟨b, off + j, none⟩ = some (.int .i64 (n j))) := hx; have k0 : w2.cell? ⟨b, off, none⟩ = some (.int .i64 (n 0)) := hx 0 (by omega); have Hbl : Hid (b < w2.heap.size) := hb1; clear hx hb0 hb1 bel)
  go_loopw [6, 7] (fun s i wr => ∃ k : Nat, 1 ≤ k ∧ k ≤ N ∧ s = .int .i64 (M.mx n k) ∧ i = .int .i64 k ∧ wr = w2) (fun _ i _ => N - (intOf i).toNat)
  case atStart => exact ⟨1, by omega, by omega, by rw [HM1.out], rfl, rfl⟩
  case round =>
    obtain ⟨k, hk1, hk, rfl, rfl, hw⟩ := hrel
    subst hw
    by_cases hlt : k < N
    · have hlt' : (k : Int) < N := by omega
      have y1 := HX.out k hlt
      have HMx : Hid ((if M.mx n k < n k then n k else M.mx n k) = M.mx n (k + 1)) := rfl
      generalize n k = y at *
      generalize M.mx n k = z at *
      go_wp2
      go_roundw
      case rel => exact ⟨k + 1, by omega, by omega, by rw [← HMx.out], by go_num, by first | rfl | trivial⟩
      case measure => simp [intOf]; omega
    · obtain rfl : k = N := by omega
      generalize hmx : M.mx n k = z at *
      clear hmx
      go_wp2
      go_loopw [6, 8, 9] (fun s x a w3 => ∃ t X A : Int, s = .int .i64 t ∧ x = .int .i64 X ∧ a = .int .i64 A ∧ X + A = M.tot n k (t - 1) ∧ M.tot n k (t - 1) < p ∧ -21 < t - 1 ∧ t ≤ 16 ∧ 0 ≤ X ∧ X ≤ 250 ∧ 0 ≤ A ∧ A ≤ 250 ∧ w3 = wr) (fun s _ _ _ => (intOf s + 21).toNat)
      case atStart => exact ⟨z + 1, 0, 0, rfl, rfl, rfl, by rw [show z + 1 - 1 = z by omega, HT0.out]; rfl, by rw [show z + 1 - 1 = z by omega, HT0.out]; omega, by omega, by omega, by omega, by omega, by omega, by omega, rfl⟩
      case round =>
        clear HT0 mb0 mb1
        obtain ⟨t, X, A, rfl, rfl, rfl, hXA, hp, t0, t1, X0', X1', A0', A1', hw⟩ := hrel
        subst hw
        obtain ⟨T, hT⟩ : ∃ T, t - 1 = T := ⟨_, rfl⟩
        rw [hT] at hXA hp t0
        have T1 : T ≤ 15 := by omega
        obtain ⟨e1, K0, K1, T0⟩ := HTT.out T
        have hco := rCosts_any n k T wr b off c HX.out HNb.out (by omega) (by omega)
        have HE : Hid (M.tot n k (T - 1) = M.tot n k T + M.cst n k T) := e1
        clear e1
        by_cases hlt : M.tot n k T + M.cst n k T < p
        · have hst := M.lst_le HL.out (t := T - 1) (by rw [HE.out]; exact hlt)
          have hsl := Hsl.out.1
          generalize M.tot n k T = S at *
          generalize M.cst n k T = K at *
          go_wp2_with (go_at_call 20; refine hco.mono ?_; clear hco; rintro e w5 ⟨rfl, hw⟩; rw [hw]; clear hw w5)
          go_roundw
          case rel => exact ⟨T, S, K, by first | rfl | trivial, by first | rfl | trivial, by first | rfl | trivial, by rw [HE.out], by rw [HE.out]; exact hlt, by omega, by omega, by omega, by omega, by omega, by omega, by first | rfl | trivial⟩
          case measure => simp [intOf]; omega
        · have hst : T = sl := M.lst_one ⟨hp, by rw [HE.out]; omega⟩ HL.out
          have HF2 : Hid (F = (if M.tot n k (T - 1) = p then T - 1 else T) ∧ X0 = M.tot n k (if M.tot n k (T - 1) = p then T - 1 else T)) := by
            show _ ∧ _
            rw [hst]; exact HF.out
          clear hst HF HL Hsl
          have hmk := makeI wr k (by omega)
          have HNew : Hid (Bits wr k (fun _ => 0) (wr.alloc (.cells (enc .i64 (List.replicate k 0)).toArray 3))) := Bits.new wr k
          generalize (enc .i64 (List.replicate k 0)).toArray = zs at *
          go_upto_if 53 with (go_at_call 20; refine hco.mono ?_; clear hco; rintro e w5 ⟨rfl, hw⟩; rw [hw]; clear hw w5)
          go_cut [6, 8] (fun s x wx => s = .int .i64 F ∧ x = .int .i64 X0 ∧ wx = wr)
          case first =>
            by_cases he : M.tot n k T + M.cst n k T = p
            · have HF3 : Hid (F = T - 1 ∧ X0 = p) := by
                rw [← HE.out] at he
                show _ ∧ _
                rw [HF2.out.1, HF2.out.2, if_pos he]; exact ⟨rfl, he⟩
              clear HF2 F0 F1
              generalize M.tot n k T = S at *
              generalize M.cst n k T = K at *
              go_wp2
              go_meet
              exact ⟨by rw [HF3.out.1], by rw [HF3.out.2], by first | rfl | trivial⟩
            · have HF3 : Hid (F = T ∧ X0 = M.tot n k T) := by
                rw [← HE.out] at he
                show _ ∧ _
                rw [HF2.out.1, HF2.out.2, if_neg he]; exact ⟨rfl, rfl⟩
              clear HF2 F0 F1
              generalize M.tot n k T = S at *
              generalize M.cst n k T = K at *
              have he' : (S + K == p) = false := by simp [he]
              go_wp2
              go_meet
              exact ⟨by rw [HF3.out.1], by rw [HF3.out.2], by first | rfl | trivial⟩
          obtain ⟨rfl, hc2⟩ := hcut
          obtain ⟨rfl, hcw⟩ := hc2
          rw [hcw]
          clear hcw wc HE HF2 HTT hp T0 K0 K1
          obtain ⟨V, hV⟩ : ∃ V, V = wr := ⟨_, rfl⟩
          subst hV
          have Hx7 : Hid (V.cell? ⟨w.heap.size, 7, none⟩ = some (.int .i64 p)) := x7
          have HXb0 : Hid (0 ≤ X0 ∧ X0 ≤ p) := HXb.out
          have HXb1 : Hid (0 ≤ X1 ∧ X1 ≤ p) := by show 0 ≤ X1 ∧ X1 ≤ p; rw [HX1.out]; exact M.sg_bd true n F p B0 X0 HXb.out k
          clear x7 k0
          go_wp2
          go_loopw [11] (fun i w3 => ∃ q : Nat, q ≤ k ∧ i = .int .i64 q ∧ Bits V k (fun j => if j < q then M.h16 (n j - F) else 0) w3) (fun i _ => k - (intOf i).toNat)
          case atStart => exact ⟨0, by omega, rfl, HNew.out.ext fun j _ => by rw [if_neg (by omega)]⟩
          case round =>
            clear HNew hmk
            obtain ⟨q, hq, rfl, hbit⟩ := hrel
            by_cases hlt : q < k
            · have hlt' : (q : Int) < k := by omega
              have y1 : wr.cell? ⟨b, off + q, none⟩ = some (.int .i64 (n q)) := (cell_keep (hbit.bel.block b Hbl.out)).trans (HX.out q hlt)
              have z1 := hbit.at hlt
              have f1 := hbit.free q
              obtain ⟨n0, n1⟩ := HNb.out q
              have HSet : Hid (Bits V k (fun j => if j < q + 1 then M.h16 (n j - F) else 0) (wr.setCell ⟨V.heap.size, q, none⟩ (.int .i64 (M.h16 (n q - F))))) := by
                refine hbit.set hlt (by show _ = if q < q + 1 then _ else _; rw [if_pos (by omega)]) fun j hj => ?_
                by_cases h : j < q
                · rw [if_pos (by omega), if_pos h]
                · rw [if_neg (by omega), if_neg h]
              have HNone : Hid (M.h16 (n q - F) = 0 → Bits V k (fun j => if j < q + 1 then M.h16 (n j - F) else 0) wr) := by
                intro he
                refine hbit.ext fun j _ => ?_
                by_cases h : j < q
                · rw [if_pos h, if_pos (by omega)]
                · rw [if_neg h]
                  by_cases hjq : j = q
                  · subst hjq; rw [if_pos (by omega), he]
                  · rw [if_neg (by omega)]
              clear hbit
              generalize n q = y at *
              rcases (by omega : (F + 2 ≤ y ∧ 16 < y - F) ∨ (F + 2 ≤ y ∧ ¬ 16 < y - F) ∨ ¬ F + 2 ≤ y) with ⟨h1, h2⟩ | ⟨h1, h2⟩ | h1
              · have HE : Hid (M.h16 (y - F) = 16) := by show M.h16 (y - F) = 16; unfold M.h16; rw [if_neg (by omega), if_neg (by omega)]
                go_wp2
                go_roundw
                case rel => exact ⟨q + 1, by omega, by go_num, by have := HSet.out; rw [HE.out] at this; exact this⟩
                case measure => simp [intOf]; omega
              · have HE : Hid (M.h16 (y - F) = y - F) := by
                  show M.h16 (y - F) = y - F
                  unfold M.h16; rw [if_neg (by omega)]; split <;> omega
                go_wp2
                go_roundw
                case rel => exact ⟨q + 1, by omega, by go_num, by have := HSet.out; rw [HE.out] at this; exact this⟩
                case measure => simp [intOf]; omega
              · have HE : Hid (M.h16 (y - F) = 0) := by show M.h16 (y - F) = 0; unfold M.h16; rw [if_pos (by omega)]
                go_wp2
                go_roundw
                case rel => exact ⟨q + 1, by omega, by go_num, HNone.out HE.out⟩
                case measure => simp [intOf]; omega
            · obtain rfl : q = k := by omega
              have HEnd : Hid (Bits V q B0 wr) := hbit.ext fun j hj => by rw [if_pos hj, HB0.out j]
              clear hbit
              obtain ⟨k, hk3⟩ : ∃ k, k = q := ⟨_, rfl⟩
              subst hk3
              go_wp2
              go_loopw [8, 12] (fun x i w4 => ∃ q : Nat, q ≤ k ∧ x = .int .i64 (M.sg true n F p B0 X0 q) ∧ i = .int .i64 q ∧ Bits V k (fun j => M.bts true n F p B0 X0 q j) w4) (fun _ i _ => k - (intOf i).toNat)
              case atStart => exact ⟨0, by omega, rfl, rfl, HEnd.out.ext fun j _ => (M.bts_zero true n F p B0 X0 j).symm⟩
              case round =>
                clear HEnd
                obtain ⟨q, hq, rfl, rfl, hbit⟩ := hrel
                have x7 : wr.cell? ⟨w.heap.size, 7, none⟩ = some (.int .i64 p) := (cell_keep (hbit.bel.block _ BE.out.2)).trans Hx7.out
                have vb := M.sg_bd true n F p B0 X0 HXb0.out q
                by_cases hcond : q < k ∧ M.sg true n F p B0 X0 q < p
                · obtain ⟨hlt, hv⟩ := hcond
                  have hlt' : (q : Int) < k := by omega
                  have y1 : wr.cell? ⟨b, off + q, none⟩ = some (.int .i64 (n q)) := (cell_keep (hbit.bel.block b Hbl.out)).trans (HX.out q hlt)
                  have z1 := hbit.at hlt
                  have f1 := hbit.free q
                  rw [M.bts_self] at z1
                  obtain ⟨n0, n1⟩ := HNb.out q
                  obtain ⟨z0, z2⟩ := HBb.out.1 q
                  have HSg : Hid (M.sg true n F p B0 X0 (q + 1) = M.sg1 true (n q) F p (M.sg true n F p B0 X0 q) (B0 q)) := rfl
                  have HSet : Hid (∀ x, x = M.bt1 true (n q) F p (M.sg true n F p B0 X0 q) (B0 q) → Bits V k (fun j => M.bts true n F p B0 X0 (q + 1) j) (wr.setCell ⟨V.heap.size, q, none⟩ (.int .i64 x))) :=
                    fun x hx => hbit.set hlt (by show x = M.bts true n F p B0 X0 (q + 1) q; rw [M.bts_new]; exact hx) fun j hj => M.bts_old true n F p B0 X0 hj
                  have HNone : Hid (M.bt1 true (n q) F p (M.sg true n F p B0 X0 q) (B0 q) = B0 q → Bits V k (fun j => M.bts true n F p B0 X0 (q + 1) j) wr) := by
                    intro he
                    refine hbit.ext fun j hj => ?_
                    by_cases hjq : j = q
                    · subst hjq
                      show M.bts true n F p B0 X0 j j = M.bts true n F p B0 X0 (j + 1) j
                      rw [M.bts_new, M.bts_self, he]
                    · exact (M.bts_old true n F p B0 X0 hjq).symm
                  clear hbit
                  generalize M.sg true n F p B0 X0 q = v at *
                  generalize n q = y at *
                  generalize B0 q = z at *
                  obtain ⟨v0, v1⟩ := vb
                  have hpv : ¬ p - v ≤ 0 := by omega

                  rcases (by omega : (2 ≤ z ∧ z ≤ 15) ∨ ((¬ 2 ≤ z ∨ 15 < z) ∧ y = F + 1 ∧ v + 1 < p) ∨ ((¬ 2 ≤ z ∨ 15 < z) ∧ y = F + 1 ∧ ¬ v + 1 < p) ∨ ((¬ 2 ≤ z ∨ 15 < z) ∧ ¬ y = F + 1)) with ⟨h1, h2⟩ | ⟨h1, h2, h3⟩ | ⟨h1, h2, h3⟩ | ⟨h1, h2⟩
                  · have HE : Hid (M.bt1 true y F p v z = z + 1 ∧ M.sg1 true y F p v z = v + 1) := by
                      show _ ∧ _
                      unfold M.bt1 M.sg1
                      rw [if_neg hpv, if_pos (by omega), if_neg hpv, if_pos (by omega)]; exact ⟨rfl, rfl⟩
                    go_wp2
                    go_roundw
                    case rel => exact ⟨q + 1, by omega, by rw [HSg.out, HE.out.2], by go_num, HSet.out _ HE.out.1.symm⟩
                    case measure => simp [intOf]; omega
                  · have HE : Hid (M.bt1 true y F p v z = 2 ∧ M.sg1 true y F p v z = v + 2) := by
                      show _ ∧ _
                      unfold M.bt1 M.sg1
                      rw [if_neg hpv, if_neg (by omega), if_pos ⟨rfl, h2, by omega⟩, if_neg hpv, if_neg (by omega), if_pos ⟨rfl, h2, by omega⟩]; exact ⟨rfl, rfl⟩
                    have e1 : (y == F + 1) = true := by simp [h2]
                    clear h2
                    rcases h1 with h1 | h1
                    all_goals (
                      go_wp2
                      go_roundw
                      case rel => exact ⟨q + 1, by omega, by rw [HSg.out, HE.out.2], by go_num, HSet.out _ HE.out.1.symm⟩
                      case measure => simp [intOf]; omega)
                  · have HE : Hid (M.bt1 true y F p v z = z ∧ M.sg1 true y F p v z = v) := by
                      show _ ∧ _
                      unfold M.bt1 M.sg1
                      rw [if_neg hpv, if_neg (by omega), if_neg (by omega), if_neg hpv, if_neg (by omega), if_neg (by omega)]; exact ⟨rfl, rfl⟩
                    have e1 : (y == F + 1) = true := by simp [h2]
                    clear h2
                    rcases h1 with h1 | h1
                    all_goals (
                      go_wp2
                      go_roundw
                      case rel => exact ⟨q + 1, by omega, by rw [HSg.out, HE.out.2], by go_num, HNone.out HE.out.1⟩
                      case measure => simp [intOf]; omega)
                  · have HE : Hid (M.bt1 true y F p v z = z ∧ M.sg1 true y F p v z = v) := by
                      show _ ∧ _
                      unfold M.bt1 M.sg1
                      rw [if_neg hpv, if_neg (by omega), if_neg (by omega), if_neg hpv, if_neg (by omega), if_neg (by omega)]; exact ⟨rfl, rfl⟩
                    have e1 : (y == F + 1) = false := by simp [h2]
                    rcases h1 with h1 | h1
                    all_goals (
                      go_wp2
                      go_roundw
                      case rel => exact ⟨q + 1, by omega, by rw [HSg.out, HE.out.2], by go_num, HNone.out HE.out.1⟩
                      case measure => simp [intOf]; omega)
                · have hend : Bits V k B1 wr ∧ M.sg true n F p B0 X0 q = X1 := by
                    by_cases hqk : q = k
                    · subst hqk
                      exact ⟨hbit.ext fun j _ => (HB1.out j).symm, HX1.out.symm⟩
                    · have hfull : p ≤ M.sg true n F p B0 X0 q := by omega
                      have e1 := M.sg_full true n F p B0 X0 q (k - q) hfull
                      have e2 := M.bts_full true n F p B0 X0 q (k - q) hfull
                      rw [show q + (k - q) = k by omega] at e1
                      refine ⟨hbit.ext fun j _ => ?_, by rw [← e1]; exact HX1.out.symm⟩
                      have := e2 j
                      rw [show q + (k - q) = k by omega] at this
                      rw [HB1.out j, this]
                  obtain ⟨hb2, hx2⟩ := hend
                  clear hbit

                  have HEnd : Hid (Bits V k B1 wr) := hb2
                  have hv2 : q = k ∨ (q < k ∧ p ≤ X1) := by rw [← hx2]; omega
                  rw [hx2] at *
                  clear hb2 hx2
                  rcases hv2 with h1 | ⟨h1, h2⟩
                  all_goals (
                    have h3 : (q : Int) ≤ k := by omega
                    have h4 : q = k ∨ ¬ q = k := by omega
                    obtain ⟨v0, v1⟩ := vb
                    try (replace h1 : k = q := h1.symm; subst h1)
                    go_wp2
                    go_loopw [8, 13] (fun x i w5 => ∃ q : Nat, q ≤ k ∧ x = .int .i64 (M.sg false n F p B1 X1 q) ∧ i = .int .i64 q ∧ Bits V k (fun j => M.bts false n F p B1 X1 q j) w5) (fun _ i _ => k - (intOf i).toNat)
                    case atStart => exact ⟨0, by omega, rfl, rfl, HEnd.out.ext fun j _ => (M.bts_zero false n F p B1 X1 j).symm⟩
                    case round =>
                      clear HEnd h4 h3
                      obtain ⟨q, hq, rfl, rfl, hbit⟩ := hrel
                      have x7 : wr.cell? ⟨w.heap.size, 7, none⟩ = some (.int .i64 p) := (cell_keep (hbit.bel.block _ BE.out.2)).trans Hx7.out
                      have vb := M.sg_bd false n F p B1 X1 HXb1.out q
                      by_cases hcond : q < k ∧ M.sg false n F p B1 X1 q < p
                      · obtain ⟨hlt, hv⟩ := hcond
                        have hlt' : (q : Int) < k := by omega
                        have y1 : wr.cell? ⟨b, off + q, none⟩ = some (.int .i64 (n q)) := (cell_keep (hbit.bel.block b Hbl.out)).trans (HX.out q hlt)
                        have z1 := hbit.at hlt
                        have f1 := hbit.free q
                        rw [M.bts_self] at z1
                        obtain ⟨n0, n1⟩ := HNb.out q
                        obtain ⟨z0, z2⟩ := HBb.out.2 q
                        have HSg : Hid (M.sg false n F p B1 X1 (q + 1) = M.sg1 false (n q) F p (M.sg false n F p B1 X1 q) (B1 q)) := rfl
                        have HSet : Hid (∀ x, x = M.bt1 false (n q) F p (M.sg false n F p B1 X1 q) (B1 q) → Bits V k (fun j => M.bts false n F p B1 X1 (q + 1) j) (wr.setCell ⟨V.heap.size, q, none⟩ (.int .i64 x))) :=
                          fun x hx => hbit.set hlt (by show x = M.bts false n F p B1 X1 (q + 1) q; rw [M.bts_new]; exact hx) fun j hj => M.bts_old false n F p B1 X1 hj
                        have HNone : Hid (M.bt1 false (n q) F p (M.sg false n F p B1 X1 q) (B1 q) = B1 q → Bits V k (fun j => M.bts false n F p B1 X1 (q + 1) j) wr) := by
                          intro he
                          refine hbit.ext fun j hj => ?_
                          by_cases hjq : j = q
                          · subst hjq
                            show M.bts false n F p B1 X1 j j = M.bts false n F p B1 X1 (j + 1) j
                            rw [M.bts_new, M.bts_self, he]
                          · exact (M.bts_old false n F p B1 X1 hjq).symm
                        clear hbit
                        generalize M.sg false n F p B1 X1 q = v at *
                        generalize n q = y at *
                        generalize B1 q = z at *
                        obtain ⟨v0, v1⟩ := vb
                        have hpv : ¬ p - v ≤ 0 := by omega

                        rcases (by omega : (2 ≤ z ∧ z ≤ 15) ∨ ¬ 2 ≤ z ∨ (2 ≤ z ∧ 15 < z)) with ⟨h1, h2⟩ | h1 | ⟨h0, h1⟩
                        · have HE : Hid (M.bt1 false y F p v z = z + 1 ∧ M.sg1 false y F p v z = v + 1) := by
                            show _ ∧ _
                            unfold M.bt1 M.sg1
                            rw [if_neg hpv, if_pos (by omega), if_neg hpv, if_pos (by omega)]; exact ⟨rfl, rfl⟩
                          go_wp2
                          go_roundw
                          case rel => exact ⟨q + 1, by omega, by rw [HSg.out, HE.out.2], by go_num, HSet.out _ HE.out.1.symm⟩
                          case measure => simp [intOf]; omega
                        · have HE : Hid (M.bt1 false y F p v z = z ∧ M.sg1 false y F p v z = v) := by
                            show _ ∧ _
                            unfold M.bt1 M.sg1
                            rw [if_neg hpv, if_neg (by omega), if_neg (by simp), if_neg hpv, if_neg (by omega), if_neg (by simp)]; exact ⟨rfl, rfl⟩
                          clear HSet
                          go_wp2
                          go_roundw
                          case rel => exact ⟨q + 1, by omega, by rw [HSg.out, HE.out.2], by go_num, HNone.out HE.out.1⟩
                          case measure => simp [intOf]; omega
                        · have HE : Hid (M.bt1 false y F p v z = z ∧ M.sg1 false y F p v z = v) := by
                            show _ ∧ _
                            unfold M.bt1 M.sg1
                            rw [if_neg hpv, if_neg (by omega), if_neg (by simp), if_neg hpv, if_neg (by omega), if_neg (by simp)]; exact ⟨rfl, rfl⟩
                          clear HSet
                          go_wp2
                          go_roundw
                          case rel => exact ⟨q + 1, by omega, by rw [HSg.out, HE.out.2], by go_num, HNone.out HE.out.1⟩
                          case measure => simp [intOf]; omega
                      · have hend : Bits V k B2 wr ∧ M.sg false n F p B1 X1 q = M.sg false n F p B1 X1 k := by
                          by_cases hqk : q = k
                          · subst hqk
                            exact ⟨hbit.ext fun j _ => (HB2.out j).symm, rfl⟩
                          · have hfull : p ≤ M.sg false n F p B1 X1 q := by omega
                            have e1 := M.sg_full false n F p B1 X1 q (k - q) hfull
                            have e2 := M.bts_full false n F p B1 X1 q (k - q) hfull
                            rw [show q + (k - q) = k by omega] at e1
                            refine ⟨hbit.ext fun j _ => ?_, e1.symm⟩
                            have := e2 j
                            rw [show q + (k - q) = k by omega] at this
                            rw [HB2.out j, this]
                        obtain ⟨hb2, hx2⟩ := hend
                        clear hbit

                        have HEnd : Hid (Bits V k B2 wr) := hb2
                        clear hb2 hx2
                        rcases (by omega : q = k ∨ (q < k ∧ p ≤ M.sg false n F p B1 X1 q)) with h1 | ⟨h1, h2⟩
                        all_goals (
                          have h3 : (q : Int) ≤ k := by omega
                          generalize M.sg false n F p B1 X1 q = v at *
                          try (replace h1 : k = q := h1.symm; subst h1)
                          go_wp2
                          go_ret
                          have hbb := HEnd.out
                          exact ⟨V.heap.size, 0, _, rfl, by have := BE.out.1.size; omega, hbb.row.lt, fun j hj => by rw [Nat.zero_add]; exact hbb.at hj, BE.out.1.trans (hbb.bel.mono BE.out.1.size)⟩))

end Alloc
end Go.Proofs.YthlpbekfjolenaaDoor
