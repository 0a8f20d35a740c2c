/-
  The document's answer for layer 12: offsets and what bands need. Conditions: as told at each.
-/
import Derived.Test.YthlpbekfjolenaaDoorAllocTell
namespace Go.Proofs.YthlpbekfjolenaaDoor
set_option linter.unusedVariables false
open Go.RowKit
namespace M
theorem range_snoc (F : Nat → Int) (k : Nat) {y : Int} (h : F k = y) : (List.range (k + 1)).map F = (List.range k).map F ++ [y] := by
  rw [List.range_succ, List.map_append, ← h]; rfl
end M
namespace Alloc
open Bank (Blk But)
open Poly (alloc_size enc cell_keep below_drew Gat)
open _root_.Go.Proofs.YthlpbekfjolenaaDoor.Form (fv fc bel1 blk_below box_cells of_drew box_behind)

theorem lit_one (w : World) (x : Value) (t : TypeId) : ∀ j u, ([x] : List Value)[j]? = some u → (w.alloc (.cells #[x] t)).cell? ((⟨w.heap.size, 0, none⟩ : Addr).add j) = some u := by
  intro j u hj
  match j, hj with
  | 0, hj => simp at hj; subst hj; simp [Addr.add]

set_option maxHeartbeats 4000000 in
theorem roffset_4 (f : M.Fmt) (r b : Nat) (w : World) (hB : f.b = 4) (hr : f.r = r) (r3 : r ≤ 3) (hb : b < 4) : Calls Tryd.prog 19 #[fv f, .int .i64 (b : Int)] w fun e w' => e = .returned (.int .i64 (M.off 4 r b)) ∧ Below w.heap.size w w' := by
  obtain ⟨c_, r_, h_, b_, k_, m_, j_, p_, l_, y_⟩ := f
  obtain rfl : r_ = r := hr
  obtain rfl : b_ = 4 := hB
  unfold fv
  dsimp only
  rcases (by omega : b = 0 ∨ b = 1 ∨ b = 2 ∨ b = 3) with rfl | rfl | rfl | rfl
  all_goals (
    rcases (by omega : r = 0 ∨ r = 1 ∨ r = 2 ∨ r = 3) with rfl | rfl | rfl | rfl
    all_goals (
      go_enter Tryd.func19, Tryd.ntmps19
      go_wp2
      go_ret
      exact ⟨rfl, bel1 _ _⟩))

set_option maxHeartbeats 4000000 in
theorem roffset_8 (f : M.Fmt) (r b : Nat) (w : World) (hB : f.b = 8) (hr : f.r = r) (r3 : r ≤ 3) (hb : b < 8) : Calls Tryd.prog 19 #[fv f, .int .i64 (b : Int)] w fun e w' => e = .returned (.int .i64 (M.off 8 r b)) ∧ Below w.heap.size w w' := by
  obtain ⟨c_, r_, h_, b_, k_, m_, j_, p_, l_, y_⟩ := f
  obtain rfl : r_ = r := hr
  obtain rfl : b_ = 8 := hB
  unfold fv
  dsimp only
  rcases (by omega : b = 0 ∨ b = 1 ∨ b = 2 ∨ b = 3 ∨ b = 4 ∨ b = 5 ∨ b = 6 ∨ b = 7) with rfl | rfl | rfl | rfl | rfl | rfl | rfl | rfl
  all_goals (
    rcases (by omega : r = 0 ∨ r = 1 ∨ r = 2 ∨ r = 3) with rfl | rfl | rfl | rfl
    all_goals (
      go_enter Tryd.func19, Tryd.ntmps19
      go_wp2
      go_ret
      exact ⟨rfl, bel1 _ _⟩))

theorem roffset_any (f : M.Fmt) (B r b : Nat) (w : World) (h48 : B = 4 ∨ B = 8) (hB : f.b = B) (hr : f.r = r) (r3 : r ≤ 3) (hb : b < B) : Calls Tryd.prog 19 #[fv f, .int .i64 (b : Int)] w fun e w' => e = .returned (.int .i64 (M.off B r b)) ∧ Below w.heap.size w w' := by
  rcases h48 with rfl | rfl
  · exact roffset_4 f r b w hB hr r3 hb
  · exact roffset_8 f r b w hB hr r3 hb

theorem owns_below {w w' : World} {base e size : Nat} {v : Value} {n : Nat} {xs : List Value} (h : w.ownsRow base e size v n xs) (hb : Below w.heap.size w w') : w'.ownsRow base e size v n xs :=
  h.kept (row := none) ⟨hb.os, hb.tape, hb.output, hb.size, fun k hk _ => hb.block k hk⟩ (by cases v.ownBlock <;> simp)
theorem Gat.grow {k : IntKind} {t : TypeId} {B : Nat} {v : Value} {zs : List Int} {w wr w' : World} (h : Gat k t B v zs w wr) (hb : Below wr.heap.size wr w') : Gat k t B v zs w w' := ⟨owns_below h.1 hb, h.2.1.trans (hb.mono h.size), h.2.2⟩

/-- an answer that tells F of N numbers in new memory -/
def Lst (W : World) (N : Nat) (F : Nat → Int) (e : Ending) (w' : World) : Prop := ∃ b off c, e = .returned (.slice (some ⟨b, off, none⟩) N c) ∧ W.heap.size ≤ b ∧ b < w'.heap.size ∧ (∀ j, j < N → w'.cell? ⟨b, off + j, none⟩ = some (.int .i64 (F j))) ∧ Below W.heap.size W w'

set_option maxHeartbeats 4000000 in
set_option maxRecDepth 100000 in
theorem rNeeds_ok (f : M.Fmt) (vs : Value) (zss : List (List Int)) (C B r : Nat) (w : World) (h : Good f zss C B r) (hZ : Poly.Rows .i64 0 w.heap.size w vs zss) :
    Calls Tryd.prog 10 #[fv f, vs] w fun e w' => Lst w (B * C) (M.nd f.m C B r zss) e w' := by
  obtain ⟨i0, hi0, hz0, hz1, hz2⟩ := info_parts infoI
  obtain ⟨c1, c2⟩ := h.c2
  have b48 := h.b8
  have r3 := h.r3
  have hm := h.ok.2.2.2.2.2.1
  have hoff : ∀ (b : Nat) wx, b < B → Calls Tryd.prog 19 #[fv f, .int .i64 (b : Int)] wx fun e w' => e = .returned (.int .i64 (M.off B r b)) ∧ Below wx.heap.size wx w' := fun b wx hb => roffset_any f B r b wx b48 h.hB h.hr r3 hb
  have hN : B * C ≤ 8 * 2 := Nat.mul_le_mul (by omega) c2
  have hnb := fun j => M.nd_bd (m := f.m) (C := C) (r := r) h.sca j
  have hn : ∀ c b, c < C → M.nd f.m C B r zss (b * C + c) = if f.m = 1 then M.sca zss c b else M.loud (M.sca zss c b) (M.off B r b) := fun c b hc => M.nd_at hc
  have hsc := fun c b => M.sca_bd h.sca c b
  have hall : ∀ c b, c < C → b < B → ∃ b0 o0 cp b1 o1 cp1, vs = .slice (some ⟨b0, o0, none⟩) C cp ∧ b0 < w.heap.size ∧ b1 < w.heap.size ∧ w.cell? ⟨b0, o0 + c, none⟩ = some (.slice (some ⟨b1, o1, none⟩) B cp1) ∧ w.cell? ⟨b1, o1 + b, none⟩ = some (.int .i64 (M.sca zss c b)) :=
    fun c b hc hb => rows_at hZ h.len (fun zs hz => (h.sca zs hz).1) hc hb
  obtain ⟨av, cv, rfl⟩ : ∃ a c, vs = .slice a C c := by obtain ⟨b0, o0, cp, _, _, _, e, _⟩ := hall 0 0 (by omega) (by omega); exact ⟨_, _, e⟩
  generalize M.nd f.m C B r zss = n at *
  generalize M.sca zss = sca at *
  have hC := h.hC
  have hB := h.hB
  clear h hZ
  have HA : Hid _ := hall
  have HNb : Hid (∀ j, -5 ≤ n j ∧ n j ≤ 15) := hnb
  have HNn : Hid _ := hn
  have HSc : Hid _ := hsc
  have HO : Hid _ := hoff
  have HNN : Hid (B * C ≤ 16) := hN
  clear hall hn hsc hoff hN hnb
  obtain ⟨c_, r_, h_, b_, k_, m_, j_, p_, l_, y_⟩ := f
  obtain rfl : h_ = C := hC
  obtain rfl : b_ = B := hB
  unfold fv at HO ⊢
  dsimp only at HO HNn hm ⊢
  have HX : Hid (Blk (w.alloc (.cells (fc ⟨c_, r_, C, B, k_, m_, j_, p_, l_, y_⟩) 23)) w.heap.size (fc ⟨c_, r_, C, B, k_, m_, j_, p_, l_, y_⟩) 23) := Blk.new w _ _
  have H0 : Hid (Gat .i64 3 (w.heap.size + 1) (.slice none 0 0) ((List.range (0 * C)).map n) (w.alloc (.cells (fc ⟨c_, r_, C, B, k_, m_, j_, p_, l_, y_⟩) 23)) (w.alloc (.cells (fc ⟨c_, r_, C, B, k_, m_, j_, p_, l_, y_⟩) 23))) := by
    have := Gat.nil .i64 3 (w.alloc (.cells (fc ⟨c_, r_, C, B, k_, m_, j_, p_, l_, y_⟩) 23))
    rw [alloc_size] at this
    rw [Nat.zero_mul]; exact this
  have HB1 : Hid (Below w.heap.size w (w.alloc (.cells (fc ⟨c_, r_, C, B, k_, m_, j_, p_, l_, y_⟩) 23))) := bel1 _ _
  have B1 : (B : Int) ≤ 8 := by omega
  have C1 : (C : Int) ≤ 2 := by omega
  obtain ⟨W1, hW1⟩ : ∃ W1, W1 = w.alloc (.cells (fc ⟨c_, r_, C, B, k_, m_, j_, p_, l_, y_⟩) 23) := ⟨_, rfl⟩
  have HW : Hid (W1.heap.size = w.heap.size + 1) := by show _ = _; rw [hW1, alloc_size]
  rw [← hW1] at H0 HB1 HX
  have HWE : Hid (W1 = w.alloc (.cells (fc ⟨c_, r_, C, B, k_, m_, j_, p_, l_, y_⟩) 23)) := hW1
  clear hW1
  go_enter Tryd.func10, Tryd.ntmps10
  go_wp2
  go_loopw [5, 6] (fun v i wr => ∃ k : Nat, k ≤ B ∧ i = .int .i64 k ∧ Gat .i64 3 (w.heap.size + 1) v ((List.range (k * C)).map n) W1 wr) (fun _ i _ => B - (intOf i).toNat)
  case atStart => exact ⟨0, by omega, rfl, by have := H0.out; rw [HWE.out] at this ⊢; exact this⟩
  case round =>
    clear H0
    obtain ⟨k, hk, rfl, hG⟩ := hrel
    have hbx : Blk wr w.heap.size (fc ⟨c_, r_, C, B, k_, m_, j_, p_, l_, y_⟩) 23 := (hG.2.1.block _ (by omega)).trans HX.out
    have x3 : wr.cell? ⟨w.heap.size, 3, none⟩ = some (.int .i64 (B : Int)) := (box_cells hbx).2.2.2.1
    clear hbx
    by_cases hlt : k < B
    · have hlt' : (k : Int) < B := by omega
      have HG : Hid _ := hG
      clear hG
      go_wp2
      go_loopw [5, 7] (fun v i w2 => ∃ q : Nat, q ≤ C ∧ i = .int .i64 q ∧ Gat .i64 3 (w.heap.size + 1) v ((List.range (k * C + q)).map n) W1 w2) (fun _ i _ => C - (intOf i).toNat)
      case atStart => exact ⟨0, by omega, rfl, HG.out⟩
      case round =>
        clear HG x3
        obtain ⟨q, hq, rfl, hG⟩ := hrel
        have hbx : Blk wr w.heap.size (fc ⟨c_, r_, C, B, k_, m_, j_, p_, l_, y_⟩) 23 := (hG.2.1.block _ (by omega)).trans HX.out
        have xs := box_cells hbx
        dsimp only at xs
        obtain ⟨x0, x1, x2, x3, x4, x5, x6, x7, x8, x9⟩ := xs
        have HBx : Hid _ := hbx
        clear hbx
        by_cases hql : q < C
        · have hql' : (q : Int) < C := by omega
          obtain ⟨b0, o0, cp, b1, o1, cp1, hav, l0, l1, s0, s1⟩ := HA.out q k hql hlt
          obtain ⟨rfl, rfl⟩ : av = some ⟨b0, o0, none⟩ ∧ cv = cp := by simpa using hav
          clear hav
          have bw : Below w.heap.size w wr := HB1.out.trans (hG.2.1.mono (by omega))
          replace s0 := (cell_keep (bw.block b0 l0)).trans s0
          replace s1 := (cell_keep (bw.block b1 l1)).trans s1
          clear bw l0 l1
          have hnn := HNn.out q k hql
          obtain ⟨sc0, sc1⟩ := HSc.out q k
          obtain ⟨o0', o1'⟩ := M.off_bd B r k
          have hof := HO.out k wr hlt
          have hlen : k * C + q ≤ 16 := by
            have := HNN.out
            have h2 : (k + 1) * C ≤ B * C := Nat.mul_le_mul_right C hlt
            rw [Nat.succ_mul] at h2
            omega
          have hstep : ∀ y, n (k * C + q) = y → (List.range (k * C + (q + 1))).map n = (List.range (k * C + q)).map n ++ [y] := fun y hy => M.range_snoc n (k * C + q) hy
          have hYl : ((List.range (k * C + q)).map n).length ≤ 16 := by simpa using hlen
          have hown := hG.1
          have hsz := hG.size
          have HGG : Hid _ := hG
          have HSt : Hid _ := hstep
          clear hG hstep hlen
          generalize (List.range (k * C + q)).map n = Y at *
          generalize n (k * C + q) = y at *
          generalize M.off B r k = o at *
          generalize sca q k = x at *
          have HY : Hid _ := hnn
          clear hnn
          rcases hm with rfl | rfl
          · have HY2 : Hid (y = M.loud x o) := by rw [HY.out]; rfl
            have hcase : ∀ z, M.loud x o = z → Hid (y = z) := fun z h => HY2.out.trans h
            rcases (by omega : (x = 0 ∧ 0 < x - o) ∨ (x = 0 ∧ ¬ 0 < x - o) ∨ (¬ x = 0 ∧ 0 < x - o) ∨ (¬ x = 0 ∧ ¬ 0 < x - o)) with ⟨h1, h2⟩ | ⟨h1, h2⟩ | ⟨h1, h2⟩ | ⟨h1, h2⟩
            · have HV : Hid (y = -5) := hcase _ (by unfold M.loud; rw [if_pos h1])
              subst h1
              clear HY HY2 hcase
              go_wp2_with (first
                | (go_at_call 19; refine hof.mono ?_; clear hof hown; rintro e w3 ⟨rfl, b3⟩; have G3 : Hid (Gat .i64 3 (w.heap.size + 1) _ Y W1 w3) := Gat.grow HGG.out b3; have hown3 := G3.out.1; have hsz3 := G3.out.size; clear b3)
                | (at_builtin; refine wpList_append_own _ rfl (.tmp 44) (.tmp 46) 32 rfl (w.heap.size + 1) 3 i0 (.int .i64 0) 1 8 Tryd.underlying32 hi0 hz0 hz1 hz2 rfl (by decide) _ _ _ rfl (hown3.alloc _) ⟨w3.heap.size, 0, none⟩ 1 1 [.int .i64 (-5)] rfl rfl ?c1 ?c2 ?c3 ?c4 ?c5 ?_))
              case c1 => exact lit_one _ _ _
              case c2 => intro u hu; simp at hu; subst hu; rfl
              case c3 => unfold maxLen; omega
              case c4 => omega
              case c5 => simp; omega
              · intro v' w4 hown' hgrow _
                have R : Hid _ := Gat.step G3.out hown' hgrow
                have HSt2 := HSt.out _ HV.out
                have HSt3 : Hid _ := HSt2
                clear hown' hgrow hown3 HSt HSt2
                go_wp2
                go_roundw
                case rel => exact ⟨q + 1, by omega, by go_num, by rw [HSt3.out]; exact R.out⟩
                case measure => simp [intOf]; omega
            · have HV : Hid (y = -5) := hcase _ (by unfold M.loud; rw [if_pos h1])
              subst h1
              clear HY HY2 hcase
              go_wp2_with (first
                | (go_at_call 19; refine hof.mono ?_; clear hof hown; rintro e w3 ⟨rfl, b3⟩; have G3 : Hid (Gat .i64 3 (w.heap.size + 1) _ Y W1 w3) := Gat.grow HGG.out b3; have hown3 := G3.out.1; have hsz3 := G3.out.size; clear b3)
                | (at_builtin; refine wpList_append_own _ rfl (.tmp 44) (.tmp 46) 32 rfl (w.heap.size + 1) 3 i0 (.int .i64 0) 1 8 Tryd.underlying32 hi0 hz0 hz1 hz2 rfl (by decide) _ _ _ rfl (hown3.alloc _) ⟨w3.heap.size, 0, none⟩ 1 1 [.int .i64 (-5)] rfl rfl ?c1 ?c2 ?c3 ?c4 ?c5 ?_))
              case c1 => exact lit_one _ _ _
              case c2 => intro u hu; simp at hu; subst hu; rfl
              case c3 => unfold maxLen; omega
              case c4 => omega
              case c5 => simp; omega
              · intro v' w4 hown' hgrow _
                have R : Hid _ := Gat.step G3.out hown' hgrow
                have HSt2 := HSt.out _ HV.out
                have HSt3 : Hid _ := HSt2
                clear hown' hgrow hown3 HSt HSt2
                go_wp2
                go_roundw
                case rel => exact ⟨q + 1, by omega, by go_num, by rw [HSt3.out]; exact R.out⟩
                case measure => simp [intOf]; omega
            · have HV : Hid (y = (x - o) / 2) := hcase _ (by unfold M.loud; rw [if_neg h1, if_pos h2])
              have e1 : (x == 0) = false := by simpa using h1
              clear HY HY2 hcase
              go_wp2_with (first
                | (go_at_call 19; refine hof.mono ?_; clear hof hown; rintro e w3 ⟨rfl, b3⟩; have G3 : Hid (Gat .i64 3 (w.heap.size + 1) _ Y W1 w3) := Gat.grow HGG.out b3; have hown3 := G3.out.1; have hsz3 := G3.out.size; clear b3)
                | (at_builtin; refine wpList_append_own _ rfl (.tmp 44) (.tmp 46) 32 rfl (w.heap.size + 1) 3 i0 (.int .i64 0) 1 8 Tryd.underlying32 hi0 hz0 hz1 hz2 rfl (by decide) _ _ _ rfl (hown3.alloc _) ⟨w3.heap.size, 0, none⟩ 1 1 [.int .i64 ((x - o) / 2)] rfl rfl ?c1 ?c2 ?c3 ?c4 ?c5 ?_))
              case c1 => exact lit_one _ _ _
              case c2 => intro u hu; simp at hu; subst hu; rfl
              case c3 => unfold maxLen; omega
              case c4 => omega
              case c5 => simp; omega
              · intro v' w4 hown' hgrow _
                have R : Hid _ := Gat.step G3.out hown' hgrow
                have HSt2 := HSt.out _ HV.out
                have HSt3 : Hid _ := HSt2
                clear hown' hgrow hown3 HSt HSt2
                go_wp2
                go_roundw
                case rel => exact ⟨q + 1, by omega, by go_num, by rw [HSt3.out]; exact R.out⟩
                case measure => simp [intOf]; omega
            · have HV : Hid (y = x - o) := hcase _ (by unfold M.loud; rw [if_neg h1, if_neg h2])
              have e1 : (x == 0) = false := by simpa using h1
              clear HY HY2 hcase
              go_wp2_with (first
                | (go_at_call 19; refine hof.mono ?_; clear hof hown; rintro e w3 ⟨rfl, b3⟩; have G3 : Hid (Gat .i64 3 (w.heap.size + 1) _ Y W1 w3) := Gat.grow HGG.out b3; have hown3 := G3.out.1; have hsz3 := G3.out.size; clear b3)
                | (at_builtin; refine wpList_append_own _ rfl (.tmp 44) (.tmp 46) 32 rfl (w.heap.size + 1) 3 i0 (.int .i64 0) 1 8 Tryd.underlying32 hi0 hz0 hz1 hz2 rfl (by decide) _ _ _ rfl (hown3.alloc _) ⟨w3.heap.size, 0, none⟩ 1 1 [.int .i64 (x - o)] rfl rfl ?c1 ?c2 ?c3 ?c4 ?c5 ?_))
              case c1 => exact lit_one _ _ _
              case c2 => intro u hu; simp at hu; subst hu; rfl
              case c3 => unfold maxLen; omega
              case c4 => omega
              case c5 => simp; omega
              · intro v' w4 hown' hgrow _
                have R : Hid _ := Gat.step G3.out hown' hgrow
                have HSt2 := HSt.out _ HV.out
                have HSt3 : Hid _ := HSt2
                clear hown' hgrow hown3 HSt HSt2
                go_wp2
                go_roundw
                case rel => exact ⟨q + 1, by omega, by go_num, by rw [HSt3.out]; exact R.out⟩
                case measure => simp [intOf]; omega
          · have HV : Hid (y = x) := by rw [HY.out]; rfl
            clear HY hof
            go_wp2_with (at_builtin; refine wpList_append_own _ rfl (.tmp 44) (.tmp 46) 32 rfl (w.heap.size + 1) 3 i0 (.int .i64 0) 1 8 Tryd.underlying32 hi0 hz0 hz1 hz2 rfl (by decide) _ _ _ rfl (hown.alloc _) ⟨wr.heap.size, 0, none⟩ 1 1 [.int .i64 x] rfl rfl ?c1 ?c2 ?c3 ?c4 ?c5 ?_)
            case c2 => first | (intro u hu; simp at hu; subst hu; rfl) | rfl | simp
            case c3 => unfold maxLen; omega
            case c4 => omega
            case c5 => first | omega | (simp; omega)
            · intro v' w4 hown' hgrow _
              have R : Hid _ := Gat.step HGG.out hown' hgrow
              have HSt2 := HSt.out _ HV.out
              have HSt3 : Hid _ := HSt2
              clear hown' hgrow hown HSt HSt2
              go_wp2
              go_roundw
              case rel => exact ⟨q + 1, by omega, by go_num, by rw [HSt3.out]; exact R.out⟩
              case measure => simp [intOf]; omega
        · obtain rfl : q = C := by omega
          have HG : Hid _ := hG
          clear hG
          go_wp2
          go_roundw
          case rel => exact ⟨k + 1, by omega, by go_num, by rw [Nat.succ_mul]; exact HG.out⟩
          case measure => simp [intOf]; omega
    · obtain rfl : k = B := by omega
      have hr := hG.reads (fun z hz => by
        obtain ⟨j, _, rfl⟩ := List.mem_map.1 hz
        have := HNb.out j
        exact Poly.wf64 (by omega) (by omega))
      obtain ⟨a, c, rfl⟩ := hr.form
      have hpos : 0 < ((List.range (k * C)).map n).length := by
        have : 4 * 1 ≤ k * C := Nat.mul_le_mul (by omega) c1
        simp; omega
      obtain ⟨b, off, rfl, k0, k1, hx⟩ := hr.cell hpos
      have hL : ((List.range (k * C)).map n).length = k * C := by simp
      rw [hL] at hx ⊢
      have HX2 : Hid (∀ j, j < k * C → wr.cell? ⟨b, off + j, none⟩ = some (.int .i64 (n j))) := fun j hj => by rw [hx j hj]; simp [List.getD, hj]
      have HBe : Hid (Below w.heap.size w wr) := HB1.out.trans (hG.2.1.mono (by omega))
      clear hx hr hG hL hpos
      go_wp2
      go_ret
      exact ⟨b, off, c, rfl, by omega, k1, HX2.out, HBe.out⟩

end Alloc
end Go.Proofs.YthlpbekfjolenaaDoor
