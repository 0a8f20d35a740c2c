/-
  The walk of the law that what is written from both ends is read from both ends. Conditions: the calls stand in memory.
-/
import Derived.Test.YtafjepneekomiaaBitsStored
namespace Go.Proofs.Ytafjepneekomiaa
set_option linter.unusedVariables false
open Go.RowKit
namespace Bits

theorem infoAct : (Try.prog.info? 33).map (fun i => (i.zero, i.size, i.bytes)) = some (some (.agg #[.bool false, .int .u32 0, .int .i64 0]), 3, 16) := by kernel_rfl

/-- between the rounds of the writing -/
def Wrote (w : World) (N0 p b c d n : Nat) (dn : Value) (j : Nat) (wr : World) : Prop :=
  ∃ (zs : List Act) (B : Nat → Bool), Below w.heap.size w wr ∧ Own 62 wr p b c d n B (hd zs) (tl zs) ∧ M.Good (8 * n) B (hd zs) (tl zs) ∧ Stored (8 * n) B zs ∧ wr.ownsRow N0 33 3 dn zs.length (flat zs) ∧
    zs.length ≤ 2 * j ∧ (∀ z ∈ zs, z.2.1 < 4294967296) ∧ N0 ≤ wr.heap.size

set_option maxRecDepth 100000 in
set_option maxHeartbeats 4000000 in
theorem back_main (n : Nat) (v : Value) (zs : List Act) (w : World) (hA : Acts w v zs) (hn : n ≤ 512) (hlen : zs.length ≤ 100) :
    Calls Try.prog 5 #[.int .i64 n, v] w fun e w' => e = .returned (.bool true) ∧ Below w.heap.size w w' := by
  obtain ⟨i0, hi0, hz0, hz1, hz2⟩ := info_parts infoAct
  have hA0 := hA
  obtain ⟨a, cp, rfl, hvs, _⟩ := hA
  have l1 : ¬ (100 : Int) < (zs.length : Int) := by omega
  go_enter Try.func5, Try.ntmps5
  go_wp2_with (first
    | (go_at_call 7; refine (alive_any _).mono ?_; rintro e wa ⟨rfl, bela⟩)
    | (go_at_call 8; refine (New_ok n _ hn).mono ?_; rintro e w1 ⟨p, b, c, d, rfl, lp, lb, lc, ld, up, ub, uc, ud, bel1, ho⟩))
  have sa := bela.size
  have s1 := bel1.size
  have belw : Below w.heap.size w w1 := bela.trans (Below.less bel1 sa)
  obtain ⟨N0, hN0⟩ : ∃ N0, N0 = w1.heap.size := ⟨_, rfl⟩
  go_loopw [7, 8] (fun dn i wr => ∃ j : Nat, j ≤ zs.length ∧ i = .int .i64 j ∧ Wrote w N0 p b c d n dn j wr) (fun _ i _ => zs.length - (intOf i).toNat)
  case atStart => exact ⟨0, by omega, rfl, [], fun _ => false, belw, ho, M.Good.zero _, Stored.nil _ _, World.ownsRow_nil _ _ _ _, by simp, (fun z hz => absurd hz (by simp)), by omega⟩
  case round =>
    obtain ⟨j, hj, rfl, zs', B, belr, hO, hg, hS, hown, hlz, hvz, hNr⟩ := hrel
    by_cases hlt : j < zs.length
    · obtain ⟨⟨bk, x, k⟩, hz⟩ : ∃ z, zs[j]? = some z := ⟨_, List.getElem?_eq_getElem hlt⟩
      have hx : x < 4294967296 := hvs _ (List.mem_of_getElem? hz)
      obtain ⟨a', c', he', _, hnil | ⟨b0, off, rfl, hb0, hcells⟩⟩ := hA0
      · rw [hnil] at hlt; simp at hlt
      cases he'
      obtain ⟨k0, k1, k2⟩ := hcells j bk x k hz
      have r0 : wr.cell? ⟨b0, off + j * 3, none⟩ = some (.bool bk) := (belr.cell hb0).trans k0
      have r1 : wr.cell? ⟨b0, off + j * 3 + 1, none⟩ = some (.int .u32 x) := (belr.cell hb0).trans k1
      have r2 : wr.cell? ⟨b0, off + j * 3 + 2, none⟩ = some (.int .i64 k) := (belr.cell hb0).trans k2
      clear k0 k1 k2 hcells
      have i1 : (0 : Int) ≤ (j : Int) := by omega
      have i2 : (j : Int) < (zs.length : Int) := by omega
      have sr := belr.size
      have f1 : b0 ≠ b := by omega
      have f2 : b0 ≠ d := by omega
      have lbw : w.heap.size ≤ b := by omega
      have ldw : w.heap.size ≤ d := by omega
      obtain ⟨er, her⟩ : ∃ e, e = M.mayv (8 * n) (hd zs') (tl zs') x k := ⟨_, rfl⟩
      have hF := FrontP_any p b c d n (hd zs') (tl zs') x k B wr.drew hO hn hg hx
      rw [← her] at hF
      by_cases he0 : er = 0
      · subst he0
        have bad : Hid (M.mayv (8 * n) (hd zs') (tl zs') x k = 0) := her.symm
        clear her
        cases bk with
        | false =>
          go_wp2
          go_region_held3 (fun w' => w'.cell? ⟨b0, off + j * 3 + 1, none⟩ = some (.int .u32 x) ∧ w'.cell? ⟨b0, off + j * 3 + 2, none⟩ = some (.int .i64 k))
            (first | exact ⟨r1, r2⟩ | exact ⟨r1', r2'⟩)
            (first
              | (go_at_call 11; refine hF.mono ?_; rintro e w2 ⟨rfl, hb2, ho2⟩
                 have r0' : w2.cell? ⟨b0, off + j * 3, none⟩ = some (.bool false) := (hb2.cell (show b0 < wr.drew.heap.size by show b0 < wr.heap.size; omega) f1 f2).trans r0
                 have r1' : w2.cell? ⟨b0, off + j * 3 + 1, none⟩ = some (.int .u32 x) := (hb2.cell (show b0 < wr.drew.heap.size by show b0 < wr.heap.size; omega) f1 f2).trans r1
                 have r2' : w2.cell? ⟨b0, off + j * 3 + 2, none⟩ = some (.int .i64 k) := (hb2.cell (show b0 < wr.drew.heap.size by show b0 < wr.heap.size; omega) f1 f2).trans r2))
          have s2 : wr.heap.size ≤ w2.heap.size := hb2.size
          have hown2 := owns_but (w := wr) (w' := w2) hown ⟨hb2.os, hb2.tape, hb2.output, hb2.size, hb2.block⟩ (by omega) (by omega)
          go_wp2_with (at_builtin; refine wpList_append_own _ rfl (.tmp 83) (.tmp 88) 22 rfl N0 33 i0 _ 3 16 Try.underlying22 hi0 hz0 hz1 hz2 rfl (by decide) _ _ _ rfl (hown2.alloc _) ⟨w2.heap.size, 0, none⟩ 1 1 [.bool false, .int .u32 x, .int .i64 k] rfl rfl (World.news_of_block (cs := #[.bool false, .int .u32 x, .int .i64 k]) (t := 33) (fr := (0, 0)) (heap_alloc_new w2 _)) (by simp [Value.oneCell']) (by unfold maxLen; omega) (by omega) (by simp; omega) ?_; intro v' w3 hown3 hgrow _)
          go_roundw
          case rel =>
            have bel3 : Below N0 w2 w3 := ((Below.refl N0 w2).alloc (by omega) _).grown hgrow (by simp; omega) (own_block hown2)
            have s3 := bel3.size
            obtain ⟨q1, q2⟩ := hd_put (l := zs') false bad
            refine ⟨j + 1, by omega, by go_num, zs' ++ [(false, x, k)], _, (belr.drew.trans (hb2.below lbw ldw sr)).trans (Below.less bel3 (by omega)), ?_, ?_, hS.put false hg.1 bad, ?_, by simp; omega, ?_, by omega⟩
            · rw [q1, q2]; exact ho2.below bel3 (by omega) (by omega) (by omega) (by omega)
            · rw [q1, q2]; exact Good.next hg x k
            · rw [flat_append, List.length_append]; exact hown3
            · exact snoc_lt hvz hx
          case measure => simp [intOf]; omega
        | true =>
          go_wp2
          go_region_held3 (fun w' => w'.cell? ⟨b0, off + j * 3 + 1, none⟩ = some (.int .u32 x) ∧ w'.cell? ⟨b0, off + j * 3 + 2, none⟩ = some (.int .i64 k))
            (first | exact ⟨r1, r2⟩ | exact ⟨r1', r2'⟩)
            (first
              | (go_at_call 11; refine hF.mono ?_; rintro e w2 ⟨rfl, hb2, ho2⟩
                 have r0' : w2.cell? ⟨b0, off + j * 3, none⟩ = some (.bool true) := (hb2.cell (show b0 < wr.drew.heap.size by show b0 < wr.heap.size; omega) f1 f2).trans r0
                 have r1' : w2.cell? ⟨b0, off + j * 3 + 1, none⟩ = some (.int .u32 x) := (hb2.cell (show b0 < wr.drew.heap.size by show b0 < wr.heap.size; omega) f1 f2).trans r1
                 have r2' : w2.cell? ⟨b0, off + j * 3 + 2, none⟩ = some (.int .i64 k) := (hb2.cell (show b0 < wr.drew.heap.size by show b0 < wr.heap.size; omega) f1 f2).trans r2))
          have s2 : wr.heap.size ≤ w2.heap.size := hb2.size
          have hown2 := owns_but (w := wr) (w' := w2) hown ⟨hb2.os, hb2.tape, hb2.output, hb2.size, hb2.block⟩ (by omega) (by omega)
          obtain ⟨q1, q2⟩ := hd_put (l := zs') false bad
          have hS1 := hS.put false hg.1 bad
          have hg1 : M.Good (8 * n) _ _ _ := Good.next (f := true) hg x k
          have ho2' := ho2
          rw [show M.nh true (8 * n) (hd zs') (tl zs') x k = hd (zs' ++ [(false, x, k)]) from q1.symm, show M.nt true (8 * n) (hd zs') (tl zs') x k = tl (zs' ++ [(false, x, k)]) from q2.symm] at ho2' hg1
          obtain ⟨B1, hB1⟩ : ∃ B1, B1 = M.nB true (8 * n) B (hd zs') (tl zs') x k := ⟨_, rfl⟩
          replace hS1 : Stored (8 * n) B1 (zs' ++ [(false, x, k)]) := by rw [hB1]; exact hS1
          rw [← hB1] at ho2' hg1
          clear ho2 hB1 q1 q2
          obtain ⟨zs1, hzs1⟩ : ∃ zs1, zs1 = zs' ++ [(false, x, k)] := ⟨_, rfl⟩
          have hvz1 : ∀ z ∈ zs1, z.2.1 < 4294967296 := by rw [hzs1]; exact snoc_lt hvz hx
          have hl1 : zs1.length = zs'.length + 1 := by rw [hzs1]; simp
          have hf1 : flat zs1 = flat zs' ++ [.bool false, .int .u32 x, .int .i64 k] := by rw [hzs1, flat_append]
          rw [← hzs1] at hS1 ho2' hg1
          clear hzs1
          replace hf1 : Hid (flat zs1 = flat zs' ++ [.bool false, .int .u32 x, .int .i64 k]) := hf1
          obtain ⟨er2, her2⟩ : ∃ e, e = M.mayv (8 * n) (hd zs1) (tl zs1) x k := ⟨_, rfl⟩
          have hG := BackP_any p b c d n (hd zs1) (tl zs1) x k B1 w2.drew ho2' hn hg1 hx
          rw [← her2] at hG
          clear hF bad
          replace her2 : Hid (er2 = M.mayv (8 * n) (hd zs1) (tl zs1) x k) := her2
          go_wp2
          go_region_held3 (fun w' => w'.cell? ⟨b0, off + j * 3 + 1, none⟩ = some (.int .u32 x) ∧ w'.cell? ⟨b0, off + j * 3 + 2, none⟩ = some (.int .i64 k))
            (first | exact ⟨r1', r2'⟩ | exact ⟨r1'', r2''⟩)
            (first
              | (go_at_call 10; refine hG.mono ?_; rintro e w3 ⟨rfl, hb3, ho3⟩
                 have r0'' : w3.cell? ⟨b0, off + j * 3, none⟩ = some (.bool true) := (hb3.cell (show b0 < w2.drew.heap.size by show b0 < w2.heap.size; omega) f1 f2).trans r0'
                 have r1'' : w3.cell? ⟨b0, off + j * 3 + 1, none⟩ = some (.int .u32 x) := (hb3.cell (show b0 < w2.drew.heap.size by show b0 < w2.heap.size; omega) f1 f2).trans r1'
                 have r2'' : w3.cell? ⟨b0, off + j * 3 + 2, none⟩ = some (.int .i64 k) := (hb3.cell (show b0 < w2.drew.heap.size by show b0 < w2.heap.size; omega) f1 f2).trans r2'))
          have s3 : w2.heap.size ≤ w3.heap.size := hb3.size
          have hown3 := owns_but (w := w2) (w' := w3) hown2 ⟨hb3.os, hb3.tape, hb3.output, hb3.size, hb3.block⟩ (by omega) (by omega)
          have kA : ∀ (o : Obj) (i : Nat), (w3.alloc o).cell? ⟨b0, i, none⟩ = w3.cell? ⟨b0, i, none⟩ := fun o i => ((Below.refl w3.heap.size w3).alloc (Nat.le_refl _) o).cell (show b0 < w3.heap.size by omega)
          have kN := own_ne hown3 (show b0 < N0 by omega)
          go_wp2
          go_region_held3 (fun w' => w'.cell? ⟨b0, off + j * 3 + 1, none⟩ = some (.int .u32 x) ∧ w'.cell? ⟨b0, off + j * 3 + 2, none⟩ = some (.int .i64 k))
            (first
              | exact ⟨r1'', r2''⟩
              | exact ⟨(kA _ _).trans r1'', (kA _ _).trans r2''⟩
              | exact ⟨(hgrow4.cell_far _ (by simp; omega) kN).trans ((kA _ _).trans r1''), (hgrow4.cell_far _ (by simp; omega) kN).trans ((kA _ _).trans r2'')⟩)
            ((refine step_append_lies _ (by rfl) _ _ _ (by rfl) N0 33 i0 _ 3 16 Try.underlying22 hi0 hz0 hz1 hz2 rfl (by omega) _ zs'.length (flat zs') (by rfl) ((hown3.alloc _).drew)
                  ⟨w3.heap.size, 0, none⟩ 1 1 [.bool false, .int .u32 x, .int .i64 k] (by rfl) (by rfl) (World.news_of_block (cs := #[.bool false, .int .u32 x, .int .i64 k]) (t := 33) (fr := (0, 0)) (heap_alloc_new w3 _)) (by simp [Value.oneCell'])
                  (by omega) (by unfold maxLen; omega) (by omega) (by simp; omega) (w3.heap.size + 1) (by simp) ?_; intro gg4 cap4 w4 hown4 hgrow4 hat4 hlt4))
          have s4 := hgrow4.size
          simp only [World.size_alloc, World.size_drew] at s4
          have z0 : w4.cell? ⟨b0, off + j * 3, none⟩ = some (.bool true) := (hgrow4.cell_far _ (by simp; omega) kN).trans ((kA _ _).trans r0'')
          have z1 : w4.cell? ⟨b0, off + j * 3 + 1, none⟩ = some (.int .u32 x) := (hgrow4.cell_far _ (by simp; omega) kN).trans ((kA _ _).trans r1'')
          have z2 : w4.cell? ⟨b0, off + j * 3 + 2, none⟩ = some (.int .i64 k) := (hgrow4.cell_far _ (by simp; omega) kN).trans ((kA _ _).trans r2'')
          have bel4 : Below N0 w3 w4 := Below.grown (((Below.refl N0 w3).alloc (by omega) _).drew) hgrow4 (by simp; omega) (own_block hown3)
          have belx : Below w.heap.size w w4 := ((belr.drew.trans (hb2.below lbw ldw sr)).drew.trans (hb3.below lbw ldw (by show w.heap.size ≤ w2.heap.size; omega))).trans (Below.less bel4 (by omega))
          by_cases he2 : er2 = 0
          · subst he2
            have bad2 : Hid (M.mayv (8 * n) (hd zs1) (tl zs1) x k = 0) := Eq.symm her2
            clear her2
            go_wp2_with (at_builtin; refine wpList_append_own _ rfl (.tmp 83) (.tmp 88) 22 rfl N0 33 i0 _ 3 16 Try.underlying22 hi0 hz0 hz1 hz2 rfl (by decide) _ _ _ rfl (hown4.alloc _) ⟨w4.heap.size, 0, none⟩ 1 1 [.bool true, .int .u32 x, .int .i64 k] rfl rfl (World.news_of_block (cs := #[.bool true, .int .u32 x, .int .i64 k]) (t := 33) (fr := (0, 0)) (heap_alloc_new w4 _)) (by simp [Value.oneCell']) (by unfold maxLen; omega) (by omega) (by simp; omega) ?_; intro v' w5 hown5 hgrow _)
            go_roundw
            case rel =>
              have bel5 : Below N0 w4 w5 := ((Below.refl N0 w4).alloc (by omega) _).grown hgrow (by simp; omega) (own_block hown4)
              have s5 := bel5.size
              obtain ⟨q1, q2⟩ := hd_put (l := zs1) true bad2
              refine ⟨j + 1, by omega, by go_num, zs1 ++ [(true, x, k)], _, belx.trans (Below.less bel5 (by omega)), ?_, ?_, hS1.put true hg1.1 bad2, ?_, by simp; omega, ?_, by omega⟩
              · rw [q1, q2]; exact (ho3.below bel4 (by omega) (by omega) (by omega) (by omega)).below bel5 (by omega) (by omega) (by omega) (by omega)
              · rw [q1, q2]; exact Good.next hg1 x k
              · rw [flat_append, List.length_append, hl1, show flat zs1 = _ from hf1]; exact hown5
              · exact snoc_lt hvz1 hx
            case measure => simp [intOf]; omega
          · have hne2 : M.mayv (8 * n) (hd zs1) (tl zs1) x k ≠ 0 := by rw [← show er2 = _ from her2]; exact he2
            replace hne2 : Hid (M.mayv (8 * n) (hd zs1) (tl zs1) x k ≠ 0) := hne2
            go_wp2
            go_roundw
            case rel =>
              obtain ⟨q1, q2, q3⟩ := n_err (B := B1) false hne2
              rw [q1, q2, q3] at ho3
              refine ⟨j + 1, by omega, by go_num, zs1, B1, belx, ho3.below bel4 (by omega) (by omega) (by omega) (by omega), hg1, hS1, ?_, by omega, hvz1, by omega⟩
              rw [hl1, show flat zs1 = _ from hf1]; exact hown4
            case measure => simp [intOf]; omega
      · replace her : Hid (er = M.mayv (8 * n) (hd zs') (tl zs') x k) := her
        have hne : Hid (M.mayv (8 * n) (hd zs') (tl zs') x k ≠ 0) := by rw [← show er = _ from her]; exact he0
        cases bk
        · go_wp2
          go_region_held3 (fun w' => w'.cell? ⟨b0, off + j * 3 + 1, none⟩ = some (.int .u32 x) ∧ w'.cell? ⟨b0, off + j * 3 + 2, none⟩ = some (.int .i64 k))
            (first | exact ⟨r1, r2⟩ | exact ⟨r1', r2'⟩)
            (first
              | (go_at_call 11; refine hF.mono ?_; rintro e w2 ⟨rfl, hb2, ho2⟩
                 have r0' : w2.cell? ⟨b0, off + j * 3, none⟩ = some (.bool false) := (hb2.cell (show b0 < wr.drew.heap.size by show b0 < wr.heap.size; omega) f1 f2).trans r0
                 have r1' : w2.cell? ⟨b0, off + j * 3 + 1, none⟩ = some (.int .u32 x) := (hb2.cell (show b0 < wr.drew.heap.size by show b0 < wr.heap.size; omega) f1 f2).trans r1
                 have r2' : w2.cell? ⟨b0, off + j * 3 + 2, none⟩ = some (.int .i64 k) := (hb2.cell (show b0 < wr.drew.heap.size by show b0 < wr.heap.size; omega) f1 f2).trans r2))
          have s2 : wr.heap.size ≤ w2.heap.size := hb2.size
          go_wp2
          go_roundw
          case rel =>
            obtain ⟨q1, q2, q3⟩ := n_err (B := B) true hne
            rw [q1, q2, q3] at ho2
            exact ⟨j + 1, by omega, by go_num, zs', B, belr.drew.trans (hb2.below lbw ldw sr), ho2, hg, hS, owns_but (w := wr) (w' := w2) hown ⟨hb2.os, hb2.tape, hb2.output, hb2.size, hb2.block⟩ (by omega) (by omega), by omega, hvz, by omega⟩
          case measure => simp [intOf]; omega
        · go_wp2
          go_region_held3 (fun w' => w'.cell? ⟨b0, off + j * 3 + 1, none⟩ = some (.int .u32 x) ∧ w'.cell? ⟨b0, off + j * 3 + 2, none⟩ = some (.int .i64 k))
            (first | exact ⟨r1, r2⟩ | exact ⟨r1', r2'⟩)
            (first
              | (go_at_call 11; refine hF.mono ?_; rintro e w2 ⟨rfl, hb2, ho2⟩
                 have r0' : w2.cell? ⟨b0, off + j * 3, none⟩ = some (.bool true) := (hb2.cell (show b0 < wr.drew.heap.size by show b0 < wr.heap.size; omega) f1 f2).trans r0
                 have r1' : w2.cell? ⟨b0, off + j * 3 + 1, none⟩ = some (.int .u32 x) := (hb2.cell (show b0 < wr.drew.heap.size by show b0 < wr.heap.size; omega) f1 f2).trans r1
                 have r2' : w2.cell? ⟨b0, off + j * 3 + 2, none⟩ = some (.int .i64 k) := (hb2.cell (show b0 < wr.drew.heap.size by show b0 < wr.heap.size; omega) f1 f2).trans r2))
          have s2 : wr.heap.size ≤ w2.heap.size := hb2.size
          go_wp2
          go_roundw
          case rel =>
            obtain ⟨q1, q2, q3⟩ := n_err (B := B) true hne
            rw [q1, q2, q3] at ho2
            exact ⟨j + 1, by omega, by go_num, zs', B, belr.drew.trans (hb2.below lbw ldw sr), ho2, hg, hS, owns_but (w := wr) (w' := w2) hown ⟨hb2.os, hb2.tape, hb2.output, hb2.size, hb2.block⟩ (by omega) (by omega), by omega, hvz, by omega⟩
          case measure => simp [intOf]; omega
    · obtain rfl : j = zs.length := by omega
      obtain ⟨ad, cd, rfl⟩ := own_form hown
      have sr := belr.size
      obtain ⟨hAd, _⟩ := acts_of_owns hown hvz
      have hlz2 : zs'.length ≤ 200 := by omega
      clear hown
      go_wp2_with (first
        | (go_at_call 15; refine (BytesP p b c d n _ _ B _ hO hn).mono ?_; rintro e w2 ⟨a5, cap5, rfl, hown5, bel5⟩)
        | (go_at_call 17; refine (Open_ok _ (bytesL n B) B _ (src_of_owns hown5) (by rw [bytesL_length]; exact hn) (fun i hi => bytesL_getD B (by rw [bytesL_length] at hi; exact hi))).mono ?_; rintro e w3 ⟨q, qb, qc, qd, rfl, lq, lqb, lqc, lqd, uq, uqb, uqc, uqd, bel6, he⟩; rw [bytesL_length] at he))
      have s5 := bel5.size
      have s6 := bel6.size
      have hP2 := hO.below bel5 (by omega) (by omega) (by omega) (by omega)
      have hA2 := hAd.below bel5 (Nat.le_refl _)
      have belw2 : Below w.heap.size w w2 := belr.trans (Below.less bel5 sr)
      clear hAd hO hA0
      go_loopw [12] (fun i wr => ∃ j : Nat, j ≤ zs'.length ∧ i = .int .i64 j ∧ Below w2.heap.size w2 wr ∧ Own 67 wr q qb qc qd n B (hd (zs'.take j)) (tl (zs'.take j))) (fun i _ => zs'.length - (intOf i).toNat)
      case atStart => exact ⟨0, by omega, rfl, bel6, he⟩
      case round =>
        obtain ⟨j, hj, rfl, belr2, hO2⟩ := hrel
        have sr2 := belr2.size
        by_cases hlt : j < zs'.length
        · obtain ⟨⟨bk, x, k⟩, hz⟩ : ∃ z, zs'[j]? = some z := ⟨_, List.getElem?_eq_getElem hlt⟩
          obtain ⟨a', c', he', _, hnil | ⟨b0, off, rfl, hb0, hcells⟩⟩ := hA2
          · rw [hnil] at hlt; simp at hlt
          cases he'
          obtain ⟨k0, k1, k2⟩ := hcells j bk x k hz
          have r0 : wr.cell? ⟨b0, off + j * 3, none⟩ = some (.bool bk) := (belr2.cell hb0).trans k0
          have r1 : wr.cell? ⟨b0, off + j * 3 + 1, none⟩ = some (.int .u32 x) := (belr2.cell hb0).trans k1
          have r2 : wr.cell? ⟨b0, off + j * 3 + 2, none⟩ = some (.int .i64 k) := (belr2.cell hb0).trans k2
          clear k0 k1 k2 hcells
          have i1 : (0 : Int) ≤ (j : Int) := by omega
          have i2 : (j : Int) < (zs'.length : Int) := by omega
          have f1 : b0 ≠ qb := by omega
          obtain ⟨hmay, hev⟩ := lies_get (hS.at hz)
          obtain ⟨t1, t2⟩ := hd_take hz hmay
          have hle := hd_le hS hz
          simp only at hmay hev t1 t2
          cases bk with
          | false =>
            have hE := FrontE_any q qb qc qd n _ _ k B wr hO2 hn hle
            rw [hmay, show M.ev true (8 * n) B _ _ k = x from hev, show M.eh true (8 * n) _ _ k = _ from t1.symm, show M.et true (8 * n) _ _ k = _ from t2.symm] at hE
            clear hmay hev t1 t2 hle
            go_wp2_with (go_at_call 20; refine hE.mono ?_; rintro e w4 ⟨rfl, hb4, ho4⟩
                         have r1' : w4.cell? ⟨b0, off + j * 3 + 1, none⟩ = some (.int .u32 x) := (hb4.cell (show b0 < wr.heap.size by omega) f1 f1).trans r1)
            go_roundw
            case rel => exact ⟨j + 1, by omega, by go_num, belr2.trans (hb4.below lqb lqb sr2), ho4⟩
            case measure => simp [intOf]; omega
          | true =>
            have hE := BackE_any q qb qc qd n _ _ k B wr hO2 hn hle
            rw [hmay, show M.ev false (8 * n) B _ _ k = x from hev, show M.eh false (8 * n) _ _ k = _ from t1.symm, show M.et false (8 * n) _ _ k = _ from t2.symm] at hE
            clear hmay hev t1 t2 hle
            go_wp2_with (go_at_call 19; refine hE.mono ?_; rintro e w4 ⟨rfl, hb4, ho4⟩
                         have r1' : w4.cell? ⟨b0, off + j * 3 + 1, none⟩ = some (.int .u32 x) := (hb4.cell (show b0 < wr.heap.size by omega) f1 f1).trans r1)
            go_roundw
            case rel => exact ⟨j + 1, by omega, by go_num, belr2.trans (hb4.below lqb lqb sr2), ho4⟩
            case measure => simp [intOf]; omega
        · obtain rfl : j = zs'.length := by omega
          rw [List.take_length] at hO2
          have hP3 := hP2.below belr2 (by omega) (by omega) (by omega) (by omega)
          go_wp2_with (first
            | (go_at_call 23; refine (LeftE q qb qc qd n _ _ B _ hO2 hn hg.1).mono ?_; rintro e w' ⟨rfl, m1, rfl⟩)
            | (go_at_call 13; refine (LeftP p b c d n _ _ B _ (hP3.drewN _) hn hg.1).mono ?_; rintro e w' ⟨rfl, m2, rfl⟩))
          go_ret
          exact ⟨by simp, Below.drewN' (belw2.trans (Below.less belr2 (by omega))) _⟩

set_option maxRecDepth 100000 in
theorem BitsBack_walk (n : Int) (v : Value) (zs : List Act) (w : World) (hA : Acts w v zs) :
    Calls Try.prog 5 #[.int .i64 n, v] w fun e w' => e = .returned (.bool true) ∧ Below w.heap.size w w' := by
  rcases (by omega : n < 0 ∨ 512 < n ∨ (0 ≤ n ∧ n ≤ 512)) with h | h | ⟨h0, h1⟩
  · go_enter Try.func5, Try.ntmps5
    go_wp2_with (first
      | (go_at_call 7; refine (alive_any _).mono ?_; rintro e wa ⟨rfl, bela⟩)
      | (go_at_call 8; refine (New_lo n _ h).mono ?_; rintro e w1 ⟨rfl, rfl⟩))
    go_ret
    exact ⟨rfl, bela⟩
  · go_enter Try.func5, Try.ntmps5
    go_wp2_with (first
      | (go_at_call 7; refine (alive_any _).mono ?_; rintro e wa ⟨rfl, bela⟩)
      | (go_at_call 8; refine (New_hi n _ h).mono ?_; rintro e w1 ⟨rfl, rfl⟩))
    go_ret
    exact ⟨rfl, bela⟩
  · obtain ⟨m, rfl⟩ := Int.eq_ofNat_of_zero_le h0
    by_cases hl : zs.length ≤ 100
    · exact back_main m v zs w hA (by omega) hl
    · obtain ⟨a, cp, rfl, _⟩ := hA
      have l1 : (100 : Int) < (zs.length : Int) := by omega
      go_enter Try.func5, Try.ntmps5
      go_wp2_with (first
        | (go_at_call 7; refine (alive_any _).mono ?_; rintro e wa ⟨rfl, bela⟩)
        | (go_at_call 8; refine (New_ok m _ (by omega)).mono ?_; rintro e w1 ⟨p, b, c, d, rfl, lp, lb, lc, ld, up, ub, uc, ud, bel1, ho⟩))
      go_ret
      exact ⟨rfl, bela.trans (Below.less bel1 bela.size)⟩

end Bits
end Go.Proofs.Ytafjepneekomiaa
