/-
  The document's answer for a splitter. Conditions: as told at each.
-/
import Derived.Test.YtkmkackifihhjaaDoorPolyRefA
namespace Go.Proofs.YtkmkackifihhjaaDoor
set_option linter.unusedVariables false
open Go.RowKit
namespace Poly
open Bank (Blk But)
theorem one_new (w : World) (v : Value) (t : TypeId) (j : Nat) (u : Value) (hj : [v][j]? = some u) : (w.alloc (.cells #[v] t)).cell? ((⟨w.heap.size, 0, none⟩ : Addr).add j) = some u := by
  match j, hj with
  | 0, hj => simp at hj; subst hj; rw [add_at]; exact (Blk.new w #[v] t).cell (o := 0) rfl
def lenOf : Value → Nat
  | .slice _ n _ => n
  | _ => 0

set_option maxRecDepth 100000 in
set_option maxHeartbeats 4000000 in
theorem split_4 (lo hi : Nat) (zss : List (List Int)) (vb : Value) (w : World) (hR : Rows .i16 lo hi w vb zss) (h1 : hi ≤ w.heap.size) (hr : ∀ i, i < zss.length → (zss.getD i []).length = 4) (hn : zss.length ≤ 100) :
    Calls Tryd.prog 14 #[vb, .int .i64 4] w fun e w' => ∃ v, e = .returned v ∧ Reads .i32 w.heap.size w'.heap.size w' v (M.spl 4 (M.news zss)) ∧ Below w.heap.size w w' := by
  obtain ⟨i0, hi0, hz0, hz1, hz2⟩ := info_parts info64
  obtain ⟨j0, hj0, hy0, hy1, hy2⟩ := info_parts info32
  obtain ⟨a, c, rfl, hc⟩ := hR.form
  have HR : Hid (Rows .i16 lo hi w (.slice a zss.length c) zss) := hR
  obtain ⟨n, hlen⟩ : ∃ n, zss.length = n := ⟨_, rfl⟩
  have HL : Hid (zss.length = n) := hlen
  have HM : Hid (∀ i, i < zss.length → (zss.getD i []).length = 4) := hr
  have hn' : (n : Int) ≤ 100 := by omega
  have hfit : M.fits16 (M.news zss) := by
    intro z hz
    obtain ⟨i, hi, hz⟩ := M.news_mem hz
    obtain ⟨b, off, _, _, _, hx⟩ := hR.cell (by omega)
    obtain ⟨u, _, hu⟩ := hx i hi
    obtain ⟨_, _, _, _, hw, _⟩ := hu
    exact wf16.1 (hw z hz)
  have HF : Hid (M.fits16 (M.news zss)) := hfit
  rw [hlen] at hc ⊢
  have hc' : (n : Int) ≤ c := by omega
  clear hR hlen hr hfit
  go_enter Tryd.func14, Tryd.ntmps14
  go_wp2
  go_loopw [5, 6] (fun v i wr => ∃ (k : Nat) (i' : Int), k ≤ n ∧ i = .int .i64 i' ∧ i' = n - 1 - k ∧ Gat .i64 2 w.heap.size v (M.newsK zss k) w wr) (fun _ i _ => (intOf i + 1).toNat)
  case atStart => exact ⟨0, n - 1, by omega, rfl, by omega, Gat.nil _ _ _⟩
  case round =>
    obtain ⟨k, i', hk, rfl, hi', hG⟩ := hrel
    by_cases hlt : k < n
    · obtain ⟨r, rfl⟩ : ∃ r : Nat, i' = r := ⟨i'.toNat, by omega⟩
      have hrn : r < n := by omega
      have hrn' : (r : Int) < n := by omega
      obtain ⟨b, off, rfl, q0, q1, hcell⟩ := Rows.cell HR.out (by rw [HL.out]; omega)
      obtain ⟨u, hu, hru⟩ := hcell r (by rw [HL.out]; omega)
      have hlu := HM.out r (by rw [HL.out]; omega)
      obtain ⟨au, cu, rfl⟩ := hru.form
      obtain ⟨bu, ou, rfl, p0, p1, hcu⟩ := hru.cell (by omega)
      rw [hlu] at hu hcu
      have hfu : M.fits16 (zss.getD r []) := by obtain ⟨_, _, _, _, hw, _⟩ := hru; exact fit16.1 hw
      have HU : Hid (∀ i, i < 4 → w.cell? ⟨bu, ou + i, none⟩ = some (.int .i16 ((zss.getD r []).getD i 0))) := hcu
      have HFu : Hid (M.fits16 (zss.getD r [])) := hfu
      have hst := M.newsK_step (zss := zss) (k := k) (by rw [HL.out]; omega)
      rw [HL.out, show n - 1 - k = r from by omega] at hst
      have HST : Hid (M.newsK zss (k + 1) = M.newsK zss k ++ (zss.getD r []).reverse) := hst
      have hll := M.newsK_length HM.out (k := k) (by rw [HL.out]; omega)
      have HLL : Hid ((M.newsK zss k).length ≤ 400) := by show _ ≤ 400; omega
      generalize M.newsK zss k = X0 at *
      generalize zss.getD r [] = row at *
      have HRow : Hid (row.length = 4) := hlu
      have HI : Hid ((r : Int) = n - 1 - k) := hi'
      clear hcell hru hcu hfu hst hll hlu hi'
      go_wp2
      go_loopw [5, 7] (fun v i wr => ∃ (q : Nat) (i' : Int), q ≤ 4 ∧ i = .int .i64 i' ∧ i' = 3 - q ∧ Gat .i64 2 w.heap.size v (X0 ++ row.reverse.take q) w wr) (fun _ i _ => (intOf i + 1).toNat)
      case atStart => exact ⟨0, 3, by omega, rfl, by omega, by simpa using hG⟩
      case round =>
        clear hG
        obtain ⟨q, i', hq, rfl, hi2, hG⟩ := hrel
        by_cases hlt2 : q < 4
        · obtain ⟨p, rfl⟩ : ∃ p : Nat, i' = p := ⟨i'.toNat, by omega⟩
          have hp4 : (p : Int) < 4 := by omega
          have hbel := hG.2.1
          have hown := hG.1
          have hsz := hG.size
          have e1 : wr.cell? ⟨b, off + r, none⟩ = some (.slice (some ⟨bu, ou, none⟩) 4 cu) := (cell_keep (hbel.block b (by omega))).trans hu
          have e2 : wr.cell? ⟨bu, ou + p, none⟩ = some (.int .i16 (row.getD p 0)) := (cell_keep (hbel.block bu (by omega))).trans (HU.out p (by omega))
          have e3 := M.get_bd HFu.out (by decide) (by decide) p
          have hln : (X0 ++ row.reverse.take q).length ≤ 500 := by have := HLL.out; simp; omega
          have hstep : Hid (X0 ++ row.reverse.take (q + 1) = (X0 ++ row.reverse.take q) ++ [row.getD p 0]) := by
            show _ = _
            rw [M.rev_take (by rw [HRow.out]; omega), HRow.out, show 4 - 1 - q = p from by omega, List.append_assoc]
          have HP : Hid ((p : Int) = 3 - q) := hi2
          clear hi2
          generalize X0 ++ row.reverse.take q = X at *
          generalize row.getD p 0 = x at *
          go_wp2_with (at_builtin; refine wpList_append_own _ rfl (.tmp 32) (.tmp 41) 85 rfl w.heap.size 2 i0 (.int .i64 0) 1 8 Tryd.underlying85 hi0 hz0 hz1 hz2 rfl (by decide) _ _ _ rfl (hown.alloc _) ⟨wr.heap.size, 0, none⟩ 1 1 [.int .i64 x] rfl rfl ?c1 ?c2 ?c3 ?c4 ?c5 ?_)
          case c1 => exact one_new _ _ _
          case c2 => intro u hu; simp at hu; subst hu; rfl
          case c3 => unfold maxLen; omega
          case c4 => omega
          case c5 => simp; omega
          · intro v' w1 hown' hgrow _
            have R := hG.step hown' hgrow
            clear hown' hgrow hown hG
            go_wp2
            go_roundw
            case rel => exact ⟨q + 1, (p : Int) - 1, by omega, by go_num, by have := HP.out; omega, by rw [hstep.out]; exact R⟩
            case measure => simp [intOf] <;> omega
        · obtain rfl : q = 4 := by omega
          obtain rfl : i' = -1 := by omega
          clear hi2
          have hG2 : Gat .i64 2 w.heap.size u5 (M.newsK zss (k + 1)) w wr := by rw [HST.out, ← M.rev_all (row := row) (q := 4) (by rw [HRow.out])]; exact hG
          clear hG
          go_wp2
          go_roundw
          case rel => exact ⟨k + 1, (r : Int) - 1, by omega, by go_num, by have := HI.out; omega, hG2⟩
          case measure => simp [intOf] <;> omega
    · obtain rfl : k = n := by omega
      obtain rfl : i' = -1 := by omega
      clear hi'
      have hG1 : Gat .i64 2 w.heap.size u5 (M.news zss) w wr := by rw [← M.newsK_all, HL.out]; exact hG
      have hll := M.newsK_length HM.out (k := zss.length) (by omega)
      rw [M.newsK_all, HL.out] at hll
      have HLL : Hid ((M.news zss).length ≤ 400) := by show _ ≤ 400; omega
      clear hll hG HR HM HL hn' hc hc' hk
      generalize hX0 : M.news zss = X0 at *
      have HX0 : Hid (M.news zss = X0) := hX0
      clear hX0
      go_wp2
      go_loopw [5] (fun v wr => ∃ z : Nat, z ≤ 40 ∧ (z = 0 ∨ X0.length + z ≤ 40) ∧ Gat .i64 2 w.heap.size v (X0 ++ List.replicate z 0) w wr) (fun v _ => 1000 - lenOf v)
      case atStart => exact ⟨0, by omega, .inl rfl, by simpa using hG1⟩
      case round =>
        clear hG1
        obtain ⟨z, hz, hzz, hG⟩ := hrel
        obtain ⟨xa, xc, rfl⟩ := hG.form
        by_cases hlt : X0.length + z < 40
        · have hown := hG.1
          have hsz := hG.size
          have hln : (X0 ++ List.replicate z 0).length < 40 := by simpa using hlt
          have hln' : ((X0 ++ List.replicate z 0).length : Int) < 40 := by omega
          have hstep : Hid (X0 ++ List.replicate (z + 1) 0 = (X0 ++ List.replicate z 0) ++ [0]) := M.pad_step _ _
          have HZ : Hid (X0.length + (z + 1) ≤ 40) := by show _ ≤ 40; omega
          clear hlt hzz
          generalize X0 ++ List.replicate z 0 = X at *
          go_wp2_with (at_builtin; refine wpList_append_own _ rfl (.tmp 48) (.tmp 49) 85 rfl w.heap.size 2 i0 (.int .i64 0) 1 8 Tryd.underlying85 hi0 hz0 hz1 hz2 rfl (by decide) _ _ _ rfl (hown.alloc _) ⟨wr.heap.size, 0, none⟩ 1 1 [.int .i64 0] rfl rfl ?c1 ?c2 ?c3 ?c4 ?c5 ?_)
          case c1 => exact one_new _ _ _
          case c2 => intro u hu; simp at hu; subst hu; rfl
          case c3 => unfold maxLen; omega
          case c4 => omega
          case c5 => simp; omega
          · intro v' w1 hown' hgrow _
            have R := hG.step hown' hgrow
            obtain ⟨va, vc, rfl⟩ := own_form hown'
            clear hown' hgrow hown hG
            go_wp2
            go_roundw
            case rel => exact ⟨z + 1, by have := HZ.out; omega, .inr HZ.out, by rw [hstep.out]; exact R⟩
            case measure => simp [lenOf] <;> omega
        · have hln : 40 ≤ (X0 ++ List.replicate z 0).length := by simp; omega
          have hln2 : (X0 ++ List.replicate z 0).length ≤ 400 := by have := HLL.out; simp; omega
          have hln' : ¬ ((X0 ++ List.replicate z 0).length : Int) < 40 := by omega
          have HXf : Hid (M.fits16 (X0 ++ List.replicate z 0)) := M.pad_fits HF.out (by decide) (by decide) z
          have HXe : Hid (∀ i, (X0 ++ List.replicate z 0).getD i 0 = X0.getD i 0) := M.pad_get X0 z
          clear hlt hzz hz HF HLL
          generalize X0 ++ List.replicate z 0 = X at *
          have hrx := hG.reads (fun z hz => wf64 (by have := HXf.out z hz; omega) (by have := HXf.out z hz; omega))
          obtain ⟨bx, ox, rfl, x0, x1, hcx⟩ := hrx.cell (by omega)
          have HX : Hid (∀ i, i < X.length → wr.cell? ⟨bx, ox + i, none⟩ = some (.int .i64 (X.getD i 0))) := hcx
          have hbel := hG.2.1
          have HB : Hid (Below w.heap.size w wr) := hbel
          clear hrx hcx hbel hG
          generalize X.length = LX at *
          go_wp2_with (go_at_call 29; refine (rfilter 4 _ (by omega)).mono ?_; rintro e w2 ⟨bf, of, cf, rfl, f0, f1, hcf, hbel2⟩; have HFil : Hid (∀ i, i < 40 → w2.cell? ⟨bf, of + i, none⟩ = some (.int .i16 (M.fil i (4 : Nat)))) := hcf; have HX2 : Hid (∀ i, i < LX → w2.cell? ⟨bx, ox + i, none⟩ = some (.int .i64 (X.getD i 0))) := (fun i hi => (cell_keep (hbel2.block bx x1)).trans (HX.out i hi)); have HB2 : Hid (Below w.heap.size w w2) := Below.trans HB.out (hbel2.mono (Below.size HB.out)); have hs2 := hbel2.size; clear hcf hbel2 HX HB)
          have bx2 : bx < w2.heap.size := by omega
          have H4 := Gat.nil .i64 2 w2
          obtain ⟨B4, hB4⟩ : ∃ B, w2.heap.size = B := ⟨_, rfl⟩
          rw [hB4] at H4 f1 hs2 bx2
          go_loopw [9, 10] (fun v i wr => ∃ j : Nat, j ≤ 8 ∧ i = .int .i64 j ∧ Gat .i64 2 B4 v ((M.ys 4 X).take j) w2 wr) (fun _ i _ => 8 - (intOf i).toNat)
          case atStart => exact ⟨0, by omega, rfl, by simpa using H4⟩
          case round =>
            clear H4
            obtain ⟨j, hj, rfl, hG⟩ := hrel
            by_cases hjl : j < 8
            · have hjl' : (j : Int) < 8 := by omega
              have hbel := hG.2.1
              have HX3 : Hid (∀ i, i < LX → wr.cell? ⟨bx, ox + i, none⟩ = some (.int .i64 (X.getD i 0))) := fun i hi => (cell_keep (hbel.block bx bx2)).trans (HX2.out i hi)
              have HFil3 : Hid (∀ i, i < 40 → wr.cell? ⟨bf, of + i, none⟩ = some (.int .i16 (M.fil i (4 : Nat)))) := fun i hi => (cell_keep (hbel.block bf f1)).trans (HFil.out i hi)
              clear hbel
              go_wp2
              go_loopw [11, 12] (fun s i w9 => ∃ k : Nat, k ≤ 5 ∧ i = .int .i64 k ∧ s = .int .i64 (M.fo 4 X j k) ∧ ∃ mm, w9 = wr.drewN mm) (fun _ i _ => 5 - (intOf i).toNat)
              case atStart => exact ⟨0, by omega, rfl, rfl, 0, rfl⟩
              case round =>
                obtain ⟨k, hk, rfl, rfl, mm, rfl⟩ := hrel
                by_cases hk5 : k < 5
                · have hk5' : (k : Int) < 5 := by omega
                  obtain ⟨ix, hix⟩ : ∃ ix, ix = j + 2 * 4 * k := ⟨_, rfl⟩
                  have hix' : (j : Int) + 8 * (k : Int) = (ix : Int) := by omega
                  have hb1 : (0 : Int) ≤ ix ∧ (ix : Int) < 40 := by omega
                  have hb2 : (ix : Int) < LX := by omega
                  have q1 := HX3.out ix (by omega)
                  have q2 := HFil3.out ix (by omega)
                  have e0 := M.get_bd HXf.out (by decide) (by decide) ix
                  have e1 := M.fil_bd ix (4 : Nat)
                  have e2 := M.mul_bd (X.getD ix 0) (M.fil ix (4 : Nat)) 32768 32768 (by omega) (by omega) (by omega) (by omega)
                  have d := M.fo_bd (m := 4) HXf.out j k
                  have SS : Hid (M.fo 4 X j (k + 1) = M.fo 4 X j k + M.sgn false k (X.getD ix 0 * M.fil ix (4 : Nat))) := by rw [hix]; exact rfl
                  have d2 : -5368709120 ≤ M.fo 4 X j k ∧ M.fo 4 X j k ≤ 5368709120 := by omega
                  clear d
                  generalize M.fo 4 X j k = cu at *
                  generalize X.getD ix 0 = x0 at *
                  generalize M.fil ix (4 : Nat) = x1 at *
                  rcases Nat.mod_two_eq_zero_or_one k with hp | hp
                  · have ht : (k : Int).tmod 2 = 0 := by rw [tmod2, hp]; rfl
                    have S2 : Hid (cu + -(x0 * x1) = M.fo 4 X j (k + 1)) := by show _ = _; rw [SS.out, (M.sgn_even hp).1]
                    clear SS hp hix
                    go_wp2
                    go_quiet (fail)
                    go_wp2
                    go_roundw
                    case rel => exact ⟨k + 1, by omega, by go_num, by rw [← S2.out], _, rfl⟩
                    case measure => simp [intOf] <;> omega
                  · have ht : (k : Int).tmod 2 = 1 := by rw [tmod2, hp]; rfl
                    have S2 : Hid (cu + x0 * x1 = M.fo 4 X j (k + 1)) := by show _ = _; rw [SS.out, (M.sgn_odd hp).1]
                    clear SS hp hix
                    go_wp2
                    go_quiet (fail)
                    go_wp2
                    go_roundw
                    case rel => exact ⟨k + 1, by omega, by go_num, by rw [← S2.out], _, rfl⟩
                    case measure => simp [intOf] <;> omega
                · obtain rfl : k = 5 := by omega
                  have d := M.fo_bd (m := 4) HXf.out j 5
                  have hG2 := hG.drewN mm
                  have hown := hG2.1
                  have hsz := hG2.size
                  have hln2 : ((M.ys 4 X).take j).length ≤ 16 := by simp; omega
                  have hstep : Hid ((M.ys 4 X).take (j + 1) = (M.ys 4 X).take j ++ [M.sat32 (M.rnd (M.fo 4 X j 5) 14)]) := M.ys_take (by omega)
                  have hsb := M.sat32_bd (M.rnd (M.fo 4 X j 5) 14)
                  have hrr := rround (M.fo 4 X j 5) 14 (wr.drewN mm) (by omega) (by omega)
                  generalize (M.ys 4 X).take j = Y at *
                  generalize M.sat32 (M.rnd (M.fo 4 X j 5) 14) = y at *
                  clear d hG
                  go_wp2_with (first
                    | (go_at_call 30; refine hrr.mono ?_; rintro e w' ⟨rfl, hw⟩; rw [hw]; clear hw w')
                    | (at_builtin; refine wpList_append_own _ rfl (.tmp 91) (.tmp 94) 85 rfl B4 2 i0 (.int .i64 0) 1 8 Tryd.underlying85 hi0 hz0 hz1 hz2 rfl (by decide) _ _ _ rfl (hown.alloc _) ⟨(wr.drewN mm).heap.size, 0, none⟩ 1 1 [.int .i64 y] rfl rfl ?c1 ?c2 ?c3 ?c4 ?c5 ?_))
                  case c1 => exact one_new _ _ _
                  case c2 => intro u hu; simp at hu; subst hu; rfl
                  case c3 => unfold maxLen; omega
                  case c4 => omega
                  case c5 => simp at hsz ⊢; omega
                  · intro v' w1 hown' hgrow _
                    have R := hG2.step hown' hgrow
                    clear hown' hgrow hown hG2
                    go_wp2
                    go_roundw
                    case rel => exact ⟨j + 1, by omega, by go_num, by rw [hstep.out]; exact R⟩
                    case measure => simp [intOf] <;> omega
            · obtain rfl : j = 8 := by omega
              rw [show ((8 : Nat) : Int) = 8 from rfl]
              have hry := hG.reads (fun z hz => wf64 (by have := M.ys_fits 4 X z (List.mem_of_mem_take hz); omega) (by have := M.ys_fits 4 X z (List.mem_of_mem_take hz); omega))
              rw [List.take_of_length_le (by rw [M.ys_length]; omega)] at hry
              obtain ⟨ya, yc, rfl⟩ := hry.form
              obtain ⟨by_, oy, rfl, y0, y1, hcy⟩ := hry.cell (by rw [M.ys_length]; omega)
              rw [M.ys_length, show 2 * 4 = 8 from rfl] at hcy ⊢
              have HY : Hid (∀ i, i < 8 → wr.cell? ⟨by_, oy + i, none⟩ = some (.int .i64 ((M.ys 4 X).getD i 0))) := hcy
              have HB3 : Hid (Below w.heap.size w wr) := Below.trans HB2.out (hG.2.1.mono (by rw [← hB4]; exact Below.size HB2.out))
              have HYf : Hid (M.fits32 (M.ys 4 X)) := M.ys_fits 4 X
              clear hcy hry hG HFil HX2 HB2
              go_wp2
              have H6 := Gat.nil .i32 21 wr
              obtain ⟨B6, hB6⟩ : ∃ B, wr.heap.size = B := ⟨_, rfl⟩
              obtain ⟨w6, hw6⟩ : ∃ w6, w6 = wr := ⟨_, rfl⟩
              rw [hB6] at H6 y1
              rw [← hw6] at HB3 HY
              have H6' : Gat .i32 21 B6 (.slice none 0 0) [] w6 wr := by rw [hw6]; exact H6
              have hB6' : w6.heap.size = B6 := by rw [hw6]; exact hB6
              have HB6 : Hid (w6.heap.size = B6) := hB6'
              clear hB6' hw6 hB6 H6
              go_loopw [15, 16] (fun v i wr => ∃ j : Nat, j ≤ 4 ∧ i = .int .i64 j ∧ Gat .i32 21 B6 v ((M.spl 4 X).take j) w6 wr) (fun _ i _ => 4 - (intOf i).toNat)
              case atStart => exact ⟨0, by omega, rfl, by simpa using H6'⟩
              case round =>
                clear H6'
                obtain ⟨i, hi, rfl, hG⟩ := hrel
                by_cases hil : i < 4
                · have hil' : (i : Int) < 4 := by omega
                  have hbel := hG.2.1
                  have HY3 : Hid (∀ i, i < 8 → wr.cell? ⟨by_, oy + i, none⟩ = some (.int .i64 ((M.ys 4 X).getD i 0))) := fun i hi => (cell_keep (hbel.block by_ y1)).trans (HY.out i hi)
                  clear hbel
                  go_wp2
                  go_loopw [17, 18] (fun s i9 w9 => ∃ k : Nat, k ≤ 8 ∧ i9 = .int .i64 k ∧ s = .int .i64 (Dot.dotTo (M.ys 4 X) (M.ws 4 i) k) ∧ ∃ mm, w9 = wr.drewN mm) (fun _ i _ => 8 - (intOf i).toNat)
                  case atStart => exact ⟨0, by omega, rfl, rfl, 0, rfl⟩
                  case round =>
                    obtain ⟨k, hk, rfl, rfl, mm, rfl⟩ := hrel
                    have hd := Dot.dotTo_bd (fit32.2 HYf.out) (fit16.2 (M.ws_fits (m := 4) (by omega) i)) k
                    have d2 : -1125899906842624 ≤ Dot.dotTo (M.ys 4 X) (M.ws 4 i) k ∧ Dot.dotTo (M.ys 4 X) (M.ws 4 i) k ≤ 1125899906842624 := by omega
                    by_cases hk8 : k < 8
                    · have hk8' : (k : Int) < 8 := by omega
                      have q1 := HY3.out k hk8
                      have e0 := M.get_bd HYf.out (by decide) (by decide) k
                      have e1 := M.wv_bd (m := ((4 : Nat) : Int)) (a := 2 * (i : Int) + 1) (b := 2 * (k : Int) - 4) (by decide)
                      have hwv := rwave (2 * (i : Int) + 1) (2 * (k : Int) - 4) 4
                      have e2 := M.mul_bd ((M.ys 4 X).getD k 0) (M.wv ((4 : Nat) : Int) (2 * (i : Int) + 1) (2 * (k : Int) - 4)) 2147483648 32768 (by omega) (by omega) (by omega) (by omega)
                      have SS : Hid (Dot.dotTo (M.ys 4 X) (M.ws 4 i) k + (M.ys 4 X).getD k 0 * M.wv ((4 : Nat) : Int) (2 * (i : Int) + 1) (2 * (k : Int) - 4) = Dot.dotTo (M.ys 4 X) (M.ws 4 i) (k + 1)) := by
                        show _ = Dot.dotTo _ _ k + _ * _
                        rw [M.ws_get (by omega)]
                        rfl
                      have HW : Hid (∀ wx, Calls Tryd.prog 31 #[.int .i64 (2 * (i : Int) + 1), .int .i64 (2 * (k : Int) - 4), .int .i64 4] wx fun e w' => e = .returned (.int .i64 (M.wv ((4 : Nat) : Int) (2 * (i : Int) + 1) (2 * (k : Int) - 4))) ∧ w' = wx) :=
                        fun wx => hwv wx (by omega) (by omega) (by omega) (by omega) (by omega)
                      generalize Dot.dotTo (M.ys 4 X) (M.ws 4 i) k = cu at *
                      generalize (M.ys 4 X).getD k 0 = x0 at *
                      generalize M.wv ((4 : Nat) : Int) (2 * (i : Int) + 1) (2 * (k : Int) - 4) = x1 at *
                      clear hd hwv
                      go_wp2
                      go_quiet (first | (go_at_call 31; exact (HW.out _).mono fun e w' h => ⟨h.1, _, h.2⟩))
                      go_wp2
                      go_roundw
                      case rel => exact ⟨k + 1, by omega, by go_num, by rw [← SS.out], _, rfl⟩
                      case measure => simp [intOf] <;> omega
                    · obtain rfl : k = 8 := by omega
                      have hG2 := hG.drewN mm
                      have hown := hG2.1
                      have hsz := hG2.size
                      have hln2 : ((M.spl 4 X).take i).length ≤ 16 := by simp; omega
                      have hstep : Hid ((M.spl 4 X).take (i + 1) = (M.spl 4 X).take i ++ [M.sat32 (M.rnd (Dot.dotTo (M.ys 4 X) (M.ws 4 i) 8) 17)]) := M.spl_take (by omega)
                      have hsb := M.sat32_bd (M.rnd (Dot.dotTo (M.ys 4 X) (M.ws 4 i) 8) 17)
                      have hrr := rround (Dot.dotTo (M.ys 4 X) (M.ws 4 i) 8) 17 (wr.drewN mm) (by omega) (by omega)
                      generalize (M.spl 4 X).take i = Y at *
                      generalize M.sat32 (M.rnd (Dot.dotTo (M.ys 4 X) (M.ws 4 i) 8) 17) = y at *
                      have hwy : IntKind.i32.wrap y = y := by
                        simp only [IntKind.wrap, IntKind.bits, IntKind.signed]
                        first | omega | (simp; omega)
                      clear hd hG
                      go_wp2_with (first
                        | (go_at_call 30; refine hrr.mono ?_; rintro e w' ⟨rfl, hw⟩; rw [hw]; clear hw w')
                        | (at_builtin; refine wpList_append_own _ rfl (.tmp 125) (.tmp 130) 33 rfl B6 21 j0 (.int .i32 0) 1 4 Tryd.underlying33 hj0 hy0 hy1 hy2 rfl (by decide) _ _ _ rfl (hown.alloc _) ⟨(wr.drewN mm).heap.size, 0, none⟩ 1 1 [.int .i32 y] rfl rfl ?c1 ?c2 ?c3 ?c4 ?c5 ?_))
                      case c1 => exact one_new _ _ _
                      case c2 => intro u hu; simp at hu; subst hu; rfl
                      case c3 => unfold maxLen; omega
                      case c4 => omega
                      case c5 => simp at hsz ⊢; omega
                      · intro v' w1 hown' hgrow _
                        have R := hG2.step hown' hgrow
                        clear hown' hgrow hown hG2
                        go_wp2
                        go_roundw
                        case rel => exact ⟨i + 1, by omega, by go_num, by rw [hstep.out]; exact R⟩
                        case measure => simp [intOf] <;> omega
                · obtain rfl : i = 4 := by omega
                  have hrd := hG.reads (fun z hz => wf32.2 (M.spl_fits 4 X z (List.mem_of_mem_take hz)))
                  rw [List.take_of_length_le (by rw [M.spl_length]; omega), M.spl_congr (fun i _ => HXe.out i)] at hrd
                  have hsB := Below.size HB3.out
                  have hfin : Below w.heap.size w wr := Below.trans HB3.out (hG.2.1.mono (by rw [← HB6.out]; exact hsB))
                  have HRD : Hid (Reads _ _ _ _ _ _) := hrd.mono (by rw [← HB6.out]; exact hsB) (Nat.le_refl _)
                  have HFN : Hid (Below w.heap.size w wr) := hfin
                  clear hrd hfin hG
                  go_wp2
                  go_ret
                  exact ⟨_, rfl, by rw [HX0.out]; exact HRD.out, HFN.out⟩

set_option maxRecDepth 100000 in
set_option maxHeartbeats 4000000 in
theorem split_8 (lo hi : Nat) (zss : List (List Int)) (vb : Value) (w : World) (hR : Rows .i16 lo hi w vb zss) (h1 : hi ≤ w.heap.size) (hr : ∀ i, i < zss.length → (zss.getD i []).length = 8) (hn : zss.length ≤ 100) :
    Calls Tryd.prog 14 #[vb, .int .i64 8] w fun e w' => ∃ v, e = .returned v ∧ Reads .i32 w.heap.size w'.heap.size w' v (M.spl 8 (M.news zss)) ∧ Below w.heap.size w w' := by
  obtain ⟨i0, hi0, hz0, hz1, hz2⟩ := info_parts info64
  obtain ⟨j0, hj0, hy0, hy1, hy2⟩ := info_parts info32
  obtain ⟨a, c, rfl, hc⟩ := hR.form
  have HR : Hid (Rows .i16 lo hi w (.slice a zss.length c) zss) := hR
  obtain ⟨n, hlen⟩ : ∃ n, zss.length = n := ⟨_, rfl⟩
  have HL : Hid (zss.length = n) := hlen
  have HM : Hid (∀ i, i < zss.length → (zss.getD i []).length = 8) := hr
  have hn' : (n : Int) ≤ 100 := by omega
  have hfit : M.fits16 (M.news zss) := by
    intro z hz
    obtain ⟨i, hi, hz⟩ := M.news_mem hz
    obtain ⟨b, off, _, _, _, hx⟩ := hR.cell (by omega)
    obtain ⟨u, _, hu⟩ := hx i hi
    obtain ⟨_, _, _, _, hw, _⟩ := hu
    exact wf16.1 (hw z hz)
  have HF : Hid (M.fits16 (M.news zss)) := hfit
  rw [hlen] at hc ⊢
  have hc' : (n : Int) ≤ c := by omega
  clear hR hlen hr hfit
  go_enter Tryd.func14, Tryd.ntmps14
  go_wp2
  go_loopw [5, 6] (fun v i wr => ∃ (k : Nat) (i' : Int), k ≤ n ∧ i = .int .i64 i' ∧ i' = n - 1 - k ∧ Gat .i64 2 w.heap.size v (M.newsK zss k) w wr) (fun _ i _ => (intOf i + 1).toNat)
  case atStart => exact ⟨0, n - 1, by omega, rfl, by omega, Gat.nil _ _ _⟩
  case round =>
    obtain ⟨k, i', hk, rfl, hi', hG⟩ := hrel
    by_cases hlt : k < n
    · obtain ⟨r, rfl⟩ : ∃ r : Nat, i' = r := ⟨i'.toNat, by omega⟩
      have hrn : r < n := by omega
      have hrn' : (r : Int) < n := by omega
      obtain ⟨b, off, rfl, q0, q1, hcell⟩ := Rows.cell HR.out (by rw [HL.out]; omega)
      obtain ⟨u, hu, hru⟩ := hcell r (by rw [HL.out]; omega)
      have hlu := HM.out r (by rw [HL.out]; omega)
      obtain ⟨au, cu, rfl⟩ := hru.form
      obtain ⟨bu, ou, rfl, p0, p1, hcu⟩ := hru.cell (by omega)
      rw [hlu] at hu hcu
      have hfu : M.fits16 (zss.getD r []) := by obtain ⟨_, _, _, _, hw, _⟩ := hru; exact fit16.1 hw
      have HU : Hid (∀ i, i < 8 → w.cell? ⟨bu, ou + i, none⟩ = some (.int .i16 ((zss.getD r []).getD i 0))) := hcu
      have HFu : Hid (M.fits16 (zss.getD r [])) := hfu
      have hst := M.newsK_step (zss := zss) (k := k) (by rw [HL.out]; omega)
      rw [HL.out, show n - 1 - k = r from by omega] at hst
      have HST : Hid (M.newsK zss (k + 1) = M.newsK zss k ++ (zss.getD r []).reverse) := hst
      have hll := M.newsK_length HM.out (k := k) (by rw [HL.out]; omega)
      have HLL : Hid ((M.newsK zss k).length ≤ 800) := by show _ ≤ 800; omega
      generalize M.newsK zss k = X0 at *
      generalize zss.getD r [] = row at *
      have HRow : Hid (row.length = 8) := hlu
      have HI : Hid ((r : Int) = n - 1 - k) := hi'
      clear hcell hru hcu hfu hst hll hlu hi'
      go_wp2
      go_loopw [5, 7] (fun v i wr => ∃ (q : Nat) (i' : Int), q ≤ 8 ∧ i = .int .i64 i' ∧ i' = 7 - q ∧ Gat .i64 2 w.heap.size v (X0 ++ row.reverse.take q) w wr) (fun _ i _ => (intOf i + 1).toNat)
      case atStart => exact ⟨0, 7, by omega, rfl, by omega, by simpa using hG⟩
      case round =>
        clear hG
        obtain ⟨q, i', hq, rfl, hi2, hG⟩ := hrel
        by_cases hlt2 : q < 8
        · obtain ⟨p, rfl⟩ : ∃ p : Nat, i' = p := ⟨i'.toNat, by omega⟩
          have hp4 : (p : Int) < 8 := by omega
          have hbel := hG.2.1
          have hown := hG.1
          have hsz := hG.size
          have e1 : wr.cell? ⟨b, off + r, none⟩ = some (.slice (some ⟨bu, ou, none⟩) 8 cu) := (cell_keep (hbel.block b (by omega))).trans hu
          have e2 : wr.cell? ⟨bu, ou + p, none⟩ = some (.int .i16 (row.getD p 0)) := (cell_keep (hbel.block bu (by omega))).trans (HU.out p (by omega))
          have e3 := M.get_bd HFu.out (by decide) (by decide) p
          have hln : (X0 ++ row.reverse.take q).length ≤ 900 := by have := HLL.out; simp; omega
          have hstep : Hid (X0 ++ row.reverse.take (q + 1) = (X0 ++ row.reverse.take q) ++ [row.getD p 0]) := by
            show _ = _
            rw [M.rev_take (by rw [HRow.out]; omega), HRow.out, show 8 - 1 - q = p from by omega, List.append_assoc]
          have HP : Hid ((p : Int) = 7 - q) := hi2
          clear hi2
          generalize X0 ++ row.reverse.take q = X at *
          generalize row.getD p 0 = x at *
          go_wp2_with (at_builtin; refine wpList_append_own _ rfl (.tmp 32) (.tmp 41) 85 rfl w.heap.size 2 i0 (.int .i64 0) 1 8 Tryd.underlying85 hi0 hz0 hz1 hz2 rfl (by decide) _ _ _ rfl (hown.alloc _) ⟨wr.heap.size, 0, none⟩ 1 1 [.int .i64 x] rfl rfl ?c1 ?c2 ?c3 ?c4 ?c5 ?_)
          case c1 => exact one_new _ _ _
          case c2 => intro u hu; simp at hu; subst hu; rfl
          case c3 => unfold maxLen; omega
          case c4 => omega
          case c5 => simp; omega
          · intro v' w1 hown' hgrow _
            have R := hG.step hown' hgrow
            clear hown' hgrow hown hG
            go_wp2
            go_roundw
            case rel => exact ⟨q + 1, (p : Int) - 1, by omega, by go_num, by have := HP.out; omega, by rw [hstep.out]; exact R⟩
            case measure => simp [intOf] <;> omega
        · obtain rfl : q = 8 := by omega
          obtain rfl : i' = -1 := by omega
          clear hi2
          have hG2 : Gat .i64 2 w.heap.size u5 (M.newsK zss (k + 1)) w wr := by rw [HST.out, ← M.rev_all (row := row) (q := 8) (by rw [HRow.out])]; exact hG
          clear hG
          go_wp2
          go_roundw
          case rel => exact ⟨k + 1, (r : Int) - 1, by omega, by go_num, by have := HI.out; omega, hG2⟩
          case measure => simp [intOf] <;> omega
    · obtain rfl : k = n := by omega
      obtain rfl : i' = -1 := by omega
      clear hi'
      have hG1 : Gat .i64 2 w.heap.size u5 (M.news zss) w wr := by rw [← M.newsK_all, HL.out]; exact hG
      have hll := M.newsK_length HM.out (k := zss.length) (by omega)
      rw [M.newsK_all, HL.out] at hll
      have HLL : Hid ((M.news zss).length ≤ 800) := by show _ ≤ 800; omega
      clear hll hG HR HM HL hn' hc hc' hk
      generalize hX0 : M.news zss = X0 at *
      have HX0 : Hid (M.news zss = X0) := hX0
      clear hX0
      go_wp2
      go_loopw [5] (fun v wr => ∃ z : Nat, z ≤ 80 ∧ (z = 0 ∨ X0.length + z ≤ 80) ∧ Gat .i64 2 w.heap.size v (X0 ++ List.replicate z 0) w wr) (fun v _ => 1000 - lenOf v)
      case atStart => exact ⟨0, by omega, .inl rfl, by simpa using hG1⟩
      case round =>
        clear hG1
        obtain ⟨z, hz, hzz, hG⟩ := hrel
        obtain ⟨xa, xc, rfl⟩ := hG.form
        by_cases hlt : X0.length + z < 80
        · have hown := hG.1
          have hsz := hG.size
          have hln : (X0 ++ List.replicate z 0).length < 80 := by simpa using hlt
          have hln' : ((X0 ++ List.replicate z 0).length : Int) < 80 := by omega
          have hstep : Hid (X0 ++ List.replicate (z + 1) 0 = (X0 ++ List.replicate z 0) ++ [0]) := M.pad_step _ _
          have HZ : Hid (X0.length + (z + 1) ≤ 80) := by show _ ≤ 80; omega
          clear hlt hzz
          generalize X0 ++ List.replicate z 0 = X at *
          go_wp2_with (at_builtin; refine wpList_append_own _ rfl (.tmp 48) (.tmp 49) 85 rfl w.heap.size 2 i0 (.int .i64 0) 1 8 Tryd.underlying85 hi0 hz0 hz1 hz2 rfl (by decide) _ _ _ rfl (hown.alloc _) ⟨wr.heap.size, 0, none⟩ 1 1 [.int .i64 0] rfl rfl ?c1 ?c2 ?c3 ?c4 ?c5 ?_)
          case c1 => exact one_new _ _ _
          case c2 => intro u hu; simp at hu; subst hu; rfl
          case c3 => unfold maxLen; omega
          case c4 => omega
          case c5 => simp; omega
          · intro v' w1 hown' hgrow _
            have R := hG.step hown' hgrow
            obtain ⟨va, vc, rfl⟩ := own_form hown'
            clear hown' hgrow hown hG
            go_wp2
            go_roundw
            case rel => exact ⟨z + 1, by have := HZ.out; omega, .inr HZ.out, by rw [hstep.out]; exact R⟩
            case measure => simp [lenOf] <;> omega
        · have hln : 80 ≤ (X0 ++ List.replicate z 0).length := by simp; omega
          have hln2 : (X0 ++ List.replicate z 0).length ≤ 800 := by have := HLL.out; simp; omega
          have hln' : ¬ ((X0 ++ List.replicate z 0).length : Int) < 80 := by omega
          have HXf : Hid (M.fits16 (X0 ++ List.replicate z 0)) := M.pad_fits HF.out (by decide) (by decide) z
          have HXe : Hid (∀ i, (X0 ++ List.replicate z 0).getD i 0 = X0.getD i 0) := M.pad_get X0 z
          clear hlt hzz hz HF HLL
          generalize X0 ++ List.replicate z 0 = X at *
          have hrx := hG.reads (fun z hz => wf64 (by have := HXf.out z hz; omega) (by have := HXf.out z hz; omega))
          obtain ⟨bx, ox, rfl, x0, x1, hcx⟩ := hrx.cell (by omega)
          have HX : Hid (∀ i, i < X.length → wr.cell? ⟨bx, ox + i, none⟩ = some (.int .i64 (X.getD i 0))) := hcx
          have hbel := hG.2.1
          have HB : Hid (Below w.heap.size w wr) := hbel
          clear hrx hcx hbel hG
          generalize X.length = LX at *
          go_wp2_with (go_at_call 29; refine (rfilter 8 _ (by omega)).mono ?_; rintro e w2 ⟨bf, of, cf, rfl, f0, f1, hcf, hbel2⟩; have HFil : Hid (∀ i, i < 80 → w2.cell? ⟨bf, of + i, none⟩ = some (.int .i16 (M.fil i (8 : Nat)))) := hcf; have HX2 : Hid (∀ i, i < LX → w2.cell? ⟨bx, ox + i, none⟩ = some (.int .i64 (X.getD i 0))) := (fun i hi => (cell_keep (hbel2.block bx x1)).trans (HX.out i hi)); have HB2 : Hid (Below w.heap.size w w2) := Below.trans HB.out (hbel2.mono (Below.size HB.out)); have hs2 := hbel2.size; clear hcf hbel2 HX HB)
          have bx2 : bx < w2.heap.size := by omega
          have H4 := Gat.nil .i64 2 w2
          obtain ⟨B4, hB4⟩ : ∃ B, w2.heap.size = B := ⟨_, rfl⟩
          rw [hB4] at H4 f1 hs2 bx2
          go_loopw [9, 10] (fun v i wr => ∃ j : Nat, j ≤ 16 ∧ i = .int .i64 j ∧ Gat .i64 2 B4 v ((M.ys 8 X).take j) w2 wr) (fun _ i _ => 16 - (intOf i).toNat)
          case atStart => exact ⟨0, by omega, rfl, by simpa using H4⟩
          case round =>
            clear H4
            obtain ⟨j, hj, rfl, hG⟩ := hrel
            by_cases hjl : j < 16
            · have hjl' : (j : Int) < 16 := by omega
              have hbel := hG.2.1
              have HX3 : Hid (∀ i, i < LX → wr.cell? ⟨bx, ox + i, none⟩ = some (.int .i64 (X.getD i 0))) := fun i hi => (cell_keep (hbel.block bx bx2)).trans (HX2.out i hi)
              have HFil3 : Hid (∀ i, i < 80 → wr.cell? ⟨bf, of + i, none⟩ = some (.int .i16 (M.fil i (8 : Nat)))) := fun i hi => (cell_keep (hbel.block bf f1)).trans (HFil.out i hi)
              clear hbel
              go_wp2
              go_loopw [11, 12] (fun s i w9 => ∃ k : Nat, k ≤ 5 ∧ i = .int .i64 k ∧ s = .int .i64 (M.fo 8 X j k) ∧ ∃ mm, w9 = wr.drewN mm) (fun _ i _ => 5 - (intOf i).toNat)
              case atStart => exact ⟨0, by omega, rfl, rfl, 0, rfl⟩
              case round =>
                obtain ⟨k, hk, rfl, rfl, mm, rfl⟩ := hrel
                by_cases hk5 : k < 5
                · have hk5' : (k : Int) < 5 := by omega
                  obtain ⟨ix, hix⟩ : ∃ ix, ix = j + 2 * 8 * k := ⟨_, rfl⟩
                  have hix' : (j : Int) + 16 * (k : Int) = (ix : Int) := by omega
                  have hb1 : (0 : Int) ≤ ix ∧ (ix : Int) < 80 := by omega
                  have hb2 : (ix : Int) < LX := by omega
                  have q1 := HX3.out ix (by omega)
                  have q2 := HFil3.out ix (by omega)
                  have e0 := M.get_bd HXf.out (by decide) (by decide) ix
                  have e1 := M.fil_bd ix (8 : Nat)
                  have e2 := M.mul_bd (X.getD ix 0) (M.fil ix (8 : Nat)) 32768 32768 (by omega) (by omega) (by omega) (by omega)
                  have d := M.fo_bd (m := 8) HXf.out j k
                  have SS : Hid (M.fo 8 X j (k + 1) = M.fo 8 X j k + M.sgn false k (X.getD ix 0 * M.fil ix (8 : Nat))) := by rw [hix]; exact rfl
                  have d2 : -5368709120 ≤ M.fo 8 X j k ∧ M.fo 8 X j k ≤ 5368709120 := by omega
                  clear d
                  generalize M.fo 8 X j k = cu at *
                  generalize X.getD ix 0 = x0 at *
                  generalize M.fil ix (8 : Nat) = x1 at *
                  rcases Nat.mod_two_eq_zero_or_one k with hp | hp
                  · have ht : (k : Int).tmod 2 = 0 := by rw [tmod2, hp]; rfl
                    have S2 : Hid (cu + -(x0 * x1) = M.fo 8 X j (k + 1)) := by show _ = _; rw [SS.out, (M.sgn_even hp).1]
                    clear SS hp hix
                    go_wp2
                    go_quiet (fail)
                    go_wp2
                    go_roundw
                    case rel => exact ⟨k + 1, by omega, by go_num, by rw [← S2.out], _, rfl⟩
                    case measure => simp [intOf] <;> omega
                  · have ht : (k : Int).tmod 2 = 1 := by rw [tmod2, hp]; rfl
                    have S2 : Hid (cu + x0 * x1 = M.fo 8 X j (k + 1)) := by show _ = _; rw [SS.out, (M.sgn_odd hp).1]
                    clear SS hp hix
                    go_wp2
                    go_quiet (fail)
                    go_wp2
                    go_roundw
                    case rel => exact ⟨k + 1, by omega, by go_num, by rw [← S2.out], _, rfl⟩
                    case measure => simp [intOf] <;> omega
                · obtain rfl : k = 5 := by omega
                  have d := M.fo_bd (m := 8) HXf.out j 5
                  have hG2 := hG.drewN mm
                  have hown := hG2.1
                  have hsz := hG2.size
                  have hln2 : ((M.ys 8 X).take j).length ≤ 32 := by simp; omega
                  have hstep : Hid ((M.ys 8 X).take (j + 1) = (M.ys 8 X).take j ++ [M.sat32 (M.rnd (M.fo 8 X j 5) 14)]) := M.ys_take (by omega)
                  have hsb := M.sat32_bd (M.rnd (M.fo 8 X j 5) 14)
                  have hrr := rround (M.fo 8 X j 5) 14 (wr.drewN mm) (by omega) (by omega)
                  generalize (M.ys 8 X).take j = Y at *
                  generalize M.sat32 (M.rnd (M.fo 8 X j 5) 14) = y at *
                  clear d hG
                  go_wp2_with (first
                    | (go_at_call 30; refine hrr.mono ?_; rintro e w' ⟨rfl, hw⟩; rw [hw]; clear hw w')
                    | (at_builtin; refine wpList_append_own _ rfl (.tmp 91) (.tmp 94) 85 rfl B4 2 i0 (.int .i64 0) 1 8 Tryd.underlying85 hi0 hz0 hz1 hz2 rfl (by decide) _ _ _ rfl (hown.alloc _) ⟨(wr.drewN mm).heap.size, 0, none⟩ 1 1 [.int .i64 y] rfl rfl ?c1 ?c2 ?c3 ?c4 ?c5 ?_))
                  case c1 => exact one_new _ _ _
                  case c2 => intro u hu; simp at hu; subst hu; rfl
                  case c3 => unfold maxLen; omega
                  case c4 => omega
                  case c5 => simp at hsz ⊢; omega
                  · intro v' w1 hown' hgrow _
                    have R := hG2.step hown' hgrow
                    clear hown' hgrow hown hG2
                    go_wp2
                    go_roundw
                    case rel => exact ⟨j + 1, by omega, by go_num, by rw [hstep.out]; exact R⟩
                    case measure => simp [intOf] <;> omega
            · obtain rfl : j = 16 := by omega
              rw [show ((16 : Nat) : Int) = 16 from rfl]
              have hry := hG.reads (fun z hz => wf64 (by have := M.ys_fits 8 X z (List.mem_of_mem_take hz); omega) (by have := M.ys_fits 8 X z (List.mem_of_mem_take hz); omega))
              rw [List.take_of_length_le (by rw [M.ys_length]; omega)] at hry
              obtain ⟨ya, yc, rfl⟩ := hry.form
              obtain ⟨by_, oy, rfl, y0, y1, hcy⟩ := hry.cell (by rw [M.ys_length]; omega)
              rw [M.ys_length, show 2 * 8 = 16 from rfl] at hcy ⊢
              have HY : Hid (∀ i, i < 16 → wr.cell? ⟨by_, oy + i, none⟩ = some (.int .i64 ((M.ys 8 X).getD i 0))) := hcy
              have HB3 : Hid (Below w.heap.size w wr) := Below.trans HB2.out (hG.2.1.mono (by rw [← hB4]; exact Below.size HB2.out))
              have HYf : Hid (M.fits32 (M.ys 8 X)) := M.ys_fits 8 X
              clear hcy hry hG HFil HX2 HB2
              go_wp2
              have H6 := Gat.nil .i32 21 wr
              obtain ⟨B6, hB6⟩ : ∃ B, wr.heap.size = B := ⟨_, rfl⟩
              obtain ⟨w6, hw6⟩ : ∃ w6, w6 = wr := ⟨_, rfl⟩
              rw [hB6] at H6 y1
              rw [← hw6] at HB3 HY
              have H6' : Gat .i32 21 B6 (.slice none 0 0) [] w6 wr := by rw [hw6]; exact H6
              have hB6' : w6.heap.size = B6 := by rw [hw6]; exact hB6
              have HB6 : Hid (w6.heap.size = B6) := hB6'
              clear hB6' hw6 hB6 H6
              go_loopw [15, 16] (fun v i wr => ∃ j : Nat, j ≤ 8 ∧ i = .int .i64 j ∧ Gat .i32 21 B6 v ((M.spl 8 X).take j) w6 wr) (fun _ i _ => 8 - (intOf i).toNat)
              case atStart => exact ⟨0, by omega, rfl, by simpa using H6'⟩
              case round =>
                clear H6'
                obtain ⟨i, hi, rfl, hG⟩ := hrel
                by_cases hil : i < 8
                · have hil' : (i : Int) < 8 := by omega
                  have hbel := hG.2.1
                  have HY3 : Hid (∀ i, i < 16 → wr.cell? ⟨by_, oy + i, none⟩ = some (.int .i64 ((M.ys 8 X).getD i 0))) := fun i hi => (cell_keep (hbel.block by_ y1)).trans (HY.out i hi)
                  clear hbel
                  go_wp2
                  go_loopw [17, 18] (fun s i9 w9 => ∃ k : Nat, k ≤ 16 ∧ i9 = .int .i64 k ∧ s = .int .i64 (Dot.dotTo (M.ys 8 X) (M.ws 8 i) k) ∧ ∃ mm, w9 = wr.drewN mm) (fun _ i _ => 16 - (intOf i).toNat)
                  case atStart => exact ⟨0, by omega, rfl, rfl, 0, rfl⟩
                  case round =>
                    obtain ⟨k, hk, rfl, rfl, mm, rfl⟩ := hrel
                    have hd := Dot.dotTo_bd (fit32.2 HYf.out) (fit16.2 (M.ws_fits (m := 8) (by omega) i)) k
                    have d2 : -1125899906842624 ≤ Dot.dotTo (M.ys 8 X) (M.ws 8 i) k ∧ Dot.dotTo (M.ys 8 X) (M.ws 8 i) k ≤ 1125899906842624 := by omega
                    by_cases hk8 : k < 16
                    · have hk8' : (k : Int) < 16 := by omega
                      have q1 := HY3.out k hk8
                      have e0 := M.get_bd HYf.out (by decide) (by decide) k
                      have e1 := M.wv_bd (m := ((8 : Nat) : Int)) (a := 2 * (i : Int) + 1) (b := 2 * (k : Int) - 8) (by decide)
                      have hwv := rwave (2 * (i : Int) + 1) (2 * (k : Int) - 8) 8
                      have e2 := M.mul_bd ((M.ys 8 X).getD k 0) (M.wv ((8 : Nat) : Int) (2 * (i : Int) + 1) (2 * (k : Int) - 8)) 2147483648 32768 (by omega) (by omega) (by omega) (by omega)
                      have SS : Hid (Dot.dotTo (M.ys 8 X) (M.ws 8 i) k + (M.ys 8 X).getD k 0 * M.wv ((8 : Nat) : Int) (2 * (i : Int) + 1) (2 * (k : Int) - 8) = Dot.dotTo (M.ys 8 X) (M.ws 8 i) (k + 1)) := by
                        show _ = Dot.dotTo _ _ k + _ * _
                        rw [M.ws_get (by omega)]
                        rfl
                      have HW : Hid (∀ wx, Calls Tryd.prog 31 #[.int .i64 (2 * (i : Int) + 1), .int .i64 (2 * (k : Int) - 8), .int .i64 8] wx fun e w' => e = .returned (.int .i64 (M.wv ((8 : Nat) : Int) (2 * (i : Int) + 1) (2 * (k : Int) - 8))) ∧ w' = wx) :=
                        fun wx => hwv wx (by omega) (by omega) (by omega) (by omega) (by omega)
                      generalize Dot.dotTo (M.ys 8 X) (M.ws 8 i) k = cu at *
                      generalize (M.ys 8 X).getD k 0 = x0 at *
                      generalize M.wv ((8 : Nat) : Int) (2 * (i : Int) + 1) (2 * (k : Int) - 8) = x1 at *
                      clear hd hwv
                      go_wp2
                      go_quiet (first | (go_at_call 31; exact (HW.out _).mono fun e w' h => ⟨h.1, _, h.2⟩))
                      go_wp2
                      go_roundw
                      case rel => exact ⟨k + 1, by omega, by go_num, by rw [← SS.out], _, rfl⟩
                      case measure => simp [intOf] <;> omega
                    · obtain rfl : k = 16 := by omega
                      have hG2 := hG.drewN mm
                      have hown := hG2.1
                      have hsz := hG2.size
                      have hln2 : ((M.spl 8 X).take i).length ≤ 32 := by simp; omega
                      have hstep : Hid ((M.spl 8 X).take (i + 1) = (M.spl 8 X).take i ++ [M.sat32 (M.rnd (Dot.dotTo (M.ys 8 X) (M.ws 8 i) 16) 18)]) := M.spl_take (by omega)
                      have hsb := M.sat32_bd (M.rnd (Dot.dotTo (M.ys 8 X) (M.ws 8 i) 16) 18)
                      have hrr := rround (Dot.dotTo (M.ys 8 X) (M.ws 8 i) 16) 18 (wr.drewN mm) (by omega) (by omega)
                      generalize (M.spl 8 X).take i = Y at *
                      generalize M.sat32 (M.rnd (Dot.dotTo (M.ys 8 X) (M.ws 8 i) 16) 18) = y at *
                      have hwy : IntKind.i32.wrap y = y := by
                        simp only [IntKind.wrap, IntKind.bits, IntKind.signed]
                        first | omega | (simp; omega)
                      clear hd hG
                      go_wp2_with (first
                        | (go_at_call 30; refine hrr.mono ?_; rintro e w' ⟨rfl, hw⟩; rw [hw]; clear hw w')
                        | (at_builtin; refine wpList_append_own _ rfl (.tmp 125) (.tmp 130) 33 rfl B6 21 j0 (.int .i32 0) 1 4 Tryd.underlying33 hj0 hy0 hy1 hy2 rfl (by decide) _ _ _ rfl (hown.alloc _) ⟨(wr.drewN mm).heap.size, 0, none⟩ 1 1 [.int .i32 y] rfl rfl ?c1 ?c2 ?c3 ?c4 ?c5 ?_))
                      case c1 => exact one_new _ _ _
                      case c2 => intro u hu; simp at hu; subst hu; rfl
                      case c3 => unfold maxLen; omega
                      case c4 => omega
                      case c5 => simp at hsz ⊢; omega
                      · intro v' w1 hown' hgrow _
                        have R := hG2.step hown' hgrow
                        clear hown' hgrow hown hG2
                        go_wp2
                        go_roundw
                        case rel => exact ⟨i + 1, by omega, by go_num, by rw [hstep.out]; exact R⟩
                        case measure => simp [intOf] <;> omega
                · obtain rfl : i = 8 := by omega
                  have hrd := hG.reads (fun z hz => wf32.2 (M.spl_fits 8 X z (List.mem_of_mem_take hz)))
                  rw [List.take_of_length_le (by rw [M.spl_length]; omega), M.spl_congr (fun i _ => HXe.out i)] at hrd
                  have hsB := Below.size HB3.out
                  have hfin : Below w.heap.size w wr := Below.trans HB3.out (hG.2.1.mono (by rw [← HB6.out]; exact hsB))
                  have HRD : Hid (Reads _ _ _ _ _ _) := hrd.mono (by rw [← HB6.out]; exact hsB) (Nat.le_refl _)
                  have HFN : Hid (Below w.heap.size w wr) := hfin
                  clear hrd hfin hG
                  go_wp2
                  go_ret
                  exact ⟨_, rfl, by rw [HX0.out]; exact HRD.out, HFN.out⟩

end Poly
end Go.Proofs.YtkmkackifihhjaaDoor
