import Derived.Deep.CutBlock
import Derived.Deep.DeepCutAuto
import Derived.Test.YtcaifpjbjghhaaaGreatDoorSubP32
/-
  The document's answer for a joiner. Conditions: as told at each.
-/
namespace Go.Proofs.YtcaifpjbjghhaaaGreatDoor
set_option linter.unusedVariables false
open Go.RowKit
namespace M
def allvK (m : Nat) (zss : List (List Int)) (k : Nat) : List Int := ((zss.reverse.take k).map (vs m)).flatten
def allv (m : Nat) (zss : List (List Int)) : List Int := (zss.reverse.map (vs m)).flatten
theorem allvK_all (m : Nat) (zss : List (List Int)) : allvK m zss zss.length = allv m zss := by unfold allvK allv; rw [List.take_of_length_le (by simp)]
theorem allvK_step {m : Nat} {zss : List (List Int)} {k : Nat} (h : k < zss.length) : allvK m zss (k + 1) = allvK m zss k ++ vs m (zss.getD (zss.length - 1 - k) []) := by
  unfold allvK
  rw [List.take_add_one, List.map_append, List.flatten_append]
  congr 1
  rw [List.getElem?_reverse h]
  simp [List.getD, show zss.length - 1 - k < zss.length from by omega]
theorem allv_snoc (m : Nat) (zss : List (List Int)) (b : List Int) : allv m (zss ++ [b]) = vs m b ++ allv m zss := by simp [allv]
theorem allvK_length {m : Nat} {zss : List (List Int)} {k : Nat} (hk : k ≤ zss.length) : (allvK m zss k).length = k * (2 * m) := by
  induction k with
  | zero => simp [allvK]
  | succ k ih =>
    rw [allvK_step (by omega), List.length_append, ih (by omega), vs_length, Nat.add_mul, Nat.one_mul]
theorem allvK_get {m : Nat} {zss : List (List Int)} {k i : Nat} (h : i < (allvK m zss k).length) : (allv m zss).getD i 0 = (allvK m zss k).getD i 0 := by
  have e : allv m zss = allvK m zss k ++ ((zss.reverse.drop k).map (vs m)).flatten := by
    unfold allv allvK
    rw [← List.flatten_append, ← List.map_append, List.take_append_drop]
  rw [e]
  simp only [List.getD]
  rw [List.getElem?_append_left h]
theorem allvK_fits (m : Nat) (zss : List (List Int)) (k : Nat) : fits32 (allvK m zss k) := by
  intro z hz
  obtain ⟨r, hr, hz⟩ := List.mem_flatten.1 hz
  obtain ⟨q, _, rfl⟩ := List.mem_map.1 hr
  exact vs_fits m q z hz
end M
namespace Poly
open Bank (Blk But)

set_option maxRecDepth 100000 in
set_option maxHeartbeats 4000000 in
theorem join_4 (lo hi : Nat) (zss : List (List Int)) (vb : Value) (w : World) (hR : Rows .i32 lo hi w vb zss) (h1 : hi ≤ w.heap.size) (hr : ∀ i, i < zss.length → (zss.getD i []).length = 4) (hn : zss.length ≤ 100) :
    Calls Tryz.prog 94 #[vb, .int .i64 4] w fun e w' => ∃ v, e = .returned v ∧ Reads .i16 w.heap.size w'.heap.size w' v (M.jn 4 (M.allv 4 zss)) ∧ Below w.heap.size w w' := by
  obtain ⟨i0, hi0, hz0, hz1, hz2⟩ := info_parts info64
  obtain ⟨j0, hj0, hy0, hy1, hy2⟩ := info_parts info16
  obtain ⟨a, c, rfl, hc⟩ := hR.form
  have HR : Hid (Rows .i32 lo hi w (.slice a zss.length c) zss) := hR
  obtain ⟨n, hlen⟩ : ∃ n, zss.length = n := ⟨_, rfl⟩
  have HL : Hid (zss.length = n) := hlen
  have HM : Hid (∀ i, i < zss.length → (zss.getD i []).length = 4) := hr
  have hn' : (n : Int) ≤ 100 := by omega
  rw [hlen] at hc ⊢
  have hc' : (n : Int) ≤ c := by omega
  clear hR hlen hr
  go_enter Tryz.func94, Tryz.ntmps94
  go_upto_block 0 with fail
  go_cut [5] (fun v wx => ∃ X : List Int, X.length ≤ 80 ∧ (∀ i, i < 80 → X.getD i 0 = (M.allv 4 zss).getD i 0) ∧ M.fits32 X ∧ Gat .i64 2 w.heap.size v X w wx)
  case first =>
    go_wp2_with fail
    go_loopw [5, 6] (fun v i wr => ∃ (k : Nat) (i' : Int), k ≤ n ∧ k ≤ 10 ∧ i = .int .i64 i' ∧ i' = n - 1 - k ∧ Gat .i64 2 w.heap.size v (M.allvK 4 zss k) w wr) (fun _ i _ => (intOf i + 1).toNat)
    case atStart => exact ⟨0, n - 1, by omega, by omega, rfl, by omega, Gat.nil _ _ _⟩
    case round =>
      obtain ⟨k, i', hk, hk10, rfl, hi', hG⟩ := hrel
      have hll := M.allvK_length (m := 4) (zss := zss) (k := k) (by rw [HL.out]; omega)
      obtain ⟨va, vc, rfl⟩ := hG.form
      by_cases hlt : k < n
      · obtain ⟨r, rfl⟩ : ∃ r : Nat, i' = r := ⟨i'.toNat, by omega⟩
        by_cases hlt10 : k < 10
        · have hrn : r < n := by omega
          have hrn' : (r : Int) < n := by omega
          obtain ⟨b, off, rfl, q0, q1, hcell⟩ := Rows.cell HR.out (by rw [HL.out]; omega)
          obtain ⟨u, hu, hru⟩ := hcell r (by rw [HL.out]; omega)
          have hlu := HM.out r (by rw [HL.out]; omega)
          obtain ⟨au, cu, rfl⟩ := hru.form
          obtain ⟨bu, ou, rfl, p0, p1, hcu⟩ := hru.cell (by omega)
          rw [hlu] at hu hcu
          have hfu : M.fits32 (zss.getD r []) := by obtain ⟨_, _, _, _, hw, _⟩ := hru; exact fit32.1 hw
          have HU : Hid (∀ i, i < 4 → w.cell? ⟨bu, ou + i, none⟩ = some (.int .i32 ((zss.getD r []).getD i 0))) := hcu
          have HFu : Hid (M.fits32 (zss.getD r [])) := hfu
          have hst := M.allvK_step (m := 4) (zss := zss) (k := k) (by rw [HL.out]; omega)
          rw [HL.out, show n - 1 - k = r from by omega] at hst
          have HST : Hid (M.allvK 4 zss (k + 1) = M.allvK 4 zss k ++ M.vs 4 (zss.getD r [])) := hst
          have hl80 : (M.allvK 4 zss k).length < 80 := by omega
          have hl80' : ((M.allvK 4 zss k).length : Int) < 80 := by omega
          generalize M.allvK 4 zss k = X0 at *
          generalize zss.getD r [] = row at *
          have HRow : Hid (row.length = 4) := hlu
          have HI : Hid ((r : Int) = n - 1 - k) := hi'
          clear hcell hru hcu hfu hst hlu hi' hll
          go_wp2_with fail
          go_loopw [5, 7] (fun v i wr => ∃ q : Nat, q ≤ 8 ∧ i = .int .i64 q ∧ Gat .i64 2 w.heap.size v (X0 ++ (M.vs 4 row).take q) w wr) (fun _ i _ => 8 - (intOf i).toNat)
          case atStart => exact ⟨0, by omega, rfl, by simpa using hG⟩
          case round =>
            clear hG
            obtain ⟨q, hq, rfl, hG⟩ := hrel
            by_cases hlt2 : q < 8
            · have hlt2' : (q : Int) < 8 := by omega
              have hbel := hG.2.1
              have e1 : wr.cell? ⟨b, off + r, none⟩ = some (.slice (some ⟨bu, ou, none⟩) 4 cu) := (cell_keep (hbel.block b (by omega))).trans hu
              have HU2 : Hid (∀ i, i < 4 → wr.cell? ⟨bu, ou + i, none⟩ = some (.int .i32 (row.getD i 0))) := fun i hi => (cell_keep (hbel.block bu (by omega))).trans (HU.out i hi)
              clear hbel
              go_wp2_with fail
              go_loopw [8, 9] (fun s i w9 => ∃ p : Nat, p ≤ 4 ∧ i = .int .i64 p ∧ s = .int .i64 (Dot.dotTo row (M.wj 4 q) p) ∧ ∃ mm, w9 = wr.drewN mm) (fun _ i _ => 4 - (intOf i).toNat)
              case atStart => exact ⟨0, by omega, rfl, rfl, 0, rfl⟩
              case round =>
                obtain ⟨p, hp, rfl, rfl, mm, rfl⟩ := hrel
                have hd := Dot.dotTo_bd (fit32.2 HFu.out) (fit16.2 (M.wj_fits (m := 4) (by omega) q)) p
                have d2 : -562949953421312 ≤ Dot.dotTo row (M.wj 4 q) p ∧ Dot.dotTo row (M.wj 4 q) p ≤ 562949953421312 := by omega
                by_cases hp4 : p < 4
                · have hp4' : (p : Int) < 4 := by omega
                  have e2 := HU2.out p hp4
                  have e0 := M.get_bd HFu.out (by decide) (by decide) p
                  have e3 := M.wv_bd (m := ((4 : Nat) : Int)) (a := 2 * (p : Int) + 1) (b := 2 * (q : Int) + 4) (by decide)
                  have hwv := rwave (2 * (p : Int) + 1) (2 * (q : Int) + 4) 4
                  have e4 := M.mul_bd (row.getD p 0) (M.wv ((4 : Nat) : Int) (2 * (p : Int) + 1) (2 * (q : Int) + 4)) 2147483648 32768 (by omega) (by omega) (by omega) (by omega)
                  have SS : Hid (Dot.dotTo row (M.wj 4 q) p + row.getD p 0 * M.wv ((4 : Nat) : Int) (2 * (p : Int) + 1) (2 * (q : Int) + 4) = Dot.dotTo row (M.wj 4 q) (p + 1)) := by
                    show _ = Dot.dotTo _ _ p + _ * _
                    rw [M.wj_get (by omega)]
                    rfl
                  have HW : Hid (∀ wx, Calls Tryz.prog 151 #[.int .i64 (2 * (p : Int) + 1), .int .i64 (2 * (q : Int) + 4), .int .i64 4] wx fun e w' => e = .returned (.int .i64 (M.wv ((4 : Nat) : Int) (2 * (p : Int) + 1) (2 * (q : Int) + 4))) ∧ w' = wx) :=
                    fun wx => hwv wx (by omega) (by omega) (by omega) (by omega) (by omega)
                  generalize Dot.dotTo row (M.wj 4 q) p = cu at *
                  generalize row.getD p 0 = x0 at *
                  generalize M.wv ((4 : Nat) : Int) (2 * (p : Int) + 1) (2 * (q : Int) + 4) = x1 at *
                  clear hd hwv
                  go_wp2
                  go_quiet (first | (go_at_call 151; exact (HW.out _).mono fun e w' h => ⟨h.1, _, h.2⟩))
                  go_wp2
                  go_roundw
                  case rel => exact ⟨p + 1, by omega, by go_num, by rw [← SS.out], _, rfl⟩
                  case measure => simp [intOf] <;> omega
                · obtain rfl : p = 4 := by omega
                  have hG2 := hG.drewN mm
                  have hown := hG2.1
                  have hsz := hG2.size
                  have hln : (X0 ++ (M.vs 4 row).take q).length ≤ 400 := by simp [M.vs_length]; omega
                  have hstep : Hid (X0 ++ (M.vs 4 row).take (q + 1) = (X0 ++ (M.vs 4 row).take q) ++ [M.sat32 (M.rnd (Dot.dotTo row (M.wj 4 q) 4) 15)]) := by
                    show _ = _
                    rw [M.vs_take (by omega), List.append_assoc]
                  have hsb := M.sat32_bd (M.rnd (Dot.dotTo row (M.wj 4 q) 4) 15)
                  have hrr := rround (Dot.dotTo row (M.wj 4 q) 4) 15 (wr.drewN mm) (by omega) (by omega)
                  generalize X0 ++ (M.vs 4 row).take q = X at *
                  generalize M.sat32 (M.rnd (Dot.dotTo row (M.wj 4 q) 4) 15) = y at *
                  clear hd hG
                  go_wp2_with (first
                    | (go_at_call 150; refine hrr.mono ?_; rintro e w' ⟨rfl, hw⟩; rw [hw]; clear hw w')
                    | (at_builtin; refine wpList_append_own _ rfl (.tmp 61) (.tmp 64) 249 rfl w.heap.size 2 i0 (.int .i64 0) 1 8 Tryz.underlying249 hi0 hz0 hz1 hz2 rfl (by decide) _ _ _ rfl (hown.alloc _) ⟨(wr.drewN mm).heap.size, 0, none⟩ 1 1 [.int .i64 y] rfl rfl ?c1 ?c2 ?c3 ?c4 ?c5 ?_))
                  case c1 => exact one_new _ _ _
                  case c2 => intro u hu; simp at hu; subst hu; rfl
                  case c3 => unfold maxLen; omega
                  case c4 => omega
                  case c5 => simp at hsz ⊢; omega
                  · intro v' w1 hown' hgrow _
                    have R := hG2.step hown' hgrow
                    clear hown' hgrow hown hG2
                    go_wp2
                    go_roundw
                    case rel => exact ⟨q + 1, by omega, by go_num, by rw [hstep.out]; exact R⟩
                    case measure => simp [intOf] <;> omega
            · obtain rfl : q = 8 := by omega
              have hG2 : Gat .i64 2 w.heap.size u5 (M.allvK 4 zss (k + 1)) w wr := by
                rw [List.take_of_length_le (by rw [M.vs_length]; omega)] at hG
                rw [HST.out]; exact hG
              clear hG
              go_wp2
              go_roundw
              case rel => exact ⟨k + 1, (r : Int) - 1, by omega, by omega, by go_num, by have := HI.out; omega, hG2⟩
              case measure => simp [intOf] <;> omega
        · obtain rfl : k = 10 := by omega
          have hl80 : (M.allvK 4 zss 10).length = 80 := by omega
          have hl80' : ¬ ((M.allvK 4 zss 10).length : Int) < 80 := by omega
          have HE : Hid (∀ i, i < 80 → (M.allvK 4 zss 10).getD i 0 = (M.allv 4 zss).getD i 0) := fun i hi => (M.allvK_get (by omega)).symm
          have HFa : Hid (M.fits32 (M.allvK 4 zss 10)) := M.allvK_fits 4 zss 10
          have HG : Hid (Gat .i64 2 w.heap.size (.slice va (M.allvK 4 zss 10).length vc) (M.allvK 4 zss 10) w wr) := hG
          clear hi' hll hG
          generalize M.allvK 4 zss 10 = X at *
          go_wp2
          go_meet
          exact ⟨X, by omega, HE.out, HFa.out, by have h := HG.out; rw [hl80] at h; exact h⟩
      · obtain rfl : k = n := by omega
        obtain rfl : i' = -1 := by omega
        have HE : Hid (∀ i, i < 80 → (M.allvK 4 zss k).getD i 0 = (M.allv 4 zss).getD i 0) := fun i hi => by rw [← HL.out, M.allvK_all]
        have HFa : Hid (M.fits32 (M.allvK 4 zss k)) := M.allvK_fits 4 zss k
        have HG : Hid (Gat .i64 2 w.heap.size (.slice va (M.allvK 4 zss k).length vc) (M.allvK 4 zss k) w wr) := hG
        have hl80 : (M.allvK 4 zss k).length ≤ 80 := by omega
        clear hi' hll hG
        generalize M.allvK 4 zss k = X at *
        go_wp2
        go_meet
        exact ⟨X, hl80, HE.out, HFa.out, HG.out⟩
  case rest =>
    obtain ⟨X0, hl80, hXe, hXf, hG1⟩ := hcut
    have HXe0 : Hid (∀ i, i < 80 → X0.getD i 0 = (M.allv 4 zss).getD i 0) := hXe
    have HXf0 : Hid (M.fits32 X0) := hXf
    clear hXe hXf HR HM HL hn' hc hc' hn h1
    go_wp2
    go_loopw [5] (fun v wr => ∃ z : Nat, X0.length + z ≤ 80 ∧ Gat .i64 2 w.heap.size v (X0 ++ List.replicate z 0) w wr) (fun v _ => 1000 - lenOf v)
    case atStart => exact ⟨0, by omega, by simpa using hG1⟩
    case round =>
      clear hG1
      obtain ⟨z, hz, hG⟩ := hrel
      obtain ⟨xa, xc, rfl⟩ := hG.form
      by_cases hlt : X0.length + z < 80
      · have hown := hG.1
        have hsz := hG.size
        have hln : (X0 ++ List.replicate z 0).length < 80 := by simpa using hlt
        have hln' : ((X0 ++ List.replicate z 0).length : Int) < 80 := by omega
        have hstep : Hid (X0 ++ List.replicate (z + 1) 0 = (X0 ++ List.replicate z 0) ++ [0]) := M.pad_step _ _
        have HZ : Hid (X0.length + (z + 1) ≤ 80) := by show _ ≤ 80; omega
        clear hlt hz
        generalize X0 ++ List.replicate z 0 = X at *
        go_wp2_with (at_builtin; refine wpList_append_own _ rfl (.tmp 71) (.tmp 72) 249 rfl w.heap.size 2 i0 (.int .i64 0) 1 8 Tryz.underlying249 hi0 hz0 hz1 hz2 rfl (by decide) _ _ _ rfl (hown.alloc _) ⟨wr.heap.size, 0, none⟩ 1 1 [.int .i64 0] rfl rfl ?c1 ?c2 ?c3 ?c4 ?c5 ?_)
        case c1 => exact one_new _ _ _
        case c2 => intro u hu; simp at hu; subst hu; rfl
        case c3 => unfold maxLen; omega
        case c4 => omega
        case c5 => simp; omega
        · intro v' w1 hown' hgrow _
          have R := hG.step hown' hgrow
          obtain ⟨va, vc, rfl⟩ := own_form hown'
          clear hown' hgrow hown hG
          go_wp2
          go_roundw
          case rel => exact ⟨z + 1, HZ.out, by rw [hstep.out]; exact R⟩
          case measure => simp [lenOf] <;> omega
      · have hln : (X0 ++ List.replicate z 0).length = 80 := by simp; omega
        have HXf : Hid (M.fits32 (X0 ++ List.replicate z 0)) := M.pad_fits HXf0.out (by decide) (by decide) z
        have HXe : Hid (∀ i, i < 80 → (X0 ++ List.replicate z 0).getD i 0 = (M.allv 4 zss).getD i 0) := fun i hi => (M.pad_get X0 z i).trans (HXe0.out i hi)
        clear hlt hz HXf0 HXe0
        generalize X0 ++ List.replicate z 0 = X at *
        have hrx := hG.reads (fun z hz => wf64 (by have := HXf.out z hz; omega) (by have := HXf.out z hz; omega))
        obtain ⟨bx, ox, rfl, x0, x1, hcx⟩ := hrx.cell (by omega)
        rw [hln] at hcx ⊢
        have HX : Hid (∀ i, i < 80 → wr.cell? ⟨bx, ox + i, none⟩ = some (.int .i64 (X.getD i 0))) := hcx
        have hbel := hG.2.1
        have HB : Hid (Below w.heap.size w wr) := hbel
        clear hrx hcx hbel hG hln hl80
        go_wp2_with (go_at_call 149; refine (rfilter 4 _ (by omega)).mono ?_; rintro e w2 ⟨bf, of, cf, rfl, f0, f1, hcf, hbel2⟩; have HFil : Hid (∀ i, i < 40 → w2.cell? ⟨bf, of + i, none⟩ = some (.int .i16 (M.fil i (4 : Nat)))) := hcf; have HX2 : Hid (∀ i, i < 80 → w2.cell? ⟨bx, ox + i, none⟩ = some (.int .i64 (X.getD i 0))) := (fun i hi => (cell_keep (hbel2.block bx x1)).trans (HX.out i hi)); have HB2 : Hid (Below w.heap.size w w2) := Below.trans HB.out (hbel2.mono (Below.size HB.out)); have hs2 := hbel2.size; clear hcf hbel2 HX HB)
        have bx2 : bx < w2.heap.size := by omega
        have H4 := Gat.nil .i16 182 w2
        obtain ⟨B4, hB4⟩ : ∃ B, w2.heap.size = B := ⟨_, rfl⟩
        rw [hB4] at H4 f1 hs2 bx2
        have HB4 : Hid (w2.heap.size = B4) := hB4
        clear hB4
        go_loopw [11, 12] (fun v i wr => ∃ j : Nat, j ≤ 4 ∧ i = .int .i64 j ∧ Gat .i16 182 B4 v ((M.jn 4 X).take j) w2 wr) (fun _ i _ => 4 - (intOf i).toNat)
        case atStart => exact ⟨0, by omega, rfl, by simpa using H4⟩
        case round =>
          clear H4
          obtain ⟨j, hj, rfl, hG⟩ := hrel
          by_cases hjl : j < 4
          · have hjl' : (j : Int) < 4 := by omega
            have hbel := hG.2.1
            have HX3 : Hid (∀ i, i < 80 → wr.cell? ⟨bx, ox + i, none⟩ = some (.int .i64 (X.getD i 0))) := fun i hi => (cell_keep (hbel.block bx bx2)).trans (HX2.out i hi)
            have HFil3 : Hid (∀ i, i < 40 → wr.cell? ⟨bf, of + i, none⟩ = some (.int .i16 (M.fil i (4 : Nat)))) := fun i hi => (cell_keep (hbel.block bf f1)).trans (HFil.out i hi)
            clear hbel
            go_wp2
            go_loopw [13, 14] (fun s i w9 => ∃ k : Nat, k ≤ 5 ∧ i = .int .i64 k ∧ s = .int .i64 (M.fj 4 X j k) ∧ ∃ mm, w9 = wr.drewN mm) (fun _ i _ => 5 - (intOf i).toNat)
            case atStart => exact ⟨0, by omega, rfl, rfl, 0, rfl⟩
            case round =>
              obtain ⟨k, hk, rfl, rfl, mm, rfl⟩ := hrel
              by_cases hk5 : k < 5
              · have hk5' : (k : Int) < 5 := by omega
                obtain ⟨iv, hiv⟩ : ∃ iv, iv = 4 * 4 * k + j := ⟨_, rfl⟩
                obtain ⟨ih, hih⟩ : ∃ ih, ih = 2 * 4 * k + j := ⟨_, rfl⟩
                obtain ⟨iu, hiu⟩ : ∃ iu, iu = 4 * 4 * k + 3 * 4 + j := ⟨_, rfl⟩
                obtain ⟨ig, hig⟩ : ∃ ig, ig = 2 * 4 * k + 4 + j := ⟨_, rfl⟩
                have hiv' : 16 * (k : Int) + (j : Int) = (iv : Int) := by omega
                have hih' : 8 * (k : Int) + (j : Int) = (ih : Int) := by omega
                have hiu' : 16 * (k : Int) + 12 + (j : Int) = (iu : Int) := by omega
                have hig' : 8 * (k : Int) + 4 + (j : Int) = (ig : Int) := by omega
                have b1 : (0 : Int) ≤ iv ∧ (iv : Int) < 80 := by omega
                have b2 : (0 : Int) ≤ ih ∧ (ih : Int) < 40 := by omega
                have b3 : (0 : Int) ≤ iu ∧ (iu : Int) < 80 := by omega
                have b4 : (0 : Int) ≤ ig ∧ (ig : Int) < 40 := by omega
                have q1 := HX3.out iv (by omega)
                have q3 := HX3.out iu (by omega)
                have q2 := HFil3.out ih (by omega)
                have q4 := HFil3.out ig (by omega)
                have e0 := M.get_bd HXf.out (by decide) (by decide) iv
                have e3 := M.get_bd HXf.out (by decide) (by decide) iu
                have e1 := M.fil_bd ih (4 : Nat)
                have e4 := M.fil_bd ig (4 : Nat)
                have e2 := M.mul_bd (X.getD iv 0) (M.fil ih (4 : Nat)) 2147483648 32768 (by omega) (by omega) (by omega) (by omega)
                have e5 := M.mul_bd (X.getD iu 0) (M.fil ig (4 : Nat)) 2147483648 32768 (by omega) (by omega) (by omega) (by omega)
                have d := M.fj_bd (m := 4) HXf.out j k
                have SS : Hid (M.fj 4 X j (k + 1) = M.fj 4 X j k + M.sgn true k (X.getD iv 0 * M.fil ih (4 : Nat) + X.getD iu 0 * M.fil ig (4 : Nat))) := by rw [hiv, hih, hiu, hig]; exact rfl
                have d2 : -703687441776640 ≤ M.fj 4 X j k ∧ M.fj 4 X j k ≤ 703687441776640 := by omega
                clear d
                generalize M.fj 4 X j k = cu at *
                generalize X.getD iv 0 = x0 at *
                generalize X.getD iu 0 = x2 at *
                generalize M.fil ih (4 : Nat) = x1 at *
                generalize M.fil ig (4 : Nat) = x3 at *
                rcases Nat.mod_two_eq_zero_or_one k with hp | hp
                · have ht : (k : Int).tmod 2 = 0 := by rw [tmod2, hp]; rfl
                  have S2 : Hid (cu + (x0 * x1 + x2 * x3) = M.fj 4 X j (k + 1)) := by show _ = _; rw [SS.out, (M.sgn_even hp).2]
                  clear SS hp hiv hih hiu hig
                  go_wp2
                  go_quiet (fail)
                  go_wp2
                  go_roundw
                  case rel => exact ⟨k + 1, by omega, by go_num, by rw [← S2.out], _, rfl⟩
                  case measure => simp [intOf] <;> omega
                · have ht : (k : Int).tmod 2 = 1 := by rw [tmod2, hp]; rfl
                  have S2 : Hid (cu + -(x0 * x1 + x2 * x3) = M.fj 4 X j (k + 1)) := by show _ = _; rw [SS.out, (M.sgn_odd hp).2]
                  clear SS hp hiv hih hiu hig
                  go_wp2
                  go_quiet (fail)
                  go_wp2
                  go_roundw
                  case rel => exact ⟨k + 1, by omega, by go_num, by rw [← S2.out], _, rfl⟩
                  case measure => simp [intOf] <;> omega
              · obtain rfl : k = 5 := by omega
                have d := M.fj_bd (m := 4) HXf.out j 5
                have hG2 := hG.drewN mm
                have hown := hG2.1
                have hsz := hG2.size
                have hln2 : ((M.jn 4 X).take j).length ≤ 16 := by simp; omega
                have hstep : Hid ((M.jn 4 X).take (j + 1) = (M.jn 4 X).take j ++ [M.sat16 (M.rnd (M.fj 4 X j 5) 14)]) := M.jn_take (by omega)
                have hsb := M.sat16_bd (M.rnd (M.fj 4 X j 5) 14)
                have hrb := M.rnd_bd (M.fj 4 X j 5) 14 (by omega) (by omega)
                have hrr := Ref.Round_any (M.fj 4 X j 5) 14 (wr.drewN mm) (by omega) (by omega)
                have hss := rsat16 (M.rnd (M.fj 4 X j 5) 14) (wr.drewN mm) (by omega) (by omega)
                generalize (M.jn 4 X).take j = Y at *
                generalize M.sat16 (M.rnd (M.fj 4 X j 5) 14) = y at *
                generalize M.rnd (M.fj 4 X j 5) 14 = yr at *
                have hwy : IntKind.i16.wrap y = y := by
                  simp only [IntKind.wrap, IntKind.bits, IntKind.signed]
                  first | omega | (simp; omega)
                clear d hG
                go_wp2_with (first
                  | (go_at_call 154; refine hrr.mono ?_; rintro e w' ⟨rfl, hw⟩; rw [hw]; clear hw w')
                  | (go_at_call 127; refine hss.mono ?_; rintro e w' ⟨rfl, hw⟩; rw [hw]; clear hw w')
                  | (at_builtin; refine wpList_append_own _ rfl (.tmp 139) (.tmp 144) 55 rfl B4 182 j0 (.int .i16 0) 1 2 Tryz.underlying55 hj0 hy0 hy1 hy2 rfl (by decide) _ _ _ rfl (hown.alloc _) ⟨(wr.drewN mm).heap.size, 0, none⟩ 1 1 [.int .i16 y] rfl rfl ?c1 ?c2 ?c3 ?c4 ?c5 ?_))
                case c1 => exact one_new _ _ _
                case c2 => intro u hu; simp at hu; subst hu; rfl
                case c3 => unfold maxLen; omega
                case c4 => omega
                case c5 => simp at hsz ⊢; omega
                · intro v' w1 hown' hgrow _
                  have R := hG2.step hown' hgrow
                  clear hown' hgrow hown hG2
                  go_wp2
                  go_roundw
                  case rel => exact ⟨j + 1, by omega, by go_num, by rw [hstep.out]; exact R⟩
                  case measure => simp [intOf] <;> omega
          · obtain rfl : j = 4 := by omega
            have hrd := hG.reads (fun z hz => wf16.2 (M.jn_fits 4 X z (List.mem_of_mem_take hz)))
            rw [List.take_of_length_le (by rw [M.jn_length]; omega), M.jn_congr (fun i hi => HXe.out i (by omega))] at hrd
            have hsB := Below.size HB2.out
            have hfin : Below w.heap.size w wr := Below.trans HB2.out (hG.2.1.mono (by rw [← HB4.out]; exact hsB))
            have HRD : Hid (Reads .i16 w.heap.size wr.heap.size wr u11 (M.jn 4 (M.allv 4 zss))) := hrd.mono (by rw [← HB4.out]; exact hsB) (Nat.le_refl _)
            have HFN : Hid (Below w.heap.size w wr) := hfin
            clear hrd hfin hG
            go_wp2
            go_ret
            exact ⟨_, rfl, HRD.out, HFN.out⟩

set_option maxRecDepth 100000 in
set_option maxHeartbeats 4000000 in
theorem join_8 (lo hi : Nat) (zss : List (List Int)) (vb : Value) (w : World) (hR : Rows .i32 lo hi w vb zss) (h1 : hi ≤ w.heap.size) (hr : ∀ i, i < zss.length → (zss.getD i []).length = 8) (hn : zss.length ≤ 100) :
    Calls Tryz.prog 94 #[vb, .int .i64 8] w fun e w' => ∃ v, e = .returned v ∧ Reads .i16 w.heap.size w'.heap.size w' v (M.jn 8 (M.allv 8 zss)) ∧ Below w.heap.size w w' := by
  obtain ⟨i0, hi0, hz0, hz1, hz2⟩ := info_parts info64
  obtain ⟨j0, hj0, hy0, hy1, hy2⟩ := info_parts info16
  obtain ⟨a, c, rfl, hc⟩ := hR.form
  have HR : Hid (Rows .i32 lo hi w (.slice a zss.length c) zss) := hR
  obtain ⟨n, hlen⟩ : ∃ n, zss.length = n := ⟨_, rfl⟩
  have HL : Hid (zss.length = n) := hlen
  have HM : Hid (∀ i, i < zss.length → (zss.getD i []).length = 8) := hr
  have hn' : (n : Int) ≤ 100 := by omega
  rw [hlen] at hc ⊢
  have hc' : (n : Int) ≤ c := by omega
  clear hR hlen hr
  go_enter Tryz.func94, Tryz.ntmps94
  go_upto_block 0 with fail
  go_cut [5] (fun v wx => ∃ X : List Int, X.length ≤ 160 ∧ (∀ i, i < 160 → X.getD i 0 = (M.allv 8 zss).getD i 0) ∧ M.fits32 X ∧ Gat .i64 2 w.heap.size v X w wx)
  case first =>
    go_wp2_with fail
    go_loopw [5, 6] (fun v i wr => ∃ (k : Nat) (i' : Int), k ≤ n ∧ k ≤ 10 ∧ i = .int .i64 i' ∧ i' = n - 1 - k ∧ Gat .i64 2 w.heap.size v (M.allvK 8 zss k) w wr) (fun _ i _ => (intOf i + 1).toNat)
    case atStart => exact ⟨0, n - 1, by omega, by omega, rfl, by omega, Gat.nil _ _ _⟩
    case round =>
      obtain ⟨k, i', hk, hk10, rfl, hi', hG⟩ := hrel
      have hll := M.allvK_length (m := 8) (zss := zss) (k := k) (by rw [HL.out]; omega)
      obtain ⟨va, vc, rfl⟩ := hG.form
      by_cases hlt : k < n
      · obtain ⟨r, rfl⟩ : ∃ r : Nat, i' = r := ⟨i'.toNat, by omega⟩
        by_cases hlt10 : k < 10
        · have hrn : r < n := by omega
          have hrn' : (r : Int) < n := by omega
          obtain ⟨b, off, rfl, q0, q1, hcell⟩ := Rows.cell HR.out (by rw [HL.out]; omega)
          obtain ⟨u, hu, hru⟩ := hcell r (by rw [HL.out]; omega)
          have hlu := HM.out r (by rw [HL.out]; omega)
          obtain ⟨au, cu, rfl⟩ := hru.form
          obtain ⟨bu, ou, rfl, p0, p1, hcu⟩ := hru.cell (by omega)
          rw [hlu] at hu hcu
          have hfu : M.fits32 (zss.getD r []) := by obtain ⟨_, _, _, _, hw, _⟩ := hru; exact fit32.1 hw
          have HU : Hid (∀ i, i < 8 → w.cell? ⟨bu, ou + i, none⟩ = some (.int .i32 ((zss.getD r []).getD i 0))) := hcu
          have HFu : Hid (M.fits32 (zss.getD r [])) := hfu
          have hst := M.allvK_step (m := 8) (zss := zss) (k := k) (by rw [HL.out]; omega)
          rw [HL.out, show n - 1 - k = r from by omega] at hst
          have HST : Hid (M.allvK 8 zss (k + 1) = M.allvK 8 zss k ++ M.vs 8 (zss.getD r [])) := hst
          have hl80 : (M.allvK 8 zss k).length < 160 := by omega
          have hl80' : ((M.allvK 8 zss k).length : Int) < 160 := by omega
          generalize M.allvK 8 zss k = X0 at *
          generalize zss.getD r [] = row at *
          have HRow : Hid (row.length = 8) := hlu
          have HI : Hid ((r : Int) = n - 1 - k) := hi'
          clear hcell hru hcu hfu hst hlu hi' hll
          go_wp2_with fail
          go_loopw [5, 7] (fun v i wr => ∃ q : Nat, q ≤ 16 ∧ i = .int .i64 q ∧ Gat .i64 2 w.heap.size v (X0 ++ (M.vs 8 row).take q) w wr) (fun _ i _ => 16 - (intOf i).toNat)
          case atStart => exact ⟨0, by omega, rfl, by simpa using hG⟩
          case round =>
            clear hG
            obtain ⟨q, hq, rfl, hG⟩ := hrel
            by_cases hlt2 : q < 16
            · have hlt2' : (q : Int) < 16 := by omega
              have hbel := hG.2.1
              have e1 : wr.cell? ⟨b, off + r, none⟩ = some (.slice (some ⟨bu, ou, none⟩) 8 cu) := (cell_keep (hbel.block b (by omega))).trans hu
              have HU2 : Hid (∀ i, i < 8 → wr.cell? ⟨bu, ou + i, none⟩ = some (.int .i32 (row.getD i 0))) := fun i hi => (cell_keep (hbel.block bu (by omega))).trans (HU.out i hi)
              clear hbel
              go_wp2_with fail
              go_loopw [8, 9] (fun s i w9 => ∃ p : Nat, p ≤ 8 ∧ i = .int .i64 p ∧ s = .int .i64 (Dot.dotTo row (M.wj 8 q) p) ∧ ∃ mm, w9 = wr.drewN mm) (fun _ i _ => 8 - (intOf i).toNat)
              case atStart => exact ⟨0, by omega, rfl, rfl, 0, rfl⟩
              case round =>
                obtain ⟨p, hp, rfl, rfl, mm, rfl⟩ := hrel
                have hd := Dot.dotTo_bd (fit32.2 HFu.out) (fit16.2 (M.wj_fits (m := 8) (by omega) q)) p
                have d2 : -562949953421312 ≤ Dot.dotTo row (M.wj 8 q) p ∧ Dot.dotTo row (M.wj 8 q) p ≤ 562949953421312 := by omega
                by_cases hp4 : p < 8
                · have hp4' : (p : Int) < 8 := by omega
                  have e2 := HU2.out p hp4
                  have e0 := M.get_bd HFu.out (by decide) (by decide) p
                  have e3 := M.wv_bd (m := ((8 : Nat) : Int)) (a := 2 * (p : Int) + 1) (b := 2 * (q : Int) + 8) (by decide)
                  have hwv := rwave (2 * (p : Int) + 1) (2 * (q : Int) + 8) 8
                  have e4 := M.mul_bd (row.getD p 0) (M.wv ((8 : Nat) : Int) (2 * (p : Int) + 1) (2 * (q : Int) + 8)) 2147483648 32768 (by omega) (by omega) (by omega) (by omega)
                  have SS : Hid (Dot.dotTo row (M.wj 8 q) p + row.getD p 0 * M.wv ((8 : Nat) : Int) (2 * (p : Int) + 1) (2 * (q : Int) + 8) = Dot.dotTo row (M.wj 8 q) (p + 1)) := by
                    show _ = Dot.dotTo _ _ p + _ * _
                    rw [M.wj_get (by omega)]
                    rfl
                  have HW : Hid (∀ wx, Calls Tryz.prog 151 #[.int .i64 (2 * (p : Int) + 1), .int .i64 (2 * (q : Int) + 8), .int .i64 8] wx fun e w' => e = .returned (.int .i64 (M.wv ((8 : Nat) : Int) (2 * (p : Int) + 1) (2 * (q : Int) + 8))) ∧ w' = wx) :=
                    fun wx => hwv wx (by omega) (by omega) (by omega) (by omega) (by omega)
                  generalize Dot.dotTo row (M.wj 8 q) p = cu at *
                  generalize row.getD p 0 = x0 at *
                  generalize M.wv ((8 : Nat) : Int) (2 * (p : Int) + 1) (2 * (q : Int) + 8) = x1 at *
                  clear hd hwv
                  go_wp2
                  go_quiet (first | (go_at_call 151; exact (HW.out _).mono fun e w' h => ⟨h.1, _, h.2⟩))
                  go_wp2
                  go_roundw
                  case rel => exact ⟨p + 1, by omega, by go_num, by rw [← SS.out], _, rfl⟩
                  case measure => simp [intOf] <;> omega
                · obtain rfl : p = 8 := by omega
                  have hG2 := hG.drewN mm
                  have hown := hG2.1
                  have hsz := hG2.size
                  have hln : (X0 ++ (M.vs 8 row).take q).length ≤ 800 := by simp [M.vs_length]; omega
                  have hstep : Hid (X0 ++ (M.vs 8 row).take (q + 1) = (X0 ++ (M.vs 8 row).take q) ++ [M.sat32 (M.rnd (Dot.dotTo row (M.wj 8 q) 8) 15)]) := by
                    show _ = _
                    rw [M.vs_take (by omega), List.append_assoc]
                  have hsb := M.sat32_bd (M.rnd (Dot.dotTo row (M.wj 8 q) 8) 15)
                  have hrr := rround (Dot.dotTo row (M.wj 8 q) 8) 15 (wr.drewN mm) (by omega) (by omega)
                  generalize X0 ++ (M.vs 8 row).take q = X at *
                  generalize M.sat32 (M.rnd (Dot.dotTo row (M.wj 8 q) 8) 15) = y at *
                  clear hd hG
                  go_wp2_with (first
                    | (go_at_call 150; refine hrr.mono ?_; rintro e w' ⟨rfl, hw⟩; rw [hw]; clear hw w')
                    | (at_builtin; refine wpList_append_own _ rfl (.tmp 61) (.tmp 64) 249 rfl w.heap.size 2 i0 (.int .i64 0) 1 8 Tryz.underlying249 hi0 hz0 hz1 hz2 rfl (by decide) _ _ _ rfl (hown.alloc _) ⟨(wr.drewN mm).heap.size, 0, none⟩ 1 1 [.int .i64 y] rfl rfl ?c1 ?c2 ?c3 ?c4 ?c5 ?_))
                  case c1 => exact one_new _ _ _
                  case c2 => intro u hu; simp at hu; subst hu; rfl
                  case c3 => unfold maxLen; omega
                  case c4 => omega
                  case c5 => simp at hsz ⊢; omega
                  · intro v' w1 hown' hgrow _
                    have R := hG2.step hown' hgrow
                    clear hown' hgrow hown hG2
                    go_wp2
                    go_roundw
                    case rel => exact ⟨q + 1, by omega, by go_num, by rw [hstep.out]; exact R⟩
                    case measure => simp [intOf] <;> omega
            · obtain rfl : q = 16 := by omega
              have hG2 : Gat .i64 2 w.heap.size u5 (M.allvK 8 zss (k + 1)) w wr := by
                rw [List.take_of_length_le (by rw [M.vs_length]; omega)] at hG
                rw [HST.out]; exact hG
              clear hG
              go_wp2
              go_roundw
              case rel => exact ⟨k + 1, (r : Int) - 1, by omega, by omega, by go_num, by have := HI.out; omega, hG2⟩
              case measure => simp [intOf] <;> omega
        · obtain rfl : k = 10 := by omega
          have hl80 : (M.allvK 8 zss 10).length = 160 := by omega
          have hl80' : ¬ ((M.allvK 8 zss 10).length : Int) < 160 := by omega
          have HE : Hid (∀ i, i < 160 → (M.allvK 8 zss 10).getD i 0 = (M.allv 8 zss).getD i 0) := fun i hi => (M.allvK_get (by omega)).symm
          have HFa : Hid (M.fits32 (M.allvK 8 zss 10)) := M.allvK_fits 8 zss 10
          have HG : Hid (Gat .i64 2 w.heap.size (.slice va (M.allvK 8 zss 10).length vc) (M.allvK 8 zss 10) w wr) := hG
          clear hi' hll hG
          generalize M.allvK 8 zss 10 = X at *
          go_wp2
          go_meet
          exact ⟨X, by omega, HE.out, HFa.out, by have h := HG.out; rw [hl80] at h; exact h⟩
      · obtain rfl : k = n := by omega
        obtain rfl : i' = -1 := by omega
        have HE : Hid (∀ i, i < 160 → (M.allvK 8 zss k).getD i 0 = (M.allv 8 zss).getD i 0) := fun i hi => by rw [← HL.out, M.allvK_all]
        have HFa : Hid (M.fits32 (M.allvK 8 zss k)) := M.allvK_fits 8 zss k
        have HG : Hid (Gat .i64 2 w.heap.size (.slice va (M.allvK 8 zss k).length vc) (M.allvK 8 zss k) w wr) := hG
        have hl80 : (M.allvK 8 zss k).length ≤ 160 := by omega
        clear hi' hll hG
        generalize M.allvK 8 zss k = X at *
        go_wp2
        go_meet
        exact ⟨X, hl80, HE.out, HFa.out, HG.out⟩
  case rest =>
    obtain ⟨X0, hl80, hXe, hXf, hG1⟩ := hcut
    have HXe0 : Hid (∀ i, i < 160 → X0.getD i 0 = (M.allv 8 zss).getD i 0) := hXe
    have HXf0 : Hid (M.fits32 X0) := hXf
    clear hXe hXf HR HM HL hn' hc hc' hn h1
    go_wp2
    go_loopw [5] (fun v wr => ∃ z : Nat, X0.length + z ≤ 160 ∧ Gat .i64 2 w.heap.size v (X0 ++ List.replicate z 0) w wr) (fun v _ => 1000 - lenOf v)
    case atStart => exact ⟨0, by omega, by simpa using hG1⟩
    case round =>
      clear hG1
      obtain ⟨z, hz, hG⟩ := hrel
      obtain ⟨xa, xc, rfl⟩ := hG.form
      by_cases hlt : X0.length + z < 160
      · have hown := hG.1
        have hsz := hG.size
        have hln : (X0 ++ List.replicate z 0).length < 160 := by simpa using hlt
        have hln' : ((X0 ++ List.replicate z 0).length : Int) < 160 := by omega
        have hstep : Hid (X0 ++ List.replicate (z + 1) 0 = (X0 ++ List.replicate z 0) ++ [0]) := M.pad_step _ _
        have HZ : Hid (X0.length + (z + 1) ≤ 160) := by show _ ≤ 160; omega
        clear hlt hz
        generalize X0 ++ List.replicate z 0 = X at *
        go_wp2_with (at_builtin; refine wpList_append_own _ rfl (.tmp 71) (.tmp 72) 249 rfl w.heap.size 2 i0 (.int .i64 0) 1 8 Tryz.underlying249 hi0 hz0 hz1 hz2 rfl (by decide) _ _ _ rfl (hown.alloc _) ⟨wr.heap.size, 0, none⟩ 1 1 [.int .i64 0] rfl rfl ?c1 ?c2 ?c3 ?c4 ?c5 ?_)
        case c1 => exact one_new _ _ _
        case c2 => intro u hu; simp at hu; subst hu; rfl
        case c3 => unfold maxLen; omega
        case c4 => omega
        case c5 => simp; omega
        · intro v' w1 hown' hgrow _
          have R := hG.step hown' hgrow
          obtain ⟨va, vc, rfl⟩ := own_form hown'
          clear hown' hgrow hown hG
          go_wp2
          go_roundw
          case rel => exact ⟨z + 1, HZ.out, by rw [hstep.out]; exact R⟩
          case measure => simp [lenOf] <;> omega
      · have hln : (X0 ++ List.replicate z 0).length = 160 := by simp; omega
        have HXf : Hid (M.fits32 (X0 ++ List.replicate z 0)) := M.pad_fits HXf0.out (by decide) (by decide) z
        have HXe : Hid (∀ i, i < 160 → (X0 ++ List.replicate z 0).getD i 0 = (M.allv 8 zss).getD i 0) := fun i hi => (M.pad_get X0 z i).trans (HXe0.out i hi)
        clear hlt hz HXf0 HXe0
        generalize X0 ++ List.replicate z 0 = X at *
        have hrx := hG.reads (fun z hz => wf64 (by have := HXf.out z hz; omega) (by have := HXf.out z hz; omega))
        obtain ⟨bx, ox, rfl, x0, x1, hcx⟩ := hrx.cell (by omega)
        rw [hln] at hcx ⊢
        have HX : Hid (∀ i, i < 160 → wr.cell? ⟨bx, ox + i, none⟩ = some (.int .i64 (X.getD i 0))) := hcx
        have hbel := hG.2.1
        have HB : Hid (Below w.heap.size w wr) := hbel
        clear hrx hcx hbel hG hln hl80
        go_wp2_with (go_at_call 149; refine (rfilter 8 _ (by omega)).mono ?_; rintro e w2 ⟨bf, of, cf, rfl, f0, f1, hcf, hbel2⟩; have HFil : Hid (∀ i, i < 80 → w2.cell? ⟨bf, of + i, none⟩ = some (.int .i16 (M.fil i (8 : Nat)))) := hcf; have HX2 : Hid (∀ i, i < 160 → w2.cell? ⟨bx, ox + i, none⟩ = some (.int .i64 (X.getD i 0))) := (fun i hi => (cell_keep (hbel2.block bx x1)).trans (HX.out i hi)); have HB2 : Hid (Below w.heap.size w w2) := Below.trans HB.out (hbel2.mono (Below.size HB.out)); have hs2 := hbel2.size; clear hcf hbel2 HX HB)
        have bx2 : bx < w2.heap.size := by omega
        have H4 := Gat.nil .i16 182 w2
        obtain ⟨B4, hB4⟩ : ∃ B, w2.heap.size = B := ⟨_, rfl⟩
        rw [hB4] at H4 f1 hs2 bx2
        have HB4 : Hid (w2.heap.size = B4) := hB4
        clear hB4
        go_loopw [11, 12] (fun v i wr => ∃ j : Nat, j ≤ 8 ∧ i = .int .i64 j ∧ Gat .i16 182 B4 v ((M.jn 8 X).take j) w2 wr) (fun _ i _ => 8 - (intOf i).toNat)
        case atStart => exact ⟨0, by omega, rfl, by simpa using H4⟩
        case round =>
          clear H4
          obtain ⟨j, hj, rfl, hG⟩ := hrel
          by_cases hjl : j < 8
          · have hjl' : (j : Int) < 8 := by omega
            have hbel := hG.2.1
            have HX3 : Hid (∀ i, i < 160 → wr.cell? ⟨bx, ox + i, none⟩ = some (.int .i64 (X.getD i 0))) := fun i hi => (cell_keep (hbel.block bx bx2)).trans (HX2.out i hi)
            have HFil3 : Hid (∀ i, i < 80 → wr.cell? ⟨bf, of + i, none⟩ = some (.int .i16 (M.fil i (8 : Nat)))) := fun i hi => (cell_keep (hbel.block bf f1)).trans (HFil.out i hi)
            clear hbel
            go_wp2
            go_loopw [13, 14] (fun s i w9 => ∃ k : Nat, k ≤ 5 ∧ i = .int .i64 k ∧ s = .int .i64 (M.fj 8 X j k) ∧ ∃ mm, w9 = wr.drewN mm) (fun _ i _ => 5 - (intOf i).toNat)
            case atStart => exact ⟨0, by omega, rfl, rfl, 0, rfl⟩
            case round =>
              obtain ⟨k, hk, rfl, rfl, mm, rfl⟩ := hrel
              by_cases hk5 : k < 5
              · have hk5' : (k : Int) < 5 := by omega
                obtain ⟨iv, hiv⟩ : ∃ iv, iv = 4 * 8 * k + j := ⟨_, rfl⟩
                obtain ⟨ih, hih⟩ : ∃ ih, ih = 2 * 8 * k + j := ⟨_, rfl⟩
                obtain ⟨iu, hiu⟩ : ∃ iu, iu = 4 * 8 * k + 3 * 8 + j := ⟨_, rfl⟩
                obtain ⟨ig, hig⟩ : ∃ ig, ig = 2 * 8 * k + 8 + j := ⟨_, rfl⟩
                have hiv' : 32 * (k : Int) + (j : Int) = (iv : Int) := by omega
                have hih' : 16 * (k : Int) + (j : Int) = (ih : Int) := by omega
                have hiu' : 32 * (k : Int) + 24 + (j : Int) = (iu : Int) := by omega
                have hig' : 16 * (k : Int) + 8 + (j : Int) = (ig : Int) := by omega
                have b1 : (0 : Int) ≤ iv ∧ (iv : Int) < 160 := by omega
                have b2 : (0 : Int) ≤ ih ∧ (ih : Int) < 80 := by omega
                have b3 : (0 : Int) ≤ iu ∧ (iu : Int) < 160 := by omega
                have b4 : (0 : Int) ≤ ig ∧ (ig : Int) < 80 := by omega
                have q1 := HX3.out iv (by omega)
                have q3 := HX3.out iu (by omega)
                have q2 := HFil3.out ih (by omega)
                have q4 := HFil3.out ig (by omega)
                have e0 := M.get_bd HXf.out (by decide) (by decide) iv
                have e3 := M.get_bd HXf.out (by decide) (by decide) iu
                have e1 := M.fil_bd ih (8 : Nat)
                have e4 := M.fil_bd ig (8 : Nat)
                have e2 := M.mul_bd (X.getD iv 0) (M.fil ih (8 : Nat)) 2147483648 32768 (by omega) (by omega) (by omega) (by omega)
                have e5 := M.mul_bd (X.getD iu 0) (M.fil ig (8 : Nat)) 2147483648 32768 (by omega) (by omega) (by omega) (by omega)
                have d := M.fj_bd (m := 8) HXf.out j k
                have SS : Hid (M.fj 8 X j (k + 1) = M.fj 8 X j k + M.sgn true k (X.getD iv 0 * M.fil ih (8 : Nat) + X.getD iu 0 * M.fil ig (8 : Nat))) := by rw [hiv, hih, hiu, hig]; exact rfl
                have d2 : -703687441776640 ≤ M.fj 8 X j k ∧ M.fj 8 X j k ≤ 703687441776640 := by omega
                clear d
                generalize M.fj 8 X j k = cu at *
                generalize X.getD iv 0 = x0 at *
                generalize X.getD iu 0 = x2 at *
                generalize M.fil ih (8 : Nat) = x1 at *
                generalize M.fil ig (8 : Nat) = x3 at *
                rcases Nat.mod_two_eq_zero_or_one k with hp | hp
                · have ht : (k : Int).tmod 2 = 0 := by rw [tmod2, hp]; rfl
                  have S2 : Hid (cu + (x0 * x1 + x2 * x3) = M.fj 8 X j (k + 1)) := by show _ = _; rw [SS.out, (M.sgn_even hp).2]
                  clear SS hp hiv hih hiu hig
                  go_wp2
                  go_quiet (fail)
                  go_wp2
                  go_roundw
                  case rel => exact ⟨k + 1, by omega, by go_num, by rw [← S2.out], _, rfl⟩
                  case measure => simp [intOf] <;> omega
                · have ht : (k : Int).tmod 2 = 1 := by rw [tmod2, hp]; rfl
                  have S2 : Hid (cu + -(x0 * x1 + x2 * x3) = M.fj 8 X j (k + 1)) := by show _ = _; rw [SS.out, (M.sgn_odd hp).2]
                  clear SS hp hiv hih hiu hig
                  go_wp2
                  go_quiet (fail)
                  go_wp2
                  go_roundw
                  case rel => exact ⟨k + 1, by omega, by go_num, by rw [← S2.out], _, rfl⟩
                  case measure => simp [intOf] <;> omega
              · obtain rfl : k = 5 := by omega
                have d := M.fj_bd (m := 8) HXf.out j 5
                have hG2 := hG.drewN mm
                have hown := hG2.1
                have hsz := hG2.size
                have hln2 : ((M.jn 8 X).take j).length ≤ 32 := by simp; omega
                have hstep : Hid ((M.jn 8 X).take (j + 1) = (M.jn 8 X).take j ++ [M.sat16 (M.rnd (M.fj 8 X j 5) 14)]) := M.jn_take (by omega)
                have hsb := M.sat16_bd (M.rnd (M.fj 8 X j 5) 14)
                have hrb := M.rnd_bd (M.fj 8 X j 5) 14 (by omega) (by omega)
                have hrr := Ref.Round_any (M.fj 8 X j 5) 14 (wr.drewN mm) (by omega) (by omega)
                have hss := rsat16 (M.rnd (M.fj 8 X j 5) 14) (wr.drewN mm) (by omega) (by omega)
                generalize (M.jn 8 X).take j = Y at *
                generalize M.sat16 (M.rnd (M.fj 8 X j 5) 14) = y at *
                generalize M.rnd (M.fj 8 X j 5) 14 = yr at *
                have hwy : IntKind.i16.wrap y = y := by
                  simp only [IntKind.wrap, IntKind.bits, IntKind.signed]
                  first | omega | (simp; omega)
                clear d hG
                go_wp2_with (first
                  | (go_at_call 154; refine hrr.mono ?_; rintro e w' ⟨rfl, hw⟩; rw [hw]; clear hw w')
                  | (go_at_call 127; refine hss.mono ?_; rintro e w' ⟨rfl, hw⟩; rw [hw]; clear hw w')
                  | (at_builtin; refine wpList_append_own _ rfl (.tmp 139) (.tmp 144) 55 rfl B4 182 j0 (.int .i16 0) 1 2 Tryz.underlying55 hj0 hy0 hy1 hy2 rfl (by decide) _ _ _ rfl (hown.alloc _) ⟨(wr.drewN mm).heap.size, 0, none⟩ 1 1 [.int .i16 y] rfl rfl ?c1 ?c2 ?c3 ?c4 ?c5 ?_))
                case c1 => exact one_new _ _ _
                case c2 => intro u hu; simp at hu; subst hu; rfl
                case c3 => unfold maxLen; omega
                case c4 => omega
                case c5 => simp at hsz ⊢; omega
                · intro v' w1 hown' hgrow _
                  have R := hG2.step hown' hgrow
                  clear hown' hgrow hown hG2
                  go_wp2
                  go_roundw
                  case rel => exact ⟨j + 1, by omega, by go_num, by rw [hstep.out]; exact R⟩
                  case measure => simp [intOf] <;> omega
          · obtain rfl : j = 8 := by omega
            have hrd := hG.reads (fun z hz => wf16.2 (M.jn_fits 8 X z (List.mem_of_mem_take hz)))
            rw [List.take_of_length_le (by rw [M.jn_length]; omega), M.jn_congr (fun i hi => HXe.out i (by omega))] at hrd
            have hsB := Below.size HB2.out
            have hfin : Below w.heap.size w wr := Below.trans HB2.out (hG.2.1.mono (by rw [← HB4.out]; exact hsB))
            have HRD : Hid (Reads .i16 w.heap.size wr.heap.size wr u11 (M.jn 8 (M.allv 8 zss))) := hrd.mono (by rw [← HB4.out]; exact hsB) (Nat.le_refl _)
            have HFN : Hid (Below w.heap.size w wr) := hfin
            clear hrd hfin hG
            go_wp2
            go_ret
            exact ⟨_, rfl, HRD.out, HFN.out⟩

end Poly
end Go.Proofs.YtcaifpjbjghhaaaGreatDoor

/-
  What the laws of layer 8 lean on: lines behind blocks, the chapter's example. Conditions: the polynomial's numbers stand as their initialiser lays them; one goroutine.
-/
namespace Go.Proofs.YtcaifpjbjghhaaaGreatDoor
set_option linter.unusedVariables false
open Go.RowKit
namespace M

def lineJ (m : Nat) : List (List Int) → List Int → List Int
  | [], l => l
  | b :: r, l => lineJ m r (nj m b l)
theorem lineJ_snoc (m : Nat) (zss : List (List Int)) (b xs : List Int) : lineJ m (zss ++ [b]) xs = nj m b (lineJ m zss xs) := by
  induction zss generalizing xs with
  | nil => rfl
  | cons a r ih => exact ih _
theorem take_snoc {zss : List (List Int)} {k : Nat} (h : k < zss.length) : zss.take (k + 1) = zss.take k ++ [zss.getD k []] := by
  rw [List.take_add_one]
  simp [List.getD, h]

theorem lineJ_allv (m : Nat) (zss : List (List Int)) : ∀ n, ∀ i, i < 20 * m → (lineJ m (zss.take n) (List.replicate (20 * m) 0)).getD i 0 = (allv m (zss.take n)).getD i 0 := by
  intro n
  induction n with
  | zero =>
    intro i hi
    rw [List.take_zero]
    show (List.replicate (20 * m) (0 : Int)).getD i 0 = _
    rw [getD_rep]; rfl
  | succ n ih =>
    intro i hi
    rcases Nat.lt_or_ge n zss.length with h | h
    · rw [take_snoc h, lineJ_snoc, allv_snoc]
      unfold nj
      rw [getD_take hi, getD_append, getD_append]
      split
      · rfl
      · exact ih _ (by omega)
    · have e : zss.take (n + 1) = zss.take n := by rw [List.take_of_length_le (by omega), List.take_of_length_le h]
      rw [e]; exact ih i hi

end M
namespace Poly
open Bank (Blk But)

end Poly
end Go.Proofs.YtcaifpjbjghhaaaGreatDoor

