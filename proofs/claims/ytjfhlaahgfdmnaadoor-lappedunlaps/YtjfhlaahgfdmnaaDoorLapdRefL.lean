/-
  The document's answer for layer 9: a lapper's. Conditions: as told at each.
-/
import Derived.Test.YtjfhlaahgfdmnaaDoorLapdRef
import Derived.Test.YtjfhlaahgfdmnaaDoorLapdNew
namespace Go.Proofs.YtjfhlaahgfdmnaaDoor
set_option linter.unusedVariables false
open Go.RowKit
namespace Lapd
open Bank (Blk But)
open Poly (Reads enc enc_get enc_length enc_rep enc_one fit16 fit32 wf64 wf32 Gat reads_blk reads_own cell_keep below_but below_drewN below_drew alloc_size info64 info32)

/-- where the document looks a wave up -/
theorem place (n N8 j k : Nat) (e8 : 8 * n = N8) (n0 : 1 ≤ n) (n1 : n ≤ 120) (hj : j ≤ 240) (hk : k ≤ 240) : ∃ q : Nat, q < N8 ∧ ((2 * (j : Int) + 1 + n) * (2 * (k : Int) + 1)).tmod (N8 : Int) = (q : Int) ∧ (M.cn n).getD q 0 = M.cosine ((2 * (j : Int) + 1 + n) * (2 * (k : Int) + 1)) (8 * n : Nat) ∧
    0 ≤ (2 * (j : Int) + 1 + n) * (2 * (k : Int) + 1) ∧ (2 * (j : Int) + 1 + n) * (2 * (k : Int) + 1) ≤ 400000 := by
  have p0 : 0 ≤ (2 * (j : Int) + 1 + n) * (2 * (k : Int) + 1) := Int.mul_nonneg (by omega) (by omega)
  have p1 := M.mul_bd (2 * (j : Int) + 1 + n) (2 * (k : Int) + 1) 601 481 (by omega) (by omega) (by omega) (by omega)
  have a := Int.emod_nonneg ((2 * (j : Int) + 1 + n) * (2 * (k : Int) + 1)) (show (N8 : Int) ≠ 0 by omega)
  have b := Int.emod_lt_of_pos ((2 * (j : Int) + 1 + n) * (2 * (k : Int) + 1)) (show (0 : Int) < N8 by omega)
  refine ⟨(((2 * (j : Int) + 1 + n) * (2 * (k : Int) + 1)) % (N8 : Int)).toNat, by omega, ?_, ?_, p0, by omega⟩
  · rw [Int.tmod_eq_emod_of_nonneg p0]; omega
  · refine M.wf_at (by omega) ?_
    rw [e8]
    omega

set_option maxRecDepth 100000 in
set_option maxHeartbeats 2000000 in
theorem rLap (n N2 Nh N4 N8 lo hi lo' hi' : Nat) (o x : List Int) (vo vx : Value) (w : World) (hn : Lens n N2 Nh N4 N8) (ho : Reads .i16 lo hi w vo o) (hx : Reads .i16 lo' hi' w vx x) (hol : o.length = n) (hxl : x.length = n) (h1 : hi ≤ w.heap.size) (h2 : hi' ≤ w.heap.size) :
    Calls Tryd.prog 19 #[vo, vx, .int .i64 n] w fun e w' => ∃ a c, e = .returned (.slice a n c) ∧ Reads .i32 w.heap.size w'.heap.size w' (.slice a n c) (M.lp n o x) ∧ Below w.heap.size w w' := by
  unfold Lens at hn
  have n0 : 2 ≤ n := by omega
  have n1 : n ≤ 120 := by omega
  have e2 : 2 * n = N2 := by omega
  have e8 : 8 * n = N8 := by omega
  have hof : M.fits16 o := by obtain ⟨_, _, _, _, hw, _⟩ := ho; exact fit16.1 hw
  have hxf : M.fits16 x := by obtain ⟨_, _, _, _, hw, _⟩ := hx; exact fit16.1 hw
  obtain ⟨i0, hi0, hz0, hz1, hz2⟩ := info_parts info32
  obtain ⟨ao, co, rfl⟩ := ho.form
  obtain ⟨bo, oo, rfl, q0, q1, hco⟩ := ho.cell (by omega)
  obtain ⟨ax, cx, rfl⟩ := hx.form
  obtain ⟨bx, ox, rfl, q2, q3, hcx⟩ := hx.cell (by omega)
  rw [hol] at hco ⊢
  rw [hxl] at hcx ⊢
  have hwin : Calls Tryd.prog 14 #[.int .i64 n] w fun e w1 => ∃ g, e = .returned (.slice (some ⟨g, 0, none⟩) N2 N2) ∧
      Calls Tryd.prog 34 #[.int .i64 n] w1 fun e w2 => ∃ b off c, e = .returned (.slice (some ⟨b, off, none⟩) N8 c) ∧ Below w.heap.size w w2 ∧
        ∀ wx, Below w2.heap.size w2 wx → (∀ i, i < n → wx.cell? ⟨bo, oo + i, none⟩ = some (.int .i16 (o.getD i 0))) ∧ (∀ i, i < n → wx.cell? ⟨bx, ox + i, none⟩ = some (.int .i16 (x.getD i 0))) ∧ (∀ i, i < N2 → wx.cell? ⟨g, i, none⟩ = some (.int .i16 (M.wn n i))) ∧ ∀ i, i < N8 → wx.cell? ⟨b, off + i, none⟩ = some (.int .i64 ((M.cn n).getD i 0)) := by
    refine (rWindow n N2 Nh N4 w (by omega)).mono ?_
    rintro e w1 ⟨g, rfl, hg, hr, hs, bel1⟩
    refine ⟨g, rfl, (rWaves n N8 w1 e8 (by omega) n1).mono ?_⟩
    rintro e w2 ⟨b, off, c, rfl, hb, hcb, bel2⟩
    have s1 := bel1.size
    have s2 := bel2.size
    have b02 : Below w.heap.size w w2 := bel1.trans (bel2.mono s1)
    refine ⟨b, off, c, rfl, b02, fun wx hb2 => ⟨fun i hi => ?_, fun i hi => ?_, fun i hi => ?_, fun i hi => ?_⟩⟩
    · exact (cell_keep (hb2.block bo (by omega))).trans ((cell_keep (b02.block bo (by omega))).trans (hco i hi))
    · exact (cell_keep (hb2.block bx (by omega))).trans ((cell_keep (b02.block bx (by omega))).trans (hcx i hi))
    · obtain ⟨b', off', he, k0, k1, hc⟩ := hr.cell (by rw [M.wns_length]; omega)
      cases he
      have := hc i (by rw [M.wns_length]; omega)
      rw [Nat.zero_add, M.wns_get (by omega)] at this
      exact (cell_keep (hb2.block g (by omega))).trans ((cell_keep (bel2.block g (by omega))).trans this)
    · exact (cell_keep (hb2.block b hb)).trans (hcb i hi)
  have hsum : ∀ k : Nat, ∃ SM : Nat → Int, SM 0 = 0 ∧ (∀ j, j < N2 → SM (j + 1) = SM j + M.aw n o x j * M.cosine ((2 * (j : Int) + 1 + n) * (2 * (k : Int) + 1)) (8 * n : Nat)) ∧ (∀ j, j ≤ N2 → -18014398509481984 ≤ SM j ∧ SM j ≤ 18014398509481984) ∧ M.sat32 (M.rnd (SM N2) 15) = M.lk n o x k := by
    intro k
    refine ⟨M.sm (M.aws n o x) (M.wf n (((n : Int) + 1) * (2 * (k : Int) + 1)) (2 * (2 * (k : Int) + 1))), rfl, fun j hj => ?_, fun j hj => ?_, ?_⟩
    · show M.sm _ _ j + (M.aws n o x).getD j 0 * M.wf n _ _ j = _
      rw [M.aws_get (by omega), M.wf_lap]
    · have := M.sm_bd (M.aws_fits n0 hof hxf) (M.wf_bd (n := n) (by omega) (((n : Int) + 1) * (2 * (k : Int) + 1)) (2 * (2 * (k : Int) + 1))) j
      omega
    · unfold M.lk; rw [e2]
  have hplace := fun j k (hj : j ≤ 240) (hk : k ≤ 240) => place n N8 j k e8 (by omega) n1 hj hk
  have HSum : Hid _ := hsum
  have HPl : Hid _ := hplace
  have HAb : Hid (∀ j, -32768 ≤ M.aw n o x j ∧ M.aw n o x j ≤ 32768) := M.aw_bd n0 hof hxf
  have HLo : Hid (∀ k, k < n → M.aw n o x k = M.rnd (o.getD k 0 * M.wn n k) 15) := fun k hk => M.aw_lo hk
  have HHi : Hid (∀ k, M.aw n o x (n + k) = M.rnd (x.getD k 0 * M.wn n (n + k)) 15) := fun k => M.aw_hi
  have HO : Hid (∀ i, -32768 ≤ o.getD i 0 ∧ o.getD i 0 ≤ 32767) := M.get_bd hof (by decide) (by decide)
  have HXb : Hid (∀ i, -32768 ≤ x.getD i 0 ∧ x.getD i 0 ≤ 32767) := M.get_bd hxf (by decide) (by decide)
  have HWb : Hid (∀ i, -32767 ≤ M.wn n i ∧ M.wn n i ≤ 32767) := fun i => M.wn_bd n i n0
  have HCb : Hid (∀ m : Int, -32767 ≤ M.cosine m (8 * n : Nat) ∧ M.cosine m (8 * n : Nat) ≤ 32767) := fun m => M.cosine_bd _ (by omega)
  have hE : Hid (2 * n = N2) := e2
  have HLen : Hid ((M.lp n o x).length = n) := M.lp_length n o x
  have HLf : Hid (M.fits32 (M.lp n o x)) := M.lp_fits n o x
  have HLg : Hid (∀ k, k < n → (M.lp n o x).getD k 0 = M.lk n o x k) := fun k hk => by simp [M.lp, List.getD, hk]
  have i2 : 2 * (n : Int) = (N2 : Int) := by omega
  have i8 : 8 * (n : Int) = (N8 : Int) := by omega
  have b1 : (n : Int) ≤ 120 := by omega
  have b0 : (2 : Int) ≤ n := by omega
  have b2 : (N2 : Int) ≤ 240 := by omega
  have b8 : (N8 : Int) ≤ 960 := by omega
  have b80 : (N8 : Int) ≠ 0 := by omega
  clear hsum hplace hof hxf e2 e8 hn ho hx hol hxl h1 h2 q0 q1 q2 q3 hco hcx
  generalize M.lp n o x = LP at *
  generalize M.lk n o x = LK at *
  generalize M.aw n o x = AW at *
  go_enter Tryd.func19, Tryd.ntmps19
  go_wp2_with (first
    | (go_at_call 14; refine hwin.mono ?_; clear hwin; rintro e w1 ⟨g, rfl, hwav⟩)
    | (go_at_call 34; refine hwav.mono ?_; clear hwav; rintro e w2 ⟨b, off, cb, rfl, bel2, hfacts⟩; have HF : Hid _ := hfacts; have HB2 : Hid (Below _ _ _) := bel2; clear hfacts bel2))
  have H0 := Gat.nil .i32 21 w2
  obtain ⟨B, hB⟩ : ∃ B, w2.heap.size = B := ⟨_, rfl⟩
  rw [hB] at H0 HF
  have HB : Hid (_ = B) := hB
  clear hB
  go_loopw [9, 10] (fun v i wr => ∃ k : Nat, k ≤ n ∧ i = .int .i64 k ∧ Gat .i32 21 B v (LP.take k) w2 wr) (fun _ i _ => n - (intOf i).toNat)
  case atStart => exact ⟨0, by omega, rfl, by simpa using H0⟩
  case round =>
    clear H0
    obtain ⟨k, hk, rfl, hG⟩ := hrel
    by_cases hlt : k < n
    · have hlt' : (k : Int) < n := by omega
      obtain ⟨f1, f2, f3, f4⟩ := HF.out wr hG.2.1
      obtain ⟨SM, hS0, hSs, hSb, hSl⟩ := HSum.out k
      have F1 : Hid _ := f1
      have F2 : Hid _ := f2
      have F3 : Hid _ := f3
      have F4 : Hid _ := f4
      have HSs : Hid _ := hSs
      have HSb : Hid _ := hSb
      have HSl : Hid (_ = _) := hSl
      have HG : Hid (Gat _ _ _ _ _ _ _) := hG
      clear f1 f2 f3 f4 hSs hSb hSl hG
      go_wp2
      go_loopw [11, 12] (fun s i wx => ∃ j : Nat, j ≤ N2 ∧ i = .int .i64 j ∧ s = .int .i64 (SM j) ∧ wx = wr) (fun _ i _ => N2 - (intOf i).toNat)
      case atStart => exact ⟨0, by omega, rfl, by rw [hS0], rfl⟩
      case round =>
        clear hS0
        obtain ⟨j, hj, rfl, rfl, hw⟩ := hrel
        subst hw
        by_cases hjl : j < N2
        · have hjl' : (j : Int) < N2 := by omega
          obtain ⟨q, hq, hqm, hqc, p0, p1⟩ := HPl.out j k (by omega) (by omega)
          have c4 := F4.out q hq
          rw [hqc] at c4
          have hq' : (q : Int) < N8 := by omega
          have c3 := F3.out j hjl
          have hnx := HSs.out j hjl
          obtain ⟨s0, s1⟩ := HSb.out j (by omega)
          obtain ⟨t0, t1⟩ := HCb.out ((2 * (j : Int) + 1 + n) * (2 * (k : Int) + 1))
          obtain ⟨a0, a1⟩ := HAb.out j
          obtain ⟨v0, v1⟩ := HWb.out j
          have pr := M.mul_bd (AW j) (M.cosine ((2 * (j : Int) + 1 + n) * (2 * (k : Int) + 1)) (8 * n : Nat)) 32768 32767 (by omega) (by omega) (by omega) (by omega)
          obtain ⟨A, hA⟩ : ∃ A, 2 * (j : Int) + 1 + n = A := ⟨_, rfl⟩
          obtain ⟨K, hK⟩ : ∃ K, 2 * (k : Int) + 1 = K := ⟨_, rfl⟩
          rw [hA, hK] at hqm p0 p1 hnx c4 t0 t1 pr
          generalize M.cosine (A * K) (8 * n : Nat) = y at *
          obtain ⟨AK, hAK⟩ : ∃ AK, A * K = AK := ⟨_, rfl⟩
          rw [hAK] at hqm p0 p1
          obtain ⟨pr0, pr1⟩ := pr
          have HNx : Hid (SM (j + 1) = _) := hnx
          clear hnx hqc
          by_cases hjn : j < n
          · have hjn' : (j : Int) < n := by omega
            have c1 := F1.out j hjn
            obtain ⟨o0, o1⟩ := HO.out j
            have haw := HLo.out j hjn
            have mb := M.mul_bd (o.getD j 0) (M.wn n j) 32768 32767 (by omega) (by omega) (by omega) (by omega)
            have hrr := Ref.Round_any (o.getD j 0 * M.wn n j) 15 wr (by omega) (by omega)
            rw [← haw] at hrr
            clear haw
            generalize o.getD j 0 = z at *
            generalize M.wn n j = v at *
            generalize AW j = aj at *
            generalize SM j = sj at *
            obtain ⟨mb0, mb1⟩ := mb
            go_wp2_with (go_at_call 35; refine hrr.mono ?_; clear hrr; rintro e w' ⟨rfl, hw⟩; rw [hw]; clear hw w')
            go_roundw
            case rel => exact ⟨j + 1, by omega, by go_num, by rw [HNx.out], by trivial⟩
            case measure => simp [intOf]; omega
          · have hjn' : ¬ (j : Int) < n := by omega
            obtain ⟨d, hd⟩ : ∃ d, j = n + d := ⟨j - n, by omega⟩
            have hd' : (j : Int) - (n : Int) = (d : Int) := by omega
            have hdn : (d : Int) < n := by have := hE.out; omega
            have c1 := F2.out d (by omega)
            obtain ⟨o0, o1⟩ := HXb.out d
            have haw : AW j = M.rnd (x.getD d 0 * M.wn n j) 15 := by rw [hd]; exact HHi.out d
            have mb := M.mul_bd (x.getD d 0) (M.wn n j) 32768 32767 (by omega) (by omega) (by omega) (by omega)
            have hrr := Ref.Round_any (x.getD d 0 * M.wn n j) 15 wr (by omega) (by omega)
            rw [← haw] at hrr
            clear haw hd
            generalize x.getD d 0 = z at *
            generalize M.wn n j = v at *
            generalize AW j = aj at *
            generalize SM j = sj at *
            obtain ⟨mb0, mb1⟩ := mb
            go_wp2_with (go_at_call 35; refine hrr.mono ?_; clear hrr; rintro e w' ⟨rfl, hw⟩; rw [hw]; clear hw w')
            go_roundw
            case rel => exact ⟨j + 1, by omega, by go_num, by rw [HNx.out], by trivial⟩
            case measure => simp [intOf]; omega
        · obtain rfl : j = N2 := by omega
          have hG := HG.out
          have hown := hG.1
          have hsz := hG.size
          have hln : (LP.take k).length ≤ 1000 := by rw [List.length_take]; omega
          have hstep : Hid (LP.take (k + 1) = LP.take k ++ [LK k]) := by
            show _ = _
            rw [M.take_snoc (by rw [HLen.out]; exact hlt), HLg.out k hlt]
          obtain ⟨s0, s1⟩ := HSb.out j (Nat.le_refl _)
          have hrr := Ref.Round_any (SM j) 15 wr (by omega) (by omega)
          have hrb := M.rnd_bd (SM j) 15 (by omega) (by omega)
          have hss := rsat (M.rnd (SM j) 15) wr hrb.1 hrb.2
          have hyb := M.sat32_bd (M.rnd (SM j) 15)
          rw [HSl.out] at hss hyb
          obtain ⟨y0, y1⟩ := hyb
          generalize LK k = y at *
          generalize LP.take k = Y at *
          generalize M.rnd (SM j) 15 = r at *
          generalize SM j = sj at *
          go_wp2_with (first
            | (go_at_call 35; refine hrr.mono ?_; clear hrr; rintro e w' ⟨rfl, hw⟩; rw [hw]; clear hw w')
            | (go_at_call 36; refine hss.mono ?_; clear hss; rintro e w' ⟨rfl, hw⟩; rw [hw]; clear hw w')
            | (at_builtin; refine wpList_append_own _ rfl (.tmp 72) (.tmp 77) 40 rfl B 21 i0 (.int .i32 0) 1 4 Tryd.underlying40 hi0 hz0 hz1 hz2 rfl (by decide) _ _ _ rfl (hown.alloc _) ⟨wr.heap.size, 0, none⟩ 1 1 [.int .i32 y] rfl rfl ?c1 ?c2 ?c3 ?c4 ?c5 ?_))
          case c1 => exact lit_one _ _ _
          case c2 => intro u hu; simp at hu; subst hu; rfl
          case c3 => unfold maxLen; omega
          case c4 => omega
          case c5 => simp; omega
          · intro v' w1 hown' hgrow _
            have R := hG.step hown' hgrow
            clear hown' hgrow hown hG HG
            go_wp2
            go_roundw
            case rel => exact ⟨k + 1, by omega, by go_num, by rw [hstep.out]; exact R⟩
            case measure => simp [intOf]; omega
    · obtain rfl : k = n := by omega
      rw [List.take_of_length_le (by rw [HLen.out]; omega)] at hG
      have hr := hG.reads (fun z hz => wf32.2 (HLf.out z hz))
      obtain ⟨a, c, rfl⟩ := hr.form
      rw [HLen.out] at hr ⊢
      have HR : Hid (Reads _ _ _ _ _ _) := hr
      have HBe : Hid (Below _ _ _) := hG.2.1
      clear hr hG
      go_wp2
      go_ret
      have sB := HB2.out.size
      have eB := HB.out
      exact ⟨a, c, rfl, HR.out.mono (by omega) (Nat.le_refl _), HB2.out.trans (HBe.out.mono (by omega))⟩

end Lapd
end Go.Proofs.YtjfhlaahgfdmnaaDoor
