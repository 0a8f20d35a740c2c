/-
  The document's answer for layer 9: an unlapper's. Conditions: as told at each.
-/
import Derived.Test.YtjfhlaahgfdmnaaDoorLapdRefL
import Derived.Deep.RegionHeld3
import Derived.Deep.AppendLies
namespace Go.Proofs.YtjfhlaahgfdmnaaDoor
set_option linter.unusedVariables false
open Go.RowKit
namespace M
theorem floor3 {a n : Int} (hn : 0 < n) : (0 ≤ a ∧ a / n = a.tdiv n) ∨ (a < 0 ∧ a.tdiv n * n = a ∧ a / n = a.tdiv n) ∨ (a < 0 ∧ a.tdiv n * n ≠ a ∧ a / n = a.tdiv n - 1) := by
  have e := Int.tmod_def a n
  rw [Int.mul_comm] at e
  rcases Int.lt_or_le a 0 with h | h
  · rcases Int.lt_or_le (a.tmod n) 0 with hr | hr
    · exact .inr (.inr ⟨h, by omega, (Ref.tdiv_floor a n hn hr).symm⟩)
    · have h0 := Int.tmod_nonneg n (show 0 ≤ -a by omega)
      rw [Int.neg_tmod] at h0
      exact .inr (.inl ⟨h, by omega, (Ref.tdiv_plain a n hn hr).symm⟩)
  · exact .inl ⟨h, (Ref.tdiv_plain a n hn (Int.tmod_nonneg _ h)).symm⟩
end M
namespace Lapd
open Bank (Blk But)
open Poly (Reads enc enc_get enc_length enc_rep enc_one fit16 fit32 wf64 wf32 Gat reads_blk reads_own cell_keep below_but below_drewN below_drew alloc_size info64 info32)

set_option maxRecDepth 100000 in
set_option maxHeartbeats 4000000 in
theorem rBack (n N2 Nh N4 N8 lo hi : Nat) (c : List Int) (vc : Value) (w : World) (hn : Lens n N2 Nh N4 N8) (hc : Reads .i32 lo hi w vc c) (hcl : c.length = n) (h1 : hi ≤ w.heap.size) :
    Calls Tryd.prog 22 #[vc, .int .i64 n] w fun e w' => ∃ b off cp, e = .returned (.slice (some ⟨b, off, none⟩) N2 cp) ∧ Reads .i64 w.heap.size w'.heap.size w' (.slice (some ⟨b, off, none⟩) N2 cp) (M.bk n c) ∧ Below w.heap.size w w' := by
  unfold Lens at hn
  have n0 : 2 ≤ n := by omega
  have n1 : n ≤ 120 := by omega
  have e2 : 2 * n = N2 := by omega
  have e8 : 8 * n = N8 := by omega
  have hcf : M.fits32 c := by obtain ⟨_, _, _, _, hw, _⟩ := hc; exact fit32.1 hw
  obtain ⟨i0, hi0, hz0, hz1, hz2⟩ := info_parts info64
  obtain ⟨ac, cc, rfl⟩ := hc.form
  obtain ⟨bc, oc, rfl, q0, q1, hcc⟩ := hc.cell (by omega)
  rw [hcl] at hcc ⊢
  have hwin : Calls Tryd.prog 14 #[.int .i64 n] w fun e w1 => ∃ g, e = .returned (.slice (some ⟨g, 0, none⟩) N2 N2) ∧
      Calls Tryd.prog 34 #[.int .i64 n] w1 fun e w2 => ∃ b off c', e = .returned (.slice (some ⟨b, off, none⟩) N8 c') ∧ Below w.heap.size w w2 ∧ g < w2.heap.size ∧
        ∀ wx, Below w2.heap.size w2 wx → (∀ i, i < n → wx.cell? ⟨bc, oc + i, none⟩ = some (.int .i32 (c.getD i 0))) ∧ (∀ i, i < N2 → wx.cell? ⟨g, i, none⟩ = some (.int .i16 (M.wn n i))) ∧ ∀ i, i < N8 → wx.cell? ⟨b, off + i, none⟩ = some (.int .i64 ((M.cn n).getD i 0)) := by
    refine (rWindow n N2 Nh N4 w (by omega)).mono ?_
    rintro e w1 ⟨g, rfl, hg, hr, hs, bel1⟩
    refine ⟨g, rfl, (rWaves n N8 w1 e8 (by omega) n1).mono ?_⟩
    rintro e w2 ⟨b, off, c', rfl, hb, hcb, bel2⟩
    have s1 := bel1.size
    have s2 := bel2.size
    have b02 : Below w.heap.size w w2 := bel1.trans (bel2.mono s1)
    refine ⟨b, off, c', rfl, b02, by omega, fun wx hb2 => ⟨fun i hi => ?_, fun i hi => ?_, fun i hi => ?_⟩⟩
    · exact (cell_keep (hb2.block bc (by omega))).trans ((cell_keep (b02.block bc (by omega))).trans (hcc i hi))
    · obtain ⟨b', off', he, k0, k1, hc⟩ := hr.cell (by rw [M.wns_length]; omega)
      cases he
      have := hc i (by rw [M.wns_length]; omega)
      rw [Nat.zero_add, M.wns_get (by omega)] at this
      exact (cell_keep (hb2.block g (by omega))).trans ((cell_keep (bel2.block g (by omega))).trans this)
    · exact (cell_keep (hb2.block b hb)).trans (hcb i hi)
  have hsum : ∀ j : Nat, ∃ SM : Nat → Int, SM 0 = 0 ∧ (∀ k, SM (k + 1) = SM k + c.getD k 0 * M.cosine ((2 * (j : Int) + 1 + n) * (2 * (k : Int) + 1)) (8 * n : Nat)) ∧ (∀ k, k ≤ n → -9007199254740992 ≤ SM k ∧ SM k ≤ 9007199254740992) ∧ M.rnd (SM n) 15 = M.uv n c j := by
    intro j
    refine ⟨M.sm c (M.wf n (2 * (j : Int) + 1 + n) (2 * (2 * (j : Int) + 1 + n))), rfl, fun k => ?_, fun k hk => ?_, rfl⟩
    · show M.sm _ _ k + c.getD k 0 * M.wf n _ _ k = _
      rw [M.wf_unlap]
    · have := M.sm_bd hcf (M.wf_bd (n := n) (by omega) (2 * (j : Int) + 1 + n) (2 * (2 * (j : Int) + 1 + n))) k
      omega
  have hplace := fun j k (hj : j ≤ 240) (hk : k ≤ 240) => place n N8 j k e8 (by omega) n1 hj hk
  have HSum : Hid _ := hsum
  have HPl : Hid _ := hplace
  have HCf : Hid (∀ i, -2147483648 ≤ c.getD i 0 ∧ c.getD i 0 ≤ 2147483647) := M.get_bd hcf (by decide) (by decide)
  have HWb : Hid (∀ i, -32767 ≤ M.wn n i ∧ M.wn n i ≤ 32767) := fun i => M.wn_bd n i n0
  have HCb : Hid (∀ m : Int, -32767 ≤ M.cosine m (8 * n : Nat) ∧ M.cosine m (8 * n : Nat) ≤ 32767) := fun m => M.cosine_bd _ (by omega)
  have HUy : Hid (∀ j, M.uy n c j = M.sat32 ((2 * M.uv n c j + (Nh : Int)) / n)) := fun j => by
    show M.sat32 ((2 * M.uv n c j + ((n / 2 : Nat) : Int)) / n) = _
    rw [show n / 2 = Nh from by omega]
  have HUz : Hid (∀ j, M.uz n c j = M.sat32 (M.rnd (M.uy n c j * M.wn n j) 15)) := fun j => rfl
  have HUb : Hid (∀ j, -2147483648 ≤ M.uy n c j ∧ M.uy n c j ≤ 2147483647) := fun j => M.sat32_bd _
  have HVb : Hid (∀ V : Int, -9007199254740992 ≤ V → V ≤ 9007199254740992 → -9007199254740993 ≤ M.rnd V 15 ∧ M.rnd V 15 ≤ 9007199254740993) := fun V h0 h1 => M.rnd15_bd (by omega) (by omega) (by omega)
  have HLen : Hid ((M.bk n c).length = N2) := by show _ = _; rw [M.bk_length]; exact e2
  have HLf : Hid (M.fits32 (M.bk n c)) := fun z hz => by
    obtain ⟨j, _, rfl⟩ := List.mem_map.1 hz
    exact M.uz_bd n c j
  have HLg : Hid (∀ k, k < N2 → (M.bk n c).getD k 0 = M.uz n c k) := fun k hk => M.bk_get (by omega)
  have i2 : 2 * (n : Int) = (N2 : Int) := by omega
  have i8 : 8 * (n : Int) = (N8 : Int) := by omega
  have ih : (n : Int).tdiv 2 = (Nh : Int) := by rw [Int.tdiv_eq_ediv_of_nonneg (by omega)]; omega
  have ih' : (n : Int) / 2 = (Nh : Int) := by omega
  have b1 : (n : Int) ≤ 120 := by omega
  have b0 : (2 : Int) ≤ n := by omega
  have b00 : (n : Int) ≠ 0 := by omega
  have b2 : (N2 : Int) ≤ 240 := by omega
  have bh : (Nh : Int) ≤ 60 := by omega
  have b8 : (N8 : Int) ≤ 960 := by omega
  have b80 : (N8 : Int) ≠ 0 := by omega
  clear hsum hplace hcf e2 e8 hn hc hcl h1 q0 q1 hcc
  generalize M.bk n c = BK at *
  generalize M.uz n c = UZ at *
  generalize M.uy n c = UY at *
  generalize M.uv n c = UV at *
  go_enter Tryd.func22, Tryd.ntmps22
  go_wp2_with (first
    | (go_at_call 14; refine hwin.mono ?_; clear hwin; rintro e w1 ⟨g, rfl, hwav⟩)
    | (go_at_call 34; refine hwav.mono ?_; clear hwav; rintro e w2 ⟨b, off, cb, rfl, bel2, hgw, hfacts⟩; have HF : Hid _ := hfacts; have HB2 : Hid (Below _ _ _) := bel2; clear hfacts bel2))
  have H0 := Gat.nil .i64 2 w2
  obtain ⟨B, hB⟩ : ∃ B, w2.heap.size = B := ⟨_, rfl⟩
  rw [hB] at H0 HF hgw
  have HB : Hid (_ = B) := hB
  clear hB
  go_loopw [7, 8] (fun v i wr => ∃ k : Nat, k ≤ N2 ∧ i = .int .i64 k ∧ Gat .i64 2 B v (BK.take k) w2 wr) (fun _ i _ => N2 - (intOf i).toNat)
  case atStart => exact ⟨0, by omega, rfl, by simpa using H0⟩
  case round =>
    clear H0
    obtain ⟨j, hj, rfl, hG⟩ := hrel
    by_cases hjl : j < N2
    · have hjl' : (j : Int) < N2 := by omega
      obtain ⟨SM, hS0, hSs, hSb, hSl⟩ := HSum.out j
      have HSs : Hid _ := hSs
      have HSb : Hid _ := hSb
      have HSl : Hid (_ = _) := hSl
      have HG : Hid (Gat _ _ _ _ _ _ _) := hG
      clear hSs hSb hSl hG
      go_wp2
      go_loopw [9, 10] (fun s i wx => ∃ k : Nat, k ≤ n ∧ i = .int .i64 k ∧ s = .int .i64 (SM k) ∧ Gat .i64 2 B u7 (BK.take j) w2 wx) (fun _ i _ => n - (intOf i).toNat)
      case atStart => exact ⟨0, by omega, rfl, by rw [hS0], HG.out⟩
      case round =>
        clear hS0 HG
        obtain ⟨k, hk, rfl, rfl, hG⟩ := hrel
        obtain ⟨f1, f2, f3⟩ := HF.out wr hG.2.1
        by_cases hlt : k < n
        · have hlt' : (k : Int) < n := by omega
          obtain ⟨q, hq, hqm, hqc, p0, p1⟩ := HPl.out j k (by omega) (by omega)
          have c3 := f3 q hq
          rw [hqc] at c3
          have hq' : (q : Int) < N8 := by omega
          have c1 := f1 k hlt
          have hnx := HSs.out k
          obtain ⟨s0, s1⟩ := HSb.out k (by omega)
          obtain ⟨t0, t1⟩ := HCb.out ((2 * (j : Int) + 1 + n) * (2 * (k : Int) + 1))
          obtain ⟨a0, a1⟩ := HCf.out k
          have pr := M.mul_bd (c.getD k 0) (M.cosine ((2 * (j : Int) + 1 + n) * (2 * (k : Int) + 1)) (8 * n : Nat)) 2147483648 32767 (by omega) (by omega) (by omega) (by omega)
          obtain ⟨A, hA⟩ : ∃ A, 2 * (j : Int) + 1 + n = A := ⟨_, rfl⟩
          obtain ⟨K, hK⟩ : ∃ K, 2 * (k : Int) + 1 = K := ⟨_, rfl⟩
          rw [hA, hK] at hqm p0 p1 hnx c3 t0 t1 pr
          generalize M.cosine (A * K) (8 * n : Nat) = y at *
          obtain ⟨AK, hAK⟩ : ∃ AK, A * K = AK := ⟨_, rfl⟩
          rw [hAK] at hqm p0 p1
          obtain ⟨pr0, pr1⟩ := pr
          have HNx : Hid (SM (k + 1) = _) := hnx
          have HG : Hid (Gat _ _ _ _ _ _ _) := hG
          generalize c.getD k 0 = ck at *
          generalize SM k = sk at *
          clear hnx hqc hG f1 f2 f3
          go_wp2
          go_quiet (fail)
          go_wp2
          go_roundw
          case rel => exact ⟨k + 1, by omega, by go_num, by rw [HNx.out], HG.out.drewN _⟩
          case measure => simp [intOf]; omega
        · obtain rfl : k = n := by omega
          have hown := hG.1
          have hsz := hG.size
          have hln : (BK.take j).length ≤ 1000 := by rw [List.length_take]; omega
          have hstep : Hid (BK.take (j + 1) = BK.take j ++ [UZ j]) := by
            show _ = _
            rw [M.take_snoc (by rw [HLen.out]; exact hjl), HLg.out j hjl]
          have cg := f2 j hjl
          obtain ⟨s0, s1⟩ := HSb.out k (Nat.le_refl _)
          have hrr := Ref.Round_any (SM k) 15 wr (by omega) (by omega)
          have hvb := HVb.out (SM k) s0 s1
          rw [HSl.out] at hrr hvb
          obtain ⟨v0, v1⟩ := hvb
          obtain ⟨y0, y1⟩ := HUb.out j
          obtain ⟨w0, w1'⟩ := HWb.out j
          have mb := M.mul_bd (UY j) (M.wn k j) 2147483648 32767 (by omega) (by omega) (by omega) (by omega)
          have hr2 := fun wx => Ref.Round_any (UY j * M.wn k j) 15 wx (by omega) (by omega)
          have hrb := M.rnd_bd (UY j * M.wn k j) 15 (by omega) (by omega)
          have hs2 := fun wx => rsat (M.rnd (UY j * M.wn k j) 15) wx hrb.1 hrb.2
          rw [← HUz.out j] at hs2
          obtain ⟨Y, hY⟩ : ∃ Y, 2 * UV j + (Nh : Int) = Y := ⟨_, rfl⟩
          have hYb : -20000000000000000 ≤ Y ∧ Y ≤ 20000000000000000 := by omega
          have huy := HUy.out j
          rw [hY] at huy
          have hfl := M.floor3 (a := Y) (n := (k : Int)) (by omega)
          have htb := M.tdiv_bd (a := Y) (A := 20000000000000000) (b := (k : Int)) (by omega) (by omega)
          have hqb : -20000000000000001 ≤ Y / (k : Int) ∧ Y / (k : Int) ≤ 20000000000000001 := by omega
          have hs1 := fun wx => rsat (Y / (k : Int)) wx (by omega) (by omega)
          rw [← huy] at hs1
          have kA : ∀ (o : Obj) (i : Nat), (wr.alloc o).cell? ⟨g, i, none⟩ = wr.cell? ⟨g, i, none⟩ := fun o i => ((Below.refl wr.heap.size wr).alloc (Nat.le_refl _) o).cell (show g < wr.heap.size by omega)
          have kN : some g ≠ u7.ownBlock := fun e => by have := (hown.lt g e.symm).1; omega
          have HG : Hid (Gat _ _ _ _ _ _ _) := hG
          have HKA : Hid _ := kA
          have HKN : Hid (_ ≠ _) := kN
          obtain ⟨T, hT⟩ : ∃ T, Y.tdiv (k : Int) = T := ⟨_, rfl⟩
          obtain ⟨Q, hQ⟩ : ∃ Q, Y / (k : Int) = Q := ⟨_, rfl⟩
          rw [hT] at htb hfl
          rw [hQ] at hs1 hfl
          have hTk := M.mul_bd T k 20000000000000000 120 (by omega) (by omega) (by omega) (by omega)
          obtain ⟨hTk0, hTk1⟩ := hTk
          obtain ⟨ht0, ht1⟩ := htb
          obtain ⟨hy0, hy1⟩ := hYb
          obtain ⟨mb0, mb1⟩ := mb
          clear hqb huy hrb f1 f2 f3 hG kA kN HSum HPl HUy HUz HVb HCf HCb HSs HSb HSl hQ HLg
          generalize M.rnd (UY j * M.wn k j) 15 = R at *
          generalize M.wn k j = wj at *
          generalize UY j = uy at *
          generalize UZ j = uz at *
          generalize UV j = uvj at *
          obtain ⟨P, hP⟩ : ∃ P, uy * wj = P := ⟨_, rfl⟩
          rw [hP] at mb0 mb1 hr2
          have hPw : IntKind.i64.wrap P = P := Bank.wrap_id _ (by omega) (by omega)
          have hww : IntKind.i64.wrap wj = wj := Bank.wrap_id _ (by omega) (by omega)
          generalize SM k = sk at *
          generalize BK.take j = YS at *
          rcases hfl with ⟨h1, rfl⟩ | ⟨h1, h2, rfl⟩ | ⟨h1, h2, rfl⟩
          · have hd : decide (Y < 0) = false := decide_eq_false (by omega)
            have hd' : ¬ Y < 0 := by omega
            go_wp2_with (go_at_call 35; refine hrr.mono ?_; clear hrr; rintro e w' ⟨rfl, hw⟩; rw [hw]; clear hw w')
            go_region_held3 (fun wx => wx.cell? ⟨g, j, none⟩ = some (.int .i16 wj))
              (first
                | exact cg
                | exact (HKA.out _ _).trans cg
                | exact (hgrow4.cell_far _ (by simp; omega) HKN.out).trans ((HKA.out _ _).trans cg))
              (first
                | (go_at_call 36; refine (hs1 _).mono ?_; clear hs1; rintro e w' ⟨rfl, hw⟩; rw [hw]; clear hw w')
                | (go_at_call 35; refine (hr2 _).mono ?_; clear hr2; rintro e w' ⟨rfl, hw⟩; rw [hw]; clear hw w')
                | (go_at_call 36; refine (hs2 _).mono ?_; clear hs2; rintro e w' ⟨rfl, hw⟩; rw [hw]; clear hw w')
                | (refine step_append_lies _ (by rfl) _ _ _ (by rfl) B 2 i0 _ 1 8 Tryd.underlying46 hi0 hz0 hz1 hz2 rfl (by omega) _ YS.length (enc .i64 YS) (by rfl) ((hown.alloc _).drew) ⟨wr.heap.size, 0, none⟩ 1 1 [.int .i64 uz] (by rfl) (by rfl) (World.news_of_block (cs := #[.int .i64 uz]) (t := 2) (fr := (0, 0)) (heap_alloc_new wr _)) (by simp [Value.oneCell']) (by omega) (by unfold maxLen; omega) (by omega) (by simp; omega) (wr.heap.size + 1) (by simp) ?_; intro gg cap w4 hown4 hgrow4 hat hlt4))
            have R1 := HG.out.step (c := #[.int .i64 uz]) (ty := 2) hown4 ⟨hgrow4.os, hgrow4.tape, hgrow4.output, hgrow4.size, hgrow4.block⟩
            have HR1 : Hid (Gat _ _ _ _ _ _ _) := R1
            clear R1 hown4 hgrow4 hown HG
            go_wp2
            go_roundw
            case rel => exact ⟨j + 1, by omega, by go_num, by rw [hstep.out]; exact HR1.out⟩
            case measure => simp [intOf]; omega
          · have hd : decide (Y < 0) = true := decide_eq_true (by omega)
            have hne : (Y != Y) = false := by simp
            go_wp2_with (go_at_call 35; refine hrr.mono ?_; clear hrr; rintro e w' ⟨rfl, hw⟩; rw [hw]; clear hw w')
            go_region_held3 (fun wx => wx.cell? ⟨g, j, none⟩ = some (.int .i16 wj))
              (first
                | exact cg
                | exact (HKA.out _ _).trans cg
                | exact (hgrow4.cell_far _ (by simp; omega) HKN.out).trans ((HKA.out _ _).trans cg))
              (first
                | (go_at_call 36; refine (hs1 _).mono ?_; clear hs1; rintro e w' ⟨rfl, hw⟩; rw [hw]; clear hw w')
                | (go_at_call 35; refine (hr2 _).mono ?_; clear hr2; rintro e w' ⟨rfl, hw⟩; rw [hw]; clear hw w')
                | (go_at_call 36; refine (hs2 _).mono ?_; clear hs2; rintro e w' ⟨rfl, hw⟩; rw [hw]; clear hw w')
                | (refine step_append_lies _ (by rfl) _ _ _ (by rfl) B 2 i0 _ 1 8 Tryd.underlying46 hi0 hz0 hz1 hz2 rfl (by omega) _ YS.length (enc .i64 YS) (by rfl) ((hown.alloc _).drew) ⟨wr.heap.size, 0, none⟩ 1 1 [.int .i64 uz] (by rfl) (by rfl) (World.news_of_block (cs := #[.int .i64 uz]) (t := 2) (fr := (0, 0)) (heap_alloc_new wr _)) (by simp [Value.oneCell']) (by omega) (by unfold maxLen; omega) (by omega) (by simp; omega) (wr.heap.size + 1) (by simp) ?_; intro gg cap w4 hown4 hgrow4 hat hlt4))
            have R1 := HG.out.step (c := #[.int .i64 uz]) (ty := 2) hown4 ⟨hgrow4.os, hgrow4.tape, hgrow4.output, hgrow4.size, hgrow4.block⟩
            have HR1 : Hid (Gat _ _ _ _ _ _ _) := R1
            clear R1 hown4 hgrow4 hown HG
            go_wp2
            go_roundw
            case rel => exact ⟨j + 1, by omega, by go_num, by rw [hstep.out]; exact HR1.out⟩
            case measure => simp [intOf]; omega
          · have hd : decide (Y < 0) = true := decide_eq_true (by omega)
            obtain ⟨TK, hTK⟩ : ∃ TK, T * (k : Int) = TK := ⟨_, rfl⟩
            rw [hTK] at h2 hTk0 hTk1
            have hne : (TK != Y) = true := by rw [bne_iff_ne]; exact h2
            go_wp2_with (go_at_call 35; refine hrr.mono ?_; clear hrr; rintro e w' ⟨rfl, hw⟩; rw [hw]; clear hw w')
            go_region_held3 (fun wx => wx.cell? ⟨g, j, none⟩ = some (.int .i16 wj))
              (first
                | exact cg
                | exact (HKA.out _ _).trans cg
                | exact (hgrow4.cell_far _ (by simp; omega) HKN.out).trans ((HKA.out _ _).trans cg))
              (first
                | (go_at_call 36; refine (hs1 _).mono ?_; clear hs1; rintro e w' ⟨rfl, hw⟩; rw [hw]; clear hw w')
                | (go_at_call 35; refine (hr2 _).mono ?_; clear hr2; rintro e w' ⟨rfl, hw⟩; rw [hw]; clear hw w')
                | (go_at_call 36; refine (hs2 _).mono ?_; clear hs2; rintro e w' ⟨rfl, hw⟩; rw [hw]; clear hw w')
                | (refine step_append_lies _ (by rfl) _ _ _ (by rfl) B 2 i0 _ 1 8 Tryd.underlying46 hi0 hz0 hz1 hz2 rfl (by omega) _ YS.length (enc .i64 YS) (by rfl) ((hown.alloc _).drew) ⟨wr.heap.size, 0, none⟩ 1 1 [.int .i64 uz] (by rfl) (by rfl) (World.news_of_block (cs := #[.int .i64 uz]) (t := 2) (fr := (0, 0)) (heap_alloc_new wr _)) (by simp [Value.oneCell']) (by omega) (by unfold maxLen; omega) (by omega) (by simp; omega) (wr.heap.size + 1) (by simp) ?_; intro gg cap w4 hown4 hgrow4 hat hlt4))
            have R1 := HG.out.step (c := #[.int .i64 uz]) (ty := 2) hown4 ⟨hgrow4.os, hgrow4.tape, hgrow4.output, hgrow4.size, hgrow4.block⟩
            have HR1 : Hid (Gat _ _ _ _ _ _ _) := R1
            clear R1 hown4 hgrow4 hown HG
            go_wp2
            go_roundw
            case rel => exact ⟨j + 1, by omega, by go_num, by rw [hstep.out]; exact HR1.out⟩
            case measure => simp [intOf]; omega
    · obtain rfl : j = N2 := by omega
      rw [List.take_of_length_le (by rw [HLen.out]; omega)] at hG
      have hr := hG.reads (fun z hz => wf64 (by have := HLf.out z hz; omega) (by have := HLf.out z hz; omega))
      obtain ⟨a, cp, rfl⟩ := hr.form
      obtain ⟨b', off', rfl, _, _, _⟩ := hr.cell (by rw [HLen.out]; omega)
      rw [HLen.out] at hr ⊢
      have HR : Hid (Reads _ _ _ _ _ _) := hr
      have HBe : Hid (Below _ _ _) := hG.2.1
      clear hr hG
      go_wp2
      go_ret
      have sB := HB2.out.size
      have eB := HB.out
      exact ⟨b', off', cp, rfl, HR.out.mono (by omega) (Nat.le_refl _), HB2.out.trans (HBe.out.mono (by omega))⟩

end Lapd
end Go.Proofs.YtjfhlaahgfdmnaaDoor
