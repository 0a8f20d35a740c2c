/-
  The document's answer for layer 9: an unlapper's samples. Conditions: as told at each.
-/
import Derived.Test.YtjfhlaahgfdmnaaDoorLapdRefB
namespace Go.Proofs.YtjfhlaahgfdmnaaDoor
set_option linter.unusedVariables false
open Go.RowKit
namespace Lapd
open Bank (Blk But)
open Poly (Reads enc enc_get enc_length enc_rep enc_one fit16 fit32 wf64 wf32 Gat reads_blk reads_own cell_keep below_but below_drewN below_drew alloc_size info64 info32)

/-- what overlaps, as the document has it: nothing yet, or the second half of a list -/
def Old (n lo hi : Nat) (vo : Value) (q : List Int) (w : World) : Prop :=
  q.length = n ∧ M.fits32 q ∧ ((vo = .slice none 0 0 ∧ q = List.replicate n 0) ∨ ∃ b off c, vo = .slice (some ⟨b, off, none⟩) (2 * n) c ∧ lo ≤ b ∧ b < hi ∧ ∀ j, j < n → w.cell? ⟨b, off + (n + j), none⟩ = some (.int .i64 (q.getD j 0)))
theorem Old.keep {n lo hi : Nat} {vo : Value} {q : List Int} {w w' : World} (h : Old n lo hi vo q w) (hk : ∀ b, lo ≤ b → b < hi → w'.heap[b]? = w.heap[b]?) : Old n lo hi vo q w' := by
  obtain ⟨h1, h2, h3 | ⟨b, off, c, h3, h4, h5, h6⟩⟩ := h
  · exact ⟨h1, h2, .inl h3⟩
  · exact ⟨h1, h2, .inr ⟨b, off, c, h3, h4, h5, fun j hj => (cell_keep (hk b h4 h5)).trans (h6 j hj)⟩⟩
theorem Old.below {n lo hi B : Nat} {vo : Value} {q : List Int} {w w' : World} (h : Old n lo hi vo q w) (hb : Below B w w') (hh : hi ≤ B) : Old n lo hi vo q w' := h.keep fun b h0 h1 => hb.block b (by omega)
theorem Old.but {n lo hi g : Nat} {vo : Value} {q : List Int} {w w' : World} (h : Old n lo hi vo q w) (hb : But g w w') (hh : hi ≤ w.heap.size) (hg : g < lo ∨ hi ≤ g) : Old n lo hi vo q w' := h.keep fun b h0 h1 => hb.block b (by omega) (by omega)
theorem Old.drewN {n lo hi : Nat} {vo : Value} {q : List Int} {w : World} (h : Old n lo hi vo q w) (m : Nat) : Old n lo hi vo q (w.drewN m) := h
theorem Old.of_back {n lo hi : Nat} {b off cp : Nat} {c : List Int} {w : World} (h : Reads .i64 lo hi w (.slice (some ⟨b, off, none⟩) (2 * n) cp) (M.bk n c)) (hn : 1 ≤ n) : Old n lo hi (.slice (some ⟨b, off, none⟩) (2 * n) cp) (M.ov n c) w := by
  refine ⟨M.ov_length n c, M.ov_fits n c, .inr ?_⟩
  obtain ⟨b', off', he, h0, h1, hx⟩ := h.cell (by rw [M.bk_length]; omega)
  cases he
  refine ⟨b, off, cp, rfl, h0, h1, fun j hj => ?_⟩
  rw [hx (n + j) (by rw [M.bk_length]; omega), M.bk_get (by omega), M.ov_get hj]

set_option maxRecDepth 100000 in
set_option maxHeartbeats 2000000 in
theorem rUnlap (n N2 Nh N4 N8 lo hi lo' hi' : Nat) (q c : List Int) (vo vc : Value) (w : World) (hn : Lens n N2 Nh N4 N8) (ho : Old n lo' hi' vo q w) (hc : Reads .i32 lo hi w vc c) (hcl : c.length = n) (h1 : hi ≤ w.heap.size) (h2 : hi' ≤ w.heap.size) :
    Calls Tryd.prog 21 #[vo, vc, .int .i64 n] w fun e w' => ∃ a cp, e = .returned (.slice a n cp) ∧ Reads .i32 w.heap.size w'.heap.size w' (.slice a n cp) (M.un n q c) ∧ Below w.heap.size w w' := by
  have hback := rBack n N2 Nh N4 N8 lo hi c vc w hn hc hcl h1
  unfold Lens at hn
  obtain ⟨i0, hi0, hz0, hz1, hz2⟩ := info_parts info32
  have e2 : 2 * n = N2 := by omega
  obtain ⟨hql, hqf, hold⟩ := ho
  have HQb : Hid (∀ i, -2147483648 ≤ q.getD i 0 ∧ q.getD i 0 ≤ 2147483647) := M.get_bd hqf (by decide) (by decide)
  have HZb : Hid (∀ i, -2147483648 ≤ M.uz n c i ∧ M.uz n c i ≤ 2147483647) := M.uz_bd n c
  have HLen : Hid ((M.un n q c).length = n) := M.un_length n q c
  have HLf : Hid (M.fits32 (M.un n q c)) := M.un_fits n q c
  have HLg : Hid (∀ k, k < n → (M.un n q c).getD k 0 = M.sat32 (q.getD k 0 + M.uz n c k)) := fun k hk => by
    rw [Int.add_comm]
    simp [M.un, List.getD, hk]
  have HBk : Hid (∀ w1 b off cp, Reads .i64 w.heap.size w1.heap.size w1 (.slice (some ⟨b, off, none⟩) N2 cp) (M.bk n c) → b < w1.heap.size ∧ ∀ j, j < N2 → w1.cell? ⟨b, off + j, none⟩ = some (.int .i64 (M.uz n c j))) := by
    intro w1 b off cp hr
    obtain ⟨b', off', he, k0, k1, hx⟩ := hr.cell (by rw [M.bk_length]; omega)
    cases he
    exact ⟨k1, fun j hj => by rw [hx j (by rw [M.bk_length]; omega), M.bk_get (by omega)]⟩
  have b1 : (n : Int) ≤ 120 := by omega
  have b0 : (2 : Int) ≤ n := by omega
  have i2 : 2 * (n : Int) = (N2 : Int) := by omega
  have b2 : (N2 : Int) ≤ 240 := by omega
  have H2 : Hid (hi' ≤ w.heap.size) := h2
  obtain ⟨ac, cc, rfl⟩ := hc.form
  rw [hcl] at hback ⊢
  rw [e2] at hold
  have HE2 : Hid (2 * n = N2) := e2
  clear hn hc hcl h1 h2 hqf hql e2
  generalize M.un n q c = UN at *
  generalize M.uz n c = UZ at *
  rcases hold with ⟨rfl, hq0⟩ | ⟨bq, oq, cq, rfl, hq1, hq2, hq3⟩
  · have HQ0 : Hid (∀ k, q.getD k 0 = 0) := fun k => by rw [hq0]; exact M.getD_rep _ _
    clear hq0
    go_enter Tryd.func21, Tryd.ntmps21
    go_wp2_with (go_at_call 22; refine hback.mono ?_; clear hback; rintro e w1 ⟨b, off, cp, rfl, hr, bel1⟩; obtain ⟨hb1, hcz⟩ := HBk.out w1 b off cp hr; have HCz : Hid _ := hcz; have HB1 : Hid (Below _ _ _) := bel1; clear hr hcz bel1)
    have H0 := Gat.nil .i32 21 w1
    obtain ⟨B, hB⟩ : ∃ B, w1.heap.size = B := ⟨_, rfl⟩
    rw [hB] at H0 hb1
    have HB : Hid (_ = B) := hB
    clear hB
    go_loopw [8, 9] (fun v i wr => ∃ k : Nat, k ≤ n ∧ i = .int .i64 k ∧ Gat .i32 21 B v (UN.take k) w1 wr) (fun _ i _ => n - (intOf i).toNat)
    case atStart => exact ⟨0, by omega, rfl, by simpa using H0⟩
    case round =>
      clear H0
      obtain ⟨k, hk, rfl, hG⟩ := hrel
      by_cases hlt : k < n
      · have hlt' : (k : Int) < n := by omega
        have hk2 : (k : Int) < N2 := by omega
        have e2 := HE2.out
        have cz := (cell_keep (hG.2.1.block b hb1)).trans (HCz.out k (by omega))
        have hown := hG.1
        have hsz := hG.size
        have hln : (UN.take k).length ≤ 1000 := by rw [List.length_take]; omega
        have hval := HLg.out k hlt
        rw [HQ0.out k, Int.zero_add] at hval
        have hstep : Hid (UN.take (k + 1) = UN.take k ++ [M.sat32 (UZ k)]) := by
          show _ = _
          rw [M.take_snoc (by rw [HLen.out]; exact hlt), hval]
        obtain ⟨z0, z1⟩ := HZb.out k
        have hss := rsat (UZ k) wr (by omega) (by omega)
        obtain ⟨y0, y1⟩ := M.sat32_bd (UZ k)
        have HG : Hid (Gat _ _ _ _ _ _ _) := hG
        clear hval hG e2
        generalize UZ k = z at *
        generalize M.sat32 z = y at *
        generalize UN.take k = YS at *
        go_wp2_with (first
          | (go_at_call 36; refine hss.mono ?_; clear hss; rintro e w' ⟨rfl, hw⟩; rw [hw]; clear hw w')
          | (at_builtin; refine wpList_append_own _ rfl (.tmp 28) (.tmp 37) 40 rfl B 21 i0 (.int .i32 0) 1 4 Tryd.underlying40 hi0 hz0 hz1 hz2 rfl (by decide) _ _ _ rfl (hown.alloc _) ⟨wr.heap.size, 0, none⟩ 1 1 [.int .i32 y] rfl rfl ?c1 ?c2 ?c3 ?c4 ?c5 ?_))
        case c1 => exact lit_one _ _ _
        case c2 => intro u hu; simp at hu; subst hu; rfl
        case c3 => unfold maxLen; omega
        case c4 => omega
        case c5 => simp; omega
        · intro v' w2 hown' hgrow _
          have R := HG.out.step hown' hgrow
          clear hown' hgrow hown HG
          go_wp2
          go_roundw
          case rel => exact ⟨k + 1, by omega, by go_num, by rw [hstep.out]; exact R⟩
          case measure => simp [intOf]; omega
      · obtain rfl : k = n := by omega
        rw [List.take_of_length_le (by rw [HLen.out]; omega)] at hG
        have hr := hG.reads (fun z hz => wf32.2 (HLf.out z hz))
        obtain ⟨a, cp', rfl⟩ := hr.form
        rw [HLen.out] at hr ⊢
        have HR : Hid (Reads _ _ _ _ _ _) := hr
        have HBe : Hid (Below _ _ _) := hG.2.1
        clear hr hG
        go_wp2
        go_ret
        have sB := HB1.out.size
        have eB := HB.out
        exact ⟨a, cp', rfl, HR.out.mono (by omega) (Nat.le_refl _), HB1.out.trans (HBe.out.mono (by omega))⟩
  · have HQ3 : Hid _ := hq3
    have l0 : (0 : Int) < N2 := by omega
    clear hq3
    go_enter Tryd.func21, Tryd.ntmps21
    go_wp2_with (go_at_call 22; refine hback.mono ?_; clear hback; rintro e w1 ⟨b, off, cp, rfl, hr, bel1⟩; obtain ⟨hb1, hcz⟩ := HBk.out w1 b off cp hr; have HCz : Hid _ := hcz; have HB1 : Hid (Below _ _ _) := bel1; clear hr hcz bel1)
    have H0 := Gat.nil .i32 21 w1
    obtain ⟨B, hB⟩ : ∃ B, w1.heap.size = B := ⟨_, rfl⟩
    rw [hB] at H0 hb1
    have HB : Hid (_ = B) := hB
    clear hB
    go_loopw [8, 9] (fun v i wr => ∃ k : Nat, k ≤ n ∧ i = .int .i64 k ∧ Gat .i32 21 B v (UN.take k) w1 wr) (fun _ i _ => n - (intOf i).toNat)
    case atStart => exact ⟨0, by omega, rfl, by simpa using H0⟩
    case round =>
      clear H0
      obtain ⟨k, hk, rfl, hG⟩ := hrel
      by_cases hlt : k < n
      · have hlt' : (k : Int) < n := by omega
        have hk2 : (k : Int) < N2 := by omega
        have e2 := HE2.out
        have cz := (cell_keep (hG.2.1.block b hb1)).trans (HCz.out k (by omega))
        have sB1 := HB1.out.size
        have eB1 := HB.out
        have h2' := H2.out
        obtain ⟨p, hp⟩ : ∃ p, p = n + k := ⟨_, rfl⟩
        have hp' : (n : Int) + (k : Int) = (p : Int) := by omega
        have hp2 : (p : Int) < N2 := by omega
        have cq1 := (cell_keep (hG.2.1.block bq (by omega))).trans ((cell_keep (HB1.out.block bq (by omega))).trans (HQ3.out k hlt))
        rw [← hp] at cq1
        have hown := hG.1
        have hsz := hG.size
        have hln : (UN.take k).length ≤ 1000 := by rw [List.length_take]; omega
        have hval := HLg.out k hlt
        have hstep : Hid (UN.take (k + 1) = UN.take k ++ [M.sat32 (q.getD k 0 + UZ k)]) := by
          show _ = _
          rw [M.take_snoc (by rw [HLen.out]; exact hlt), hval]
        obtain ⟨z0, z1⟩ := HZb.out k
        obtain ⟨g0, g1⟩ := HQb.out k
        have hss := rsat (q.getD k 0 + UZ k) wr (by omega) (by omega)
        obtain ⟨y0, y1⟩ := M.sat32_bd (q.getD k 0 + UZ k)
        have HG : Hid (Gat _ _ _ _ _ _ _) := hG
        clear hval hG e2 hp sB1 eB1 h2'
        generalize UZ k = z at *
        generalize q.getD k 0 = qk at *
        generalize M.sat32 (qk + z) = y at *
        generalize UN.take k = YS at *
        go_wp2_with (first
          | (go_at_call 36; refine hss.mono ?_; clear hss; rintro e w' ⟨rfl, hw⟩; rw [hw]; clear hw w')
          | (at_builtin; refine wpList_append_own _ rfl (.tmp 28) (.tmp 37) 40 rfl B 21 i0 (.int .i32 0) 1 4 Tryd.underlying40 hi0 hz0 hz1 hz2 rfl (by decide) _ _ _ rfl (hown.alloc _) ⟨wr.heap.size, 0, none⟩ 1 1 [.int .i32 y] rfl rfl ?c1 ?c2 ?c3 ?c4 ?c5 ?_))
        case c1 => exact lit_one _ _ _
        case c2 => intro u hu; simp at hu; subst hu; rfl
        case c3 => unfold maxLen; omega
        case c4 => omega
        case c5 => simp; omega
        · intro v' w2 hown' hgrow _
          have R := HG.out.step hown' hgrow
          clear hown' hgrow hown HG
          go_wp2
          go_roundw
          case rel => exact ⟨k + 1, by omega, by go_num, by rw [hstep.out]; exact R⟩
          case measure => simp [intOf]; omega
      · obtain rfl : k = n := by omega
        rw [List.take_of_length_le (by rw [HLen.out]; omega)] at hG
        have hr := hG.reads (fun z hz => wf32.2 (HLf.out z hz))
        obtain ⟨a, cp', rfl⟩ := hr.form
        rw [HLen.out] at hr ⊢
        have HR : Hid (Reads _ _ _ _ _ _) := hr
        have HBe : Hid (Below _ _ _) := hG.2.1
        clear hr hG
        go_wp2
        go_ret
        have sB := HB1.out.size
        have eB := HB.out
        exact ⟨a, cp', rfl, HR.out.mono (by omega) (Nat.le_refl _), HB1.out.trans (HBe.out.mono (by omega))⟩

end Lapd
end Go.Proofs.YtjfhlaahgfdmnaaDoor
