/-
  Contracts of the sums over waves, of what is seen through the window, of an unlapper's numbers. Conditions: as told at each.
-/
import Derived.Test.YtjfhlaahgfdmnaaDoorLapdNew
namespace Go.Proofs.YtjfhlaahgfdmnaaDoor
set_option linter.unusedVariables false
open Go.RowKit
namespace Lapd
open Bank (Blk But)
open Poly (Reads enc enc_get enc_length enc_rep fit16 fit32 Fill make16 make32 reads_blk reads_own cell_keep below_but below_drewN below_drew alloc_size zeros16 zeros32)

set_option maxRecDepth 100000 in
set_option maxHeartbeats 1000000 in
theorem sum_any (n N8 p lo hi lo' hi' tc L : Nat) (ta : Option Addr) (fr st : Int) (vn : Value) (zs : List Int) (w : World) (hp : w.cell? ⟨p, 2, none⟩ = some (.slice ta N8 tc)) (ht : Reads .i16 lo hi w (.slice ta N8 tc) (M.cn n)) (hz : Reads .i32 lo' hi' w vn zs)
    (e8 : 8 * n = N8) (n0 : 1 ≤ n) (n1 : n ≤ 120) (f0 : 0 ≤ fr) (f1 : fr ≤ 1000000) (s0 : 0 ≤ st) (s1 : st ≤ 1000000) (hL : zs.length = L) (l0 : 0 < L) (l1 : L ≤ 240) :
    Calls Tryd.prog 33 #[.pointer (some ⟨p, 0, none⟩), vn, .int .i64 fr, .int .i64 st] w fun e w' => e = .returned (.int .i64 (M.rnd (M.sm zs (M.wf n fr st) L) 15)) ∧ ∃ m, w' = w.drewN m := by
  have hzf : M.fits32 zs := by obtain ⟨_, _, _, _, hw, _⟩ := hz; exact fit32.1 hw
  have hsb : ∀ k, k ≤ L → -18014398509481984 ≤ M.sm zs (M.wf n fr st) k ∧ M.sm zs (M.wf n fr st) k ≤ 18014398509481984 := by
    intro k hk
    have := M.sm_bd hzf (M.wf_bd n0 fr st) k
    omega
  obtain ⟨bt, ot, rfl, _, _, hct⟩ := ht.cell (by rw [M.cn_length]; omega)
  obtain ⟨an, cn', rfl⟩ := hz.form
  obtain ⟨bn, on, rfl, _, _, hcn⟩ := hz.cell (by omega)
  rw [hL] at hcn ⊢
  rw [M.cn_length, e8] at hct
  have hplace : ∀ k : Nat, ∃ q : Nat, M.pl N8 fr st k = (q : Int) ∧ q < N8 ∧ (M.cn n).getD q 0 = M.wf n fr st k := by
    intro k
    have b := M.pl_bd (N := (N8 : Int)) (by omega) fr st k
    refine ⟨(M.pl N8 fr st k).toNat, by omega, by omega, ?_⟩
    refine M.wf_get (by omega) ?_
    rw [e8]
    show _ = M.pl N8 fr st k
    omega
  have hst := fun k => M.pl_step (N := (N8 : Int)) (by omega) fr st k
  obtain ⟨T, hT⟩ : ∃ T, st % (N8 : Int) = T := ⟨_, rfl⟩
  have hT' : st.tmod (N8 : Int) = T := by rw [Int.tmod_eq_emod_of_nonneg s0]; exact hT
  have T0 : 0 ≤ T := by rw [← hT]; exact Int.emod_nonneg _ (by omega)
  have T1 : T < (N8 : Int) := by rw [← hT]; exact Int.emod_lt_of_pos _ (by omega)
  have hF' : fr.tmod (N8 : Int) = M.pl N8 fr st 0 := by rw [Int.tmod_eq_emod_of_nonneg f0, M.pl_zero]
  rw [hT] at hst
  have HT : Hid _ := hct
  have HN : Hid _ := hcn
  have HP : Hid _ := hplace
  have HSt : Hid _ := hst
  have HSb : Hid _ := hsb
  have HZ : Hid (M.fits32 zs) := hzf
  have b8 : (N8 : Int) ≤ 960 := by omega
  have b80 : (1 : Int) ≤ N8 := by omega
  have b8n : (N8 : Int) ≠ 0 := by omega
  have bL : (L : Int) ≤ 240 := by omega
  have hb0 : Hid (∀ k, -32767 ≤ M.wf n fr st k ∧ M.wf n fr st k ≤ 32767) := M.wf_bd n0 fr st
  generalize hplf : M.pl (N8 : Int) fr st = PL at *
  generalize hsmf : M.sm zs (M.wf n fr st) = SM at *
  have hSM0 : SM 0 = 0 := by rw [← hsmf]; rfl
  have HSM : Hid (∀ k, SM (k + 1) = SM k + zs.getD k 0 * M.wf n fr st k) := by intro k; rw [← hsmf]; rfl
  clear hct hcn hplace hst hsb ht hz hT hplf hsmf hzf e8 n0 n1 s0 s1 f0 f1
  go_enter Tryd.func33, Tryd.ntmps33
  go_wp2
  go_quiet (fail)
  go_wp2
  go_loopw [2, 10, 26] (fun f s i wr => ∃ k : Nat, k ≤ L ∧ i = .int .i64 k ∧ f = .int .i64 (PL k) ∧ s = .int .i64 (SM k) ∧ ∃ m, wr = w.drewN m) (fun _ _ i _ => L - (intOf i).toNat)
  case atStart => exact ⟨0, by omega, rfl, rfl, by rw [hSM0], _, rfl⟩
  case round =>
    clear hF' hSM0
    obtain ⟨k, hk, rfl, rfl, rfl, m, rfl⟩ := hrel
    by_cases hlt : k < L
    · have hlt' : (k : Int) < L := by omega
      obtain ⟨q, hq, hq1, hq2⟩ := HP.out k
      have c1 := HT.out q hq1
      rw [hq2] at c1
      have c2 := HN.out k hlt
      have hz := M.get_bd HZ.out (by decide) (by decide) k
      have hy := hb0.out k
      have hzy := M.mul_bd (zs.getD k 0) (M.wf n fr st k) 2147483648 32767 (by omega) (by omega) (by omega) (by omega)
      have hs := HSb.out k (by omega)
      have hnext := HSM.out k
      have hstp := HSt.out k
      have hq1' : (q : Int) < N8 := by omega
      generalize zs.getD k 0 = z at *
      generalize M.wf n fr st k = y at *
      have HNx : Hid (SM (k + 1) = _) := hnext
      obtain ⟨S', hS'⟩ : ∃ S', SM k = S' := ⟨_, rfl⟩
      obtain ⟨z0, z1⟩ := hz
      obtain ⟨y0, y1⟩ := hy
      obtain ⟨zy0, zy1⟩ := hzy
      obtain ⟨g0, g1⟩ := hs
      rw [hS'] at g0 g1 HNx
      rw [hq] at hstp
      rw [hS', hq]
      clear hnext hq2 hq hS'
      rcases hstp with ⟨h1, h2⟩ | ⟨h1, h2⟩
      · have HN2 : Hid (PL (k + 1) = _) := h2
        clear h2
        have h1' : ¬ (N8 : Int) ≤ (q : Int) + T := by omega
        go_wp2
        go_roundw
        case rel => exact ⟨k + 1, by omega, by go_num, by rw [HN2.out], by rw [HNx.out], _, rfl⟩
        case measure => simp [intOf]; omega
      · have HN2 : Hid (PL (k + 1) = _) := h2
        clear h2
        go_wp2
        go_roundw
        case rel => exact ⟨k + 1, by omega, by go_num, by rw [HN2.out], by rw [HNx.out], _, rfl⟩
        case measure => simp [intOf]; omega
    · obtain rfl : k = L := by omega
      obtain ⟨g0, g1⟩ := HSb.out k (Nat.le_refl _)
      go_wp2_with (go_at_call 47; refine (Round_any _ _ _ (by omega) (by omega)).mono ?_; rintro e w' ⟨rfl, q, rfl⟩)
      go_ret
      exact ⟨rfl, _, rfl⟩

end Lapd
end Go.Proofs.YtjfhlaahgfdmnaaDoor
