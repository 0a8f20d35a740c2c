/-
  Contracts of an unlapper's numbers. Conditions: as told at each.
-/
import Derived.Test.YtjfhlaahgfdmnaaDoorLapdSum
namespace Go.Proofs.YtjfhlaahgfdmnaaDoor
set_option linter.unusedVariables false
open Go.RowKit
namespace Lapd
open Bank (Blk But)
open Poly (Reads enc enc_get enc_length enc_rep fit16 fit32 Fill make16 make32 reads_blk reads_own cell_keep below_but below_drewN below_drew alloc_size zeros16 zeros32)

theorem floor_any (a b : Int) (w : World) (ha : -9000000000000000000 ≤ a) (hb : a ≤ 9000000000000000000) (b0 : 1 ≤ b) (b1 : b ≤ 1000) :
    Calls Tryd.prog 51 #[.int .i64 a, .int .i64 b] w fun e w' => e = .returned (.int .i64 (a / b)) ∧ w' = w := by
  have hd := M.tdiv_bd (a := a) (A := 9000000000000000000) (b := b) (by omega) (by omega)
  have bn : b ≠ 0 := by omega
  rcases Int.lt_or_le (a.tmod b) 0 with h | h
  · have e := Ref.tdiv_floor a b (by omega) h
    obtain ⟨q, hq⟩ : ∃ q, a.tdiv b = q := ⟨_, rfl⟩
    obtain ⟨r, hr⟩ : ∃ r, a.tmod b = r := ⟨_, rfl⟩
    rw [hq] at e hd
    rw [← e]
    rw [hr] at h
    obtain ⟨q0, q1⟩ := hd
    clear e
    have hne : ¬ a = -9223372036854775808 := by omega
    go_enter Tryd.func51, Tryd.ntmps51
    go_wp2
    go_ret
    exact ⟨rfl, rfl⟩
  · have e := Ref.tdiv_plain a b (by omega) h
    obtain ⟨q, hq⟩ : ∃ q, a.tdiv b = q := ⟨_, rfl⟩
    obtain ⟨r, hr⟩ : ∃ r, a.tmod b = r := ⟨_, rfl⟩
    rw [hq] at e hd
    rw [← e]
    rw [hr] at h
    obtain ⟨q0, q1⟩ := hd
    clear e
    go_enter Tryd.func51, Tryd.ntmps51
    go_wp2
    go_ret
    exact ⟨rfl, rfl⟩

set_option maxRecDepth 100000 in
set_option maxHeartbeats 1000000 in
/-- an unlapper's number at place j -/
theorem number_any (n N2 N8 lo gl lo' hi' j : Nat) (o c : List Int) (vc : Value) (w : World) (h : Unl lo gl n o w) (hc : Reads .i32 lo' hi' w vc c) (hcl : c.length = n) (e2 : 2 * n = N2) (e8 : 8 * n = N8) (n0 : 2 ≤ n) (n1 : n ≤ 120) (hj : j < N2) :
    Calls Tryd.prog 38 #[.pointer (some ⟨gl + 1, 0, none⟩), vc, .int .i64 j] w fun e w' => e = .returned (.int .i32 (M.uz n c j)) ∧ ∃ m, w' = w.drewN m := by
  obtain ⟨g0, g1, g2, g3, g4, wa, wc, ta, tc, g5, g6, g7⟩ := h
  have hcf : M.fits32 c := by obtain ⟨_, _, _, _, hw, _⟩ := hc; exact fit32.1 hw
  rw [e2] at g5 g6
  rw [e8] at g5 g7
  obtain ⟨bw, ow, rfl, p0, p1, hcw⟩ := g6.cell (by rw [M.wns_length]; omega)
  rw [M.wns_length] at hcw
  have d0 := g5.cell (o := 0) rfl
  have d1 := g5.cell (o := 1) rfl
  have d2 := g5.cell (o := 2) rfl
  have dw := hcw j (by omega)
  rw [M.wns_get (by omega)] at dw
  obtain ⟨va, vb⟩ := M.wn_bd n j n0
  obtain ⟨far, hfar⟩ : ∃ far : Int, 2 * (j : Int) + 1 + n = far := ⟨_, rfl⟩
  have f0 : 0 ≤ far := by omega
  have f1 : far ≤ 1000 := by omega
  have hsum : Calls Tryd.prog 33 #[.pointer (some ⟨gl + 1, 0, none⟩), vc, .int .i64 far, .int .i64 (2 * far)] w fun e w' => e = .returned (.int .i64 (M.uv n c j)) ∧ (∃ m, w' = w.drewN m) ∧ w'.cell? ⟨gl + 1, 1, none⟩ = some (.slice (some ⟨bw, ow, none⟩) N2 wc) ∧ w'.cell? ⟨bw, ow + j, none⟩ = some (.int .i16 (M.wn n j)) := by
    refine (sum_any n N8 (gl + 1) lo gl lo' hi' tc n ta far (2 * far) vc c w d2 g7 hc e8 (by omega) n1 f0 (by omega) (by omega) (by omega) hcl (by omega) (by omega)).mono ?_
    rintro e w' ⟨rfl, q, rfl⟩
    refine ⟨?_, ⟨q, rfl⟩, d1, dw⟩
    unfold M.uv
    rw [hfar]
  have hv := M.sm_bd hcf (M.wf_bd (n := n) (by omega) far (2 * far)) n
  have hvb : -9000000000000000 ≤ M.uv n c j ∧ M.uv n c j ≤ 9000000000000000 := by
    unfold M.uv
    rw [hfar]
    exact M.rnd15_bd (by omega) (by omega) (by omega)
  obtain ⟨v0, v1⟩ := hvb
  have huy : M.uy n c j = M.sat32 ((2 * M.uv n c j + ((n / 2 : Nat) : Int)) / n) := rfl
  have huz : M.uz n c j = M.sat32 (M.rnd (M.uy n c j * M.wn n j) 15) := rfl
  obtain ⟨y0, y1⟩ : -2147483648 ≤ M.uy n c j ∧ M.uy n c j ≤ 2147483647 := M.sat32_bd _
  have hdb := M.tdiv_bd (a := 2 * M.uv n c j + ((n / 2 : Nat) : Int)) (A := 90000000000000000) (b := n) (by omega) (by omega)
  obtain ⟨Nh, hNh⟩ : ∃ Nh : Nat, n / 2 = Nh := ⟨_, rfl⟩
  rw [hNh] at huy
  have ih : (n : Int).tdiv 2 = (Nh : Int) := by rw [Int.tdiv_eq_ediv_of_nonneg (by omega)]; omega
  have ih' : (n : Int) / 2 = (Nh : Int) := by omega
  have bh : (Nh : Int) ≤ 60 := by omega
  have b1 : (n : Int) ≤ 120 := by omega
  have b0 : (2 : Int) ≤ n := by omega
  have bj : (j : Int) < N2 := by omega
  have bN : (N2 : Int) ≤ 240 := by omega
  have hfb : ∀ V : Int, -9000000000000000 ≤ V → V ≤ 9000000000000000 → -90000000000000000 ≤ (2 * V + (Nh : Int)) / n ∧ (2 * V + (Nh : Int)) / n ≤ 90000000000000000 := by
    intro V h0 h1
    refine ⟨?_, ?_⟩
    · exact Int.le_ediv_of_mul_le (by omega) (by
        have : (-90000000000000000 : Int) * n ≤ -90000000000000000 * 1 := Int.mul_le_mul_of_nonpos_left (by omega) (by omega)
        omega)
    · have := Int.ediv_le_ediv (c := (n : Int)) (by omega) (show 2 * V + (Nh : Int) ≤ 90000000000000000 by omega)
      have h2 : (90000000000000000 : Int) / n ≤ 90000000000000000 := Int.ediv_le_self _ (by omega)
      omega
  obtain ⟨q0, q1⟩ := hfb _ v0 v1
  have hfl : ∀ wx, Calls Tryd.prog 51 #[.int .i64 (2 * M.uv n c j + (Nh : Int)), .int .i64 n] wx fun e w' => e = .returned (.int .i64 ((2 * M.uv n c j + (Nh : Int)) / n)) ∧ w' = wx := fun wx => floor_any _ _ wx (by omega) (by omega) (by omega) (by omega)
  have hs32 : ∀ wx, Calls Tryd.prog 32 #[.int .i64 ((2 * M.uv n c j + (Nh : Int)) / n)] wx fun e w' => e = .returned (.int .i32 (M.uy n c j)) ∧ w' = wx := fun wx => by rw [huy]; exact Sat32_any _ wx (by omega) (by omega)
  have hmul : ∀ wx, Calls Tryd.prog 45 #[.int .i32 (M.uy n c j), .int .i16 (M.wn n j)] wx fun e w' => e = .returned (.int .i32 (M.uz n c j)) ∧ ∃ m, w' = wx.drewN m := fun wx => by rw [huz]; exact Mul15_any _ _ wx ⟨y0, y1⟩ ⟨by omega, by omega⟩
  obtain ⟨ac, cc, rfl⟩ := hc.form
  rw [hcl] at hsum ⊢
  clear huy huz hfb hv hcf hdb hNh hc hcw g0 g1 g2 g3 g4 g5 g6 g7 p0 p1
  generalize (2 * M.uv n c j + (Nh : Int)) / n = Q at *
  generalize M.uv n c j = V at *
  generalize M.uy n c j = Y at *
  generalize M.uz n c j = Z at *
  generalize M.wn n j = wj at *
  go_enter Tryd.func38, Tryd.ntmps38
  go_wp2_with (first
    | (go_at_call 33; refine hsum.mono ?_; clear hsum; rintro e w2 ⟨rfl, hw2, k1, kw⟩; have HW2 : Hid _ := hw2; clear hw2)
    | (go_at_call 51; refine (hfl _).mono ?_; clear hfl; rintro e w' ⟨rfl, hw⟩; rw [hw]; clear hw w'))
  go_quiet (first
    | (go_at_call 32; exact Calls.quiet_of_same (hs32 _))
    | (go_at_call 45; exact Calls.quiet_of (hmul _)))
  go_wp2
  go_ret
  obtain ⟨m, rfl⟩ := HW2.out
  exact ⟨rfl, _, World.drewN_drewN _ _ _⟩

end Lapd
end Go.Proofs.YtjfhlaahgfdmnaaDoor
