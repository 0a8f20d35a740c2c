/-
  Contract of the document's Put for layer 7 (psalteryref07). Conditions: the coder and the table stand in memory as told.
-/
import Derived.Test.YtknolfpjhfpfaaaArithRefC
namespace Go.Proofs.Ytknolfpjhfpfaaa
set_option linter.unusedVariables false
open Go.RowKit
namespace Ari
open Bits (Blk But add_at wrap_id bytesL)
open Num (Ints)

/-- the document's coder in block m: its state -/
def RCodAt (w : World) (m N : Nat) (c : M.Cod) (en : Bool) : Prop := RCdr w m N c.L (c.H - c.L + 1) c.o c.l en

theorem rPut_state (m N : Nat) (c : M.Cod) (a : Option Addr) (l k : Nat) (s : Int) (w : World) (h : RCodAt w m N c true) :
    Calls Try.prog 15 #[.pointer (some ⟨m, 0, none⟩), .slice a l k, .int .i64 s] w fun e w' => e = .returned (.int .i64 250) ∧ w' = w := by
  obtain ⟨c0, c1, c2, c3, _, fr⟩ := RCdr.cells h
  go_enter Try.func15, Try.ntmps15
  go_wp2
  go_ret
  exact ⟨rfl, rfl⟩

theorem rPut_arg (m N : Nat) (c : M.Cod) (v : Value) (t : List Int) (s : Int) (w : World) (h : RCodAt w m N c false) (hv : Ints w v t) (hl : t.length ≤ 65536) (hbad : ¬ (M.Tab t ∧ 0 ≤ s ∧ s < t.length)) :
    Calls Try.prog 15 #[.pointer (some ⟨m, 0, none⟩), v, .int .i64 s] w fun e w' => e = .returned (.int .i64 1) ∧ w' = w := by
  obtain ⟨c0, c1, c2, c3, _, fr⟩ := RCdr.cells h
  have hC := Total_any v t w hv hl
  obtain ⟨a, k, rfl, hk⟩ := hv.form
  by_cases ht : M.Tab t
  · rw [show totT t = t.sum from if_pos ht] at hC
    obtain ⟨_, f1, f2, f3⟩ := ht.flo_le (s := 0) (by omega)
    have t2 := ht.1
    obtain ⟨n, hn⟩ : ∃ n, n = t.sum := ⟨_, rfl⟩
    rw [← hn] at hC f1 f2 f3
    have n0 : ¬ n = 0 := by omega
    clear hn f1
    by_cases h0 : s < 0
    · go_enter Try.func15, Try.ntmps15
      go_wp2_with (go_at_call 13; refine hC.mono ?_; rintro e w' ⟨rfl, rfl⟩)
      go_ret
      exact ⟨rfl, rfl⟩
    · have h1 : (t.length : Int) ≤ s := by
        rcases Int.lt_or_le s t.length with h | h
        · exact absurd ⟨ht, by omega, h⟩ hbad
        · exact h
      go_enter Try.func15, Try.ntmps15
      go_wp2_with (go_at_call 13; refine hC.mono ?_; rintro e w' ⟨rfl, rfl⟩)
      go_ret
      exact ⟨rfl, rfl⟩
  · rw [show totT t = 0 from if_neg ht] at hC
    go_enter Try.func15, Try.ntmps15
    go_wp2_with (go_at_call 13; refine hC.mono ?_; rintro e w' ⟨rfl, rfl⟩)
    go_ret
    exact ⟨rfl, rfl⟩

/-- one doubling of the document's coder -/
theorem rc_dbl {w2 : World} {m N : Nat} {d : M.Cod} {en : Bool} {X E o : Int} {ol : Nat} {ll : List Bool} (h : RCdr w2 m N X E ol ll en) (hX : X = (d.L - M.less d.L d.H) * 2) (hE : E = (d.H - d.L + 1) * 2) (ho : ol = (d.settle (M.less d.L d.H)).o) (hl : ll = (d.settle (M.less d.L d.H)).l) :
    RCodAt w2 m N d.dbl en := by
  unfold RCodAt
  have e0 : d.dbl.L = X := by rw [hX]; show 2 * (d.L - M.less d.L d.H) = _; omega
  have e1 : d.dbl.H - d.dbl.L + 1 = E := by rw [hE]; show 2 * (d.H - M.less d.L d.H) + 1 - 2 * (d.L - M.less d.L d.H) + 1 = _; omega
  rw [e1, e0]
  subst ho hl
  exact h

set_option maxRecDepth 100000 in
set_option maxHeartbeats 2000000 in
theorem rPut_ok (m N S : Nat) (c : M.Cod) (v : Value) (t : List Int) (w : World) (h : RCodAt w m N c false) (hc : c.Good) (hDD : c.D ≤ 39000) (hv : Ints w v t) (ht : M.Tab t) (s1 : S < t.length) :
    Calls Try.prog 15 #[.pointer (some ⟨m, 0, none⟩), v, .int .i64 S] w fun y w' => y = .returned (.int .i64 0) ∧ Kept m 3 N w w' ∧ RCodAt w' m N (c.put t S) false := by
  have hC := Total_any v t w hv (by have := ht.2.1; omega)
  rw [show totT t = t.sum from if_pos ht] at hC
  have hFl := fun s w (h : Ints w v t) hs => Floor_any v t s w h ht hs
  obtain ⟨c0, c1, c2, c3, _, frz⟩ := RCdr.cells h
  obtain ⟨hok, hw4⟩ := hc.nar ht s1
  have hw := (M.wide_of hc.done).1
  obtain ⟨p0, p1, p2⟩ := M.part_bounds ht hw s1
  have l0 := hc.low; have l1 := hc.le; have l3 := hc.high
  have t2 := ht.1
  have t32 := ht.2.1
  have hput : c.put t S = (c.nar t S).wid 16 := rfl
  rw [hput]
  clear hput
  have hnar : c.nar t S = ⟨c.L + M.part (c.H - c.L + 1) (M.flo t S) t.sum, c.L + M.part (c.H - c.L + 1) (M.flo t (S + 1)) t.sum - 1, c.o, c.l⟩ := rfl
  obtain ⟨R, hR⟩ : ∃ R, R = c.nar t S := ⟨_, rfl⟩
  rw [← hR] at hok hnar ⊢
  have hFS := flo_tab ht S (by omega)
  have hFS1 := flo_tab ht (S + 1) (by omega)
  obtain ⟨_, f1, f2, f3⟩ := ht.flo_le (s := 0) (by omega)
  clear hR hw4
  obtain ⟨a, kk, rfl, hkk⟩ := hv.form
  obtain ⟨L, hL⟩ : ∃ L, L = c.L := ⟨_, rfl⟩
  obtain ⟨W, hW⟩ : ∃ W, W = c.H - c.L + 1 := ⟨_, rfl⟩
  obtain ⟨n, hn⟩ : ∃ n, n = t.sum := ⟨_, rfl⟩
  have h' : RCdr w m N L W c.o c.l false := by rw [hL, hW]; exact h
  have hN1 : R.L = L + W * M.flo t S / n := by rw [hnar, hL, hW, hn]; rfl
  have hN2 : R.H - R.L + 1 = W * M.flo t (S + 1) / n - W * M.flo t S / n := by rw [hnar, hW, hn]; show c.L + M.part _ _ _ - 1 - (c.L + M.part _ _ _) + 1 = _; unfold M.part; omega
  have hN3 : R.o = c.o := by rw [hnar]
  have hN4 : R.l = c.l := by rw [hnar]
  have W0 : 16386 ≤ W := by omega
  have W1 : W ≤ 65536 := by omega
  have L0 : 0 ≤ L := by omega
  have L1 : L + W ≤ 65536 := by omega
  unfold M.part at p0 p1 p2
  rw [← hW, ← hn] at p0 p1 p2
  rw [← hn] at hC f1 f2 f3
  rw [← hL] at c0
  rw [← hW] at c1
  clear hnar hL hW hn l0 l1 l3 hw h
  have n0 : ¬ n = 0 := by omega
  have hF1 := fun q => hFl S (w.drewN q) (hv.drewN q) (by omega)
  have hF2 := fun q => hFl (S + 1) (w.drewN q) (hv.drewN q) (by omega)
  rw [show ((S + 1 : Nat) : Int) = (S : Int) + 1 by omega] at hF2
  obtain ⟨F, hF⟩ : ∃ F, F = M.flo t S := ⟨_, rfl⟩
  obtain ⟨G, hG⟩ : ∃ G, G = M.flo t (S + 1) := ⟨_, rfl⟩
  rw [← hF] at hF1 hFS p0 p1 hN1 hN2
  rw [← hG] at hF2 hFS1 p1 p2 hN2
  have m3 : 0 ≤ W * F := Int.mul_nonneg (by omega) hFS.1
  have m4 : W * F ≤ 268435456 := by
    have : W * F ≤ 65536 * 4096 := Int.mul_le_mul (by omega) hFS.2 hFS.1 (by omega)
    omega
  have m5 : 0 ≤ W * G := Int.mul_nonneg (by omega) hFS1.1
  have m6 : W * G ≤ 268435456 := by
    have : W * G ≤ 65536 * 4096 := Int.mul_le_mul (by omega) hFS1.2 hFS1.1 (by omega)
    omega
  have d2 : (W * F).tdiv n = W * F / n := Int.tdiv_eq_ediv_of_nonneg m3
  have d3 : (W * G).tdiv n = W * G / n := Int.tdiv_eq_ediv_of_nonneg m5
  obtain ⟨Q, hQ⟩ : ∃ Q, Q = W * F / n := ⟨_, rfl⟩
  obtain ⟨P, hP⟩ : ∃ P, P = W * G / n := ⟨_, rfl⟩
  rw [← hQ] at d2 p0 p1 hN1 hN2
  rw [← hP] at d3 p1 p2 hN2
  clear hQ hP hF hG hFl
  have fr0 := frz 0
  have fr1 := frz 1
  have i1 : ¬ (S : Int) < 0 := by omega
  have nz : (n == 0) = false := by simpa using n0
  have i3 : decide (t.length ≤ S) = false := decide_eq_false (by omega)
  have i4 : decide ((S : Int) < 0) = false := decide_eq_false (by omega)
  have hs1 : Hid (S < t.length) := s1
  have S31 : S ≤ 31 := by omega
  clear s1 n0 i1
  have hN : Hid (R.L = L + Q ∧ R.H - R.L + 1 = P - Q ∧ R.o = c.o ∧ R.l = c.l) := ⟨hN1, hN2, hN3, hN4⟩
  clear hN1 hN2 hN3 hN4
  go_enter Try.func15, Try.ntmps15
  go_wp2_with (go_at_call 13; refine hC.mono ?_; clear hC; rintro e w' ⟨rfl, hw⟩; rw [hw]; clear hw w')
  go_quiet (first | (go_at_call 32; exact Calls.quiet_of_same (hF1 _)))
  go_wp2
  go_quiet (first | (go_at_call 32; exact (hF2 _).mono fun e w' h => ⟨h.1, _, h.2⟩))
  go_wp2
  obtain ⟨hN1, hN2, hN3, hN4⟩ : R.L = L + Q ∧ R.H - R.L + 1 = P - Q ∧ R.o = c.o ∧ R.l = c.l := hN
  try simp only [nz, i3, i4]
  go_loopw [64] (fun _ wr => ∃ (k i : Nat) (d : M.Cod), d.Ok ∧ R.wid 16 = d.wid k ∧ k + i = 16 ∧ d.D = c.D + i ∧ 65536 ≤ d.W * 2 ^ k ∧ Kept m 3 N w wr ∧ RCodAt wr m N d false) (fun _ wr => 65536 - (intOf ((wr.cell? ⟨m, 1, none⟩).getD undef)).toNat)
  case atStart =>
    refine ⟨16, 0, R, hok, rfl, rfl, ?_, by have := hok.W_pos; omega, (((Kept.refl m 3 N w).drewN _).set 0 _).set 1 _, ?_⟩
    · unfold M.Cod.D; rw [hN3, hN4]; omega
    · unfold RCodAt
      rw [hN2, hN3, hN4, hN1]
      exact ((RCdr.drewN h' _).low _).wide _
  case round =>
    obtain ⟨k, i, d, hd, hwid, hki, hdr, hWk, Kr, hR⟩ := hrel
    obtain ⟨e0, e1, e2, e3, ⟨a4, k4, e4⟩, efz⟩ := RCdr.cells hR
    have u0 := hd.low; have u1 := hd.le; have u3 := hd.high
    clear hN1 hN2 hN3 hN4 c0 c1 c2 c3 frz fr0 fr1 hF1 hF2 h' d2 d3 m3 m4 m5 m6 p0 p1 p2 hFS hFS1 f1 f2 f3 W0 W1 L0 L1 nz i3 i4
    cases hm : M.more d.L d.H with
    | true =>
      have hcs := less_cases3 hm hd.low hd.high hd.le
      have hok' := hd.dbl hm
      have hsm := hd.small hm
      have hk0 : k ≠ 0 := fun e => by subst e; rw [Int.pow_zero, Int.mul_one] at hWk; omega
      obtain ⟨k', rfl⟩ : ∃ k', k = k' + 1 := ⟨k - 1, by omega⟩
      have hwid2 : R.wid 16 = d.dbl.wid k' := by rw [hwid, M.Cod.wid_more k' hm]
      have hdW := M.Cod.Ok.dbl_W (c := d)
      have hW2 : 65536 ≤ d.dbl.W * 2 ^ k' := by rw [hdW, Int.mul_comm 2, Int.mul_assoc, Int.mul_comm 2, ← Int.pow_succ]; exact hWk
      have hdr2 : d.dbl.D = c.D + (i + 1) := by rw [M.Cod.dbl_D]; omega
      have hfin := fun w2 X E ol ll h hX hE ho hl => rc_dbl (w2 := w2) (m := m) (N := N) (d := d) (en := false) (X := X) (E := E) (o := 0) (ol := ol) (ll := ll) h hX hE ho hl
      have hso := congrArg M.Cod.o (show d.settle (M.less d.L d.H) = _ from rfl)
      have hdo : d.l.length + d.o ≤ 40000 := by have : d.l.length + d.o = c.D + i := hdr; omega
      have hset0 : d.settle 0 = d.tell false := rfl
      have hset1 : d.settle 32768 = d.tell true := rfl
      have hset2 : d.settle 16384 = ⟨d.L, d.H, d.o + 1, d.l⟩ := rfl
      clear hso
      obtain ⟨dd, hdd⟩ : ∃ dd, dd = d.dbl := ⟨_, rfl⟩
      rw [← hdd] at hok' hwid2 hW2 hdr2 hfin
      obtain ⟨D, hD⟩ : ∃ D, D = d.L := ⟨_, rfl⟩
      obtain ⟨E, hE⟩ : ∃ E, E = d.H - d.L + 1 := ⟨_, rfl⟩
      obtain ⟨X, hX⟩ : ∃ X, X = M.less d.L d.H := ⟨_, rfl⟩
      have hT := fun x y w' h hy => rtell_any m N D E d.o d.l false x y w' h (by omega) hy
      rw [← hX] at hcs hfin
      rw [← hE] at hfin
      rw [← hD] at hcs e0 hfin
      rw [← hE] at e1
      have hR' : RCdr wr m N D E d.o d.l false := by rw [hD, hE]; exact hR
      have hHE : d.H = D + E - 1 := by omega
      rw [hHE] at hcs
      have D0 : 0 ≤ D := by omega
      have E0 : 1 ≤ E := by omega
      have E1 : E ≤ 32768 := by have : d.W = E := hE.symm; omega
      have D1 : D ≤ 65535 := by omega
      have o1 : d.o ≤ 40000 := by omega
      clear hdd hD hE hX hHE hdW hWk hwid hR u0 u1 u3 hsm
      have g0 := efz 0
      have g1 := efz 1
      have g2 := efz 2
      rcases hcs with ⟨rfl, hA⟩ | ⟨rfl, hA⟩ | ⟨rfl, hA, hA', hA2, hA3⟩
      · have i1 : D + E ≤ 32768 := by omega
        rw [hset0] at hfin
        go_wp2
        go_quiet (fail)
        go_wp2_with (go_at_call 33; refine (hT false 0 _ (by exact RCdr.drewN hR' _) rfl).mono ?_; clear hT; rintro e w1 ⟨rfl, K1, C1⟩; obtain ⟨b0, b1, b2, b3, _, bfz⟩ := RCdr.cells C1; have z0 := bfz 0; have z1 := bfz 1)
        go_roundw
        case rel => exact ⟨k', i + 1, dd, hok', hwid2, by omega, hdr2, hW2, ((Kr.trans (Kept.of_drewN K1)).set 0 _).set 1 _, hfin _ _ _ _ _ ((C1.low _).wide _) (by omega) rfl rfl rfl⟩
        case measure =>
          rw [((C1.low (D * 2)).wide (E * 2)).cells.2.1, e1]; simp [intOf]; omega
      · have i1 : ¬ D + E ≤ 32768 := by omega
        have i2 : 32768 ≤ D := by omega
        rw [hset1] at hfin
        go_wp2
        go_quiet (fail)
        go_wp2_with (go_at_call 33; refine (hT true 1 _ (by exact RCdr.drewN hR' _) rfl).mono ?_; clear hT; rintro e w1 ⟨rfl, K1, C1⟩; obtain ⟨b0, b1, b2, b3, _, bfz⟩ := RCdr.cells C1; have z0 := bfz 0; have z1 := bfz 1)
        go_roundw
        case rel => exact ⟨k', i + 1, dd, hok', hwid2, by omega, hdr2, hW2, (((Kr.trans (Kept.of_drewN K1)).set 0 _).set 0 _).set 1 _, hfin _ _ _ _ _ (((C1.low _).low _).wide _) (by omega) rfl rfl rfl⟩
        case measure =>
          rw [(((C1.low (D - 32768)).low ((D - 32768) * 2)).wide (E * 2)).cells.2.1, e1]; simp [intOf]; omega
      · have i1 : ¬ D + E ≤ 32768 := by omega
        have i2 : ¬ 32768 ≤ D := by omega
        have i3 : D + E ≤ 49152 := by omega
        rw [hset2] at hfin
        clear hT
        go_wp2
        go_quiet (fail)
        go_wp2
        go_quiet (fail)
        go_wp2
        go_roundw
        case rel => exact ⟨k', i + 1, dd, hok', hwid2, by omega, hdr2, hW2, ((((Kr.drewN _).set 2 _).set 0 _).set 0 _).set 1 _, hfin _ _ _ _ _ ((((((RCdr.drewN hR' _).owe _ (d.o + 1) (by omega)).low _).low _).wide _)) (by omega) rfl rfl rfl⟩
        case measure =>
          rw [(((((RCdr.drewN hR' _).owe ((d.o : Int) + 1) (d.o + 1) (by omega)).low (D - 16384)).low ((D - 16384) * 2)).wide (E * 2)).cells.2.1, e1]; simp [intOf]; omega
    | false =>
      have hmf := M.wide_of hm
      rw [M.Cod.wid_less k hm] at hwid
      rw [← hwid] at hR
      have hLH : d.H = d.L + (d.H - d.L + 1) - 1 := by omega
      obtain ⟨E, hE⟩ : ∃ E, E = d.H - d.L + 1 := ⟨_, rfl⟩
      obtain ⟨D, hD⟩ : ∃ D, D = d.L := ⟨_, rfl⟩
      rw [← hE] at hLH e1
      rw [hLH, ← hD] at hmf
      rw [← hD] at e0
      obtain ⟨a1, a2, a3, a4'⟩ := hmf
      have i1 : ¬ D + E ≤ 32768 := by omega
      have i2 : ¬ 32768 ≤ D := by omega
      have D0 : 0 ≤ D := by omega
      have E0 : E ≤ 65536 := by omega
      clear hwid hE hD hLH u0 u1 u3
      by_cases hq : 16384 ≤ D
      · have i3 : ¬ D + E ≤ 49152 := by omega
        clear a4'
        go_wp2
        go_quiet (fail)
        go_wp2
        go_quiet (fail)
        go_wp2
        go_ret
        exact ⟨rfl, (Kr.drewN _).drewN _, hR⟩
      · have i3 : decide (16384 ≤ D) = false := decide_eq_false hq
        clear a4'
        go_wp2
        go_quiet (fail)
        go_wp2
        go_quiet (fail)
        go_wp2
        go_ret
        exact ⟨rfl, (Kr.drewN _).drewN _, hR⟩

theorem rPut_any (m N : Nat) (c : M.Cod) (en : Bool) (v : Value) (t : List Int) (s : Int) (w : World) (h : RCodAt w m N c en) (hc : c.Good) (hD : c.D ≤ 39000) (hv : Ints w v t) (hl : t.length ≤ 65536) :
    Calls Try.prog 15 #[.pointer (some ⟨m, 0, none⟩), v, .int .i64 s] w fun e w' => e = .returned (.int .i64 (putE en t s)) ∧ Kept m 3 N w w' ∧ RCodAt w' m N (putC c en t s) en := by
  unfold putC
  cases en with
  | true =>
    have e : putE true t s = 250 := rfl
    rw [e, if_neg (by omega)]
    obtain ⟨a, k, rfl, hk⟩ := hv.form
    exact (rPut_state m N c a _ k s w h).mono fun e w' ⟨he, hw⟩ => ⟨he, by rw [hw]; exact Kept.refl _ _ _ _, by rw [hw]; exact h⟩
  | false =>
    by_cases hg : M.Tab t ∧ 0 ≤ s ∧ s < t.length
    · have e : putE false t s = 0 := by unfold putE; rw [if_neg (by simp), if_pos hg]
      rw [e, if_pos rfl]
      obtain ⟨n, rfl⟩ := Int.eq_ofNat_of_zero_le hg.2.1
      exact rPut_ok m N n c v t w h hc hD hv hg.1 (by omega)
    · have e : putE false t s = 1 := by unfold putE; rw [if_neg (by simp), if_neg hg]
      rw [e, if_neg (by omega)]
      exact (rPut_arg m N c v t s w h hv hl hg).mono fun e w' ⟨he, hw⟩ => ⟨he, by rw [hw]; exact Kept.refl _ _ _ _, by rw [hw]; exact h⟩

end Ari
end Go.Proofs.Ytknolfpjhfpfaaa
