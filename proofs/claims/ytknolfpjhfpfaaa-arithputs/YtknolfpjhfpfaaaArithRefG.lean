/-
  Contract of the document's Get for layer 7 (psalteryref07). Conditions: the finder, its bits and the table stand in memory as told.
-/
import Derived.Test.YtknolfpjhfpfaaaArithRefF
namespace Go.Proofs.Ytknolfpjhfpfaaa
set_option linter.unusedVariables false
open Go.RowKit
namespace Ari
open Bits (Blk But add_at wrap_id bytesL)
open Num (Ints)

theorem less_cases3 {L H : Int} (h : M.more L H = true) (h0 : 0 ≤ L) (h1 : H ≤ 65535) (h2 : L ≤ H) :
    (M.less L H = 0 ∧ H < 32768) ∨ (M.less L H = 32768 ∧ 32768 ≤ L) ∨ (M.less L H = 16384 ∧ 16384 ≤ L ∧ H < 49152 ∧ 32768 ≤ H ∧ L < 32768) := by
  have h := of_decide_eq_true h
  unfold M.less
  split
  · next h3 => exact .inl ⟨rfl, h3⟩
  · split
    · next h3 => exact .inr (.inl ⟨rfl, h3⟩)
    · rw [if_pos (by omega)]; exact .inr (.inr ⟨rfl, by omega⟩)

theorem rGet_arg (f : Nat) (v : Value) (t : List Int) (w : World) (hv : Ints w v t) (hl : t.length ≤ 65536) (ht : ¬ M.Tab t) :
    Calls Try.prog 26 #[.pointer (some ⟨f, 0, none⟩), v] w fun e w' => e = .returned (.tuple #[.int .i64 0, .int .i64 1]) ∧ w' = w := by
  have hC := Total_any v t w hv hl
  rw [show totT t = 0 from if_neg ht] at hC
  obtain ⟨a, k, rfl, hk⟩ := hv.form
  go_enter Try.func26, Try.ntmps26
  go_wp2_with (go_at_call 13; refine hC.mono ?_; rintro e w' ⟨rfl, rfl⟩)
  go_ret2
  exact ⟨rfl, rfl⟩

/-- one doubling of the document's finder -/
theorem rf_dbl {w2 : World} {f fr : Nat} {s : Value} {d : M.Fnd} {B : Nat → Bool} {Y : Int} (h : RF w2 f ((d.L - M.less d.L d.H) * 2) ((d.H - d.L + 1) * 2) (d.V - d.L) s (fr + d.r + 1) (d.r + 1)) (hY : Y = ((d.V - d.L) * 2 + ((B (fr + d.r)).toNat : Int))) :
    RFndAt (w2.setCell ⟨f, 2, none⟩ (.int .i64 Y)) f s fr (d.dbl (from_ B fr)) := by
  have := Blk.set h 2 (.int .i64 Y)
  unfold RFndAt
  have e0 : (d.dbl (from_ B fr)).L = (d.L - M.less d.L d.H) * 2 := by show 2 * (d.L - M.less d.L d.H) = _; omega
  have e1 : (d.dbl (from_ B fr)).H - (d.dbl (from_ B fr)).L + 1 = (d.H - d.L + 1) * 2 := by show 2 * (d.H - M.less d.L d.H) + 1 - 2 * (d.L - M.less d.L d.H) + 1 = _; omega
  have e2 : (d.dbl (from_ B fr)).V - (d.dbl (from_ B fr)).L = Y := by rw [hY]; show 2 * (d.V - M.less d.L d.H) + ((B (fr + d.r)).toNat : Int) - 2 * (d.L - M.less d.L d.H) = _; omega
  rw [e1, e2, e0]
  exact this
theorem RBits.drew {w : World} {s : Value} {B : Nat → Bool} (h : RBits w s B) : RBits w.drew s B := h

set_option maxRecDepth 100000 in
set_option maxHeartbeats 8000000 in
theorem rGet_ok (f fr : Nat) (s v : Value) (x : M.Fnd) (t : List Int) (B : Nat → Bool) (w : World) (h : RFndAt w f s fr x) (hs : ∀ w', But f f w w' → RBits w' s B) (hx : x.Good) (hfr : fr ≤ 1048576) (hr : x.r ≤ 900000) (hv : Ints w v t) (ht : M.Tab t) :
    Calls Try.prog 26 #[.pointer (some ⟨f, 0, none⟩), v] w fun y w' => y = .returned (.tuple #[.int .i64 (x.sym t : Nat), .int .i64 0]) ∧ But f f w w' ∧ RFndAt w' f s fr (x.get (from_ B fr) t) := by
  have hC := Total_any v t w hv (by have := ht.2.1; omega)
  rw [show totT t = t.sum from if_pos ht] at hC
  have hFl := fun s w (h : Ints w v t) hs => Floor_any v t s w h ht hs
  obtain ⟨c0, c1, c2, c3, c4, c5, frz⟩ := RF.cells h
  obtain ⟨s1, s2, s3⟩ := hx.sym ht
  obtain ⟨k0, k1⟩ := hx.key ht
  obtain ⟨hok, hw4⟩ := hx.nar ht
  have hw := (M.wide_of hx.done).1
  obtain ⟨p0, p1, p2⟩ := M.part_bounds ht hw s1
  have l0 := hx.low; have l1 := hx.le; have l2 := hx.up; have l3 := hx.high
  have t2 := ht.1
  have t32 := ht.2.1
  have hget : x.get (from_ B fr) t = (x.nar t (x.sym t)).wid (from_ B fr) 16 := rfl
  rw [hget]
  clear hget
  have hnar : x.nar t (x.sym t) = ⟨x.L + M.part (x.H - x.L + 1) (M.flo t (x.sym t)) t.sum, x.L + M.part (x.H - x.L + 1) (M.flo t (x.sym t + 1)) t.sum - 1, x.V, x.r⟩ := rfl
  obtain ⟨N, hN⟩ : ∃ N, N = x.nar t (x.sym t) := ⟨_, rfl⟩
  rw [← hN] at hok hnar ⊢
  have hkey : x.key t = ((x.V - x.L + 1) * t.sum - 1) / (x.H - x.L + 1) := rfl
  obtain ⟨S, hS⟩ : ∃ S, S = x.sym t := ⟨_, rfl⟩
  rw [← hS] at s1 s2 s3 p0 p1 p2 hnar ⊢
  obtain ⟨K, hK⟩ : ∃ K, K = x.key t := ⟨_, rfl⟩
  rw [← hK] at s2 s3 k0 k1 hkey
  have hlow := flo_tab ht
  have hFS := hlow S (by omega)
  have hFS1 := hlow (S + 1) (by omega)
  have hmono := fun j d hd => M.flo_mono ht.2.2.1 d j hd
  obtain ⟨_, f1, f2, f3⟩ := ht.flo_le (s := 0) (by omega)
  clear hN hS hK hw4
  have hnt : ∀ (L W V : Int) (n r : Nat) w', RF w' f L W V s n r → w'.cell? ⟨f, 0, none⟩ = some (.int .i64 L) := fun _ _ _ _ _ w' hw => hw.cells.1
  obtain ⟨a, kk, rfl, hkk⟩ := hv.form
  have hs' := hs
  obtain ⟨sl, hsI, hsl, hsB⟩ := hs w (But.refl _ _ _)
  clear hs
  obtain ⟨sa, sc, rfl, hsc⟩ := hsI.form
  obtain ⟨ll, hll⟩ : ∃ ll, ll = (sl.map fun b => ((b.toNat : Nat) : Int)).length := ⟨_, rfl⟩
  rw [← hll] at hs' h c3 ⊢
  clear hsI hsB hll hsc
  obtain ⟨L, hL⟩ : ∃ L, L = x.L := ⟨_, rfl⟩
  obtain ⟨W, hW⟩ : ∃ W, W = x.H - x.L + 1 := ⟨_, rfl⟩
  obtain ⟨V, hV⟩ : ∃ V, V = x.V - x.L := ⟨_, rfl⟩
  obtain ⟨n, hn⟩ : ∃ n, n = t.sum := ⟨_, rfl⟩
  have h' : RF w f L W V (.slice sa ll sc) (fr + x.r) x.r := by rw [hL, hW, hV]; exact h
  have hkey' : K = ((V + 1) * n - 1) / W := by rw [hkey, hV, hW, hn]
  have hN1 : N.L = L + W * M.flo t S / n := by rw [hnar, hL, hW, hn]; rfl
  have hN2 : N.H - N.L + 1 = W * M.flo t (S + 1) / n - W * M.flo t S / n := by rw [hnar, hW, hn]; show x.L + M.part _ _ _ - 1 - (x.L + M.part _ _ _) + 1 = _; unfold M.part; omega
  have hN3 : N.V - N.L = V - W * M.flo t S / n := by rw [hnar, hV, hW, hn]; show x.V - (x.L + M.part _ _ _) = _; unfold M.part; omega
  have hN4 : N.r = x.r := by rw [hnar]
  have V0 : 0 ≤ V := by omega
  have V1 : V + 1 ≤ W := by omega
  have W0 : 16386 ≤ W := by omega
  have W1 : W ≤ 65536 := by omega
  have L0 : 0 ≤ L := by omega
  have L1 : L + W ≤ 65536 := by omega
  unfold M.part at p0 p1 p2
  rw [← hW, ← hn] at p0 p1
  rw [← hW, ← hn] at p2
  rw [← hn] at hC f1 f2 f3 k1
  rw [← hL] at c0
  rw [← hW] at c1
  rw [← hV] at c2
  clear hnar hkey hL hW hV hn l0 l1 l2 l3 hw h
  have m1 : 1 ≤ (V + 1) * n := by
    have := Int.mul_le_mul (show (1 : Int) ≤ V + 1 by omega) (show (1 : Int) ≤ n by omega) (by omega) (by omega)
    omega
  have m2 : (V + 1) * n ≤ 268435456 := by
    have : (V + 1) * n ≤ 65536 * 4096 := Int.mul_le_mul (by omega) (by omega) (by omega) (by omega)
    omega
  have d1 : ((V + 1) * n - 1).tdiv W = K := by rw [hkey']; exact Int.tdiv_eq_ediv_of_nonneg (by omega)
  have W2 : ¬ W = 0 := by omega
  have n0 : ¬ n = 0 := by omega
  have K1 : K ≤ 4096 := by omega
  clear hkey'
  have hF1 := fun m => hFl S (w.drewN m) (hv.drewN m) (by omega)
  have hF2 := fun m => hFl (S + 1) (w.drewN m) (hv.drewN m) (by omega)
  rw [show ((S + 1 : Nat) : Int) = (S : Int) + 1 by omega] at hF2
  obtain ⟨F, hF⟩ : ∃ F, F = M.flo t S := ⟨_, rfl⟩
  obtain ⟨G, hG⟩ : ∃ G, G = M.flo t (S + 1) := ⟨_, rfl⟩
  rw [← hF] at hF1 hFS p0 p1 hN1 hN2 hN3
  rw [← hG] at hF2 hFS1 p1 p2 hN2
  have hFK : F ≤ K := by rw [hF]; exact s2
  have hKG : K < G := by rw [hG]; exact s3
  have hbel : ∀ j, j < S → M.flo t (j + 1) ≤ K := fun j hj => by
    have := hmono (j + 1) (S - (j + 1)) (by omega)
    rw [show j + 1 + (S - (j + 1)) = S by omega] at this
    omega
  have m3 : 0 ≤ W * F := Int.mul_nonneg (by omega) hFS.1
  have m4 : W * F ≤ 268435456 := by
    have : W * F ≤ 65536 * 4096 := Int.mul_le_mul (by omega) hFS.2 hFS.1 (by omega)
    omega
  have m5 : 0 ≤ W * G := Int.mul_nonneg (by omega) hFS1.1
  have m6 : W * G ≤ 268435456 := by
    have : W * G ≤ 65536 * 4096 := Int.mul_le_mul (by omega) hFS1.2 hFS1.1 (by omega)
    omega
  have d2 : (W * F).tdiv n = W * F / n := Int.tdiv_eq_ediv_of_nonneg m3
  have d3 : (W * G).tdiv n = W * G / n := Int.tdiv_eq_ediv_of_nonneg m5
  obtain ⟨Q, hQ⟩ : ∃ Q, Q = W * F / n := ⟨_, rfl⟩
  obtain ⟨P, hP⟩ : ∃ P, P = W * G / n := ⟨_, rfl⟩
  rw [← hQ] at d2 p0 p1 hN1 hN2 hN3
  rw [← hP] at d3 p1 p2 hN2
  have hGH : Hid (G = M.flo t (S + 1)) := hG
  clear hQ hP s2 s3 hmono hlow hF hG hnt
  have hVQ : Q ≤ V := by have := hok.le; omega
  have fr0 := frz 0
  have fr1 := frz 1
  have fr2 := frz 2
  have hN : Hid (N.L = L + Q ∧ N.H - N.L + 1 = P - Q ∧ N.V - N.L = V - Q ∧ N.r = x.r) := ⟨hN1, hN2, hN3, hN4⟩
  clear hN1 hN2 hN3 hN4
  go_enter Try.func26, Try.ntmps26
  go_wp2_with (go_at_call 13; refine hC.mono ?_; clear hC; rintro e w' ⟨rfl, hw⟩; rw [hw]; clear hw w')
  go_quiet (fail)
  go_wp2
  rw [show (n == 0) = false by simpa using n0]
  go_loopw [8] (fun q wr => ∃ j : Nat, j ≤ S ∧ q = .int .i64 j ∧ wr = w.drewN nq) (fun q _ => S - (intOf q).toNat)
  case atStart => exact ⟨0, by omega, rfl, rfl⟩
  case round =>
    obtain ⟨j, hj, rfl, rfl⟩ := hrel
    have hFj := hFl (j + 1) (w.drewN nq) (hv.drewN nq) (by omega)
    rw [show ((j + 1 : Nat) : Int) = (j : Int) + 1 by omega] at hFj
    by_cases hlt : j < S
    · have q1 := hbel j hlt
      obtain ⟨Y, hY⟩ : ∃ Y, Y = M.flo t (j + 1) := ⟨_, rfl⟩
      rw [← hY] at hFj q1
      clear hY hbel hF1 hF2 hFl
      go_wp2_with (go_at_call 32; refine hFj.mono ?_; clear hFj; rintro e w' ⟨rfl, hw⟩; rw [hw]; clear hw w')
      go_roundw
      case rel => exact ⟨j + 1, by omega, by go_num, by first | rfl | trivial⟩
      case measure => simp [intOf]; omega
    · obtain rfl : j = S := by omega
      rw [← show G = _ from hGH] at hFj
      have q1 : ¬ G ≤ K := by omega
      clear hbel hFl
      go_wp2_with (go_at_call 32; refine hFj.mono ?_; clear hFj; rintro e w' ⟨rfl, hw⟩; rw [hw]; clear hw w')
      go_quiet (first | (go_at_call 32; exact (hF1 _).mono fun e w' h => ⟨h.1, _, h.2⟩))
      go_wp2
      go_quiet (first | (go_at_call 32; exact (hF2 _).mono fun e w' h => ⟨h.1, _, h.2⟩))
      go_wp2
      rw [show decide (G ≤ K) = false from decide_eq_false (by omega)]
      obtain ⟨hN1, hN2, hN3, hN4⟩ : N.L = L + Q ∧ N.H - N.L + 1 = P - Q ∧ N.V - N.L = V - Q ∧ N.r = x.r := hN
      go_loopw [81] (fun _ wr => ∃ (k i : Nat) (d : M.Fnd), d.Ok ∧ N.wid (from_ B fr) 16 = d.wid (from_ B fr) k ∧ k + i = 16 ∧ d.r = x.r + i ∧ 65536 ≤ d.W * 2 ^ k ∧ But f f w wr ∧ RFndAt wr f (.slice sa ll sc) fr d) (fun _ wr => 65536 - (intOf ((wr.cell? ⟨f, 1, none⟩).getD undef)).toNat)
      case atStart =>
        refine ⟨16, 0, N, hok, rfl, rfl, hN4, by have := hok.W_pos; omega, ((((But.refl f f w).drewN _).set (a := ⟨f, 0, none⟩) (.inl rfl) _).set (a := ⟨f, 2, none⟩) (.inl rfl) _).set (a := ⟨f, 1, none⟩) (.inl rfl) _, ?_⟩
        unfold RFndAt
        rw [hN1, ← hN1, hN2, hN3, hN4, hN1]
        exact (((Blk.drewN h' _).set 0 _).set 2 _).set 1 _
      case round =>
        obtain ⟨k, i, d, hd, hwid, hki, hdr, hWk, btr, hR⟩ := hrel
        obtain ⟨e0, e1, e2, e3, e4, e5, efz⟩ := RF.cells hR
        have u0 := hd.low; have u1 := hd.le; have u2 := hd.up; have u3 := hd.high
        clear hN1 hN2 hN3 hN4 c0 c1 c2 c3 c4 c5 frz fr0 fr1 fr2 q1 hF1 hF2 h' hGH d1 d2 d3 m1 m2 m3 m4 m5 m6 hVQ p0 p1 p2 hFS hFS1 hFK hKG f1 f2 f3 V0 V1 W0 W1 L0 L1 k0 k1 K1 W2 n0
        cases hm : M.more d.L d.H with
        | true =>
          have hcs := less_cases3 hm hd.low hd.high (Int.le_trans hd.le hd.up)
          have hok' := hd.dbl hm (from_ B fr)
          have hsm := hd.small hm
          have hk0 : k ≠ 0 := fun e => by subst e; rw [Int.pow_zero, Int.mul_one] at hWk; omega
          obtain ⟨k', rfl⟩ : ∃ k', k = k' + 1 := ⟨k - 1, by omega⟩
          have hwid2 : N.wid (from_ B fr) 16 = (d.dbl (from_ B fr)).wid (from_ B fr) k' := by rw [hwid, M.Fnd.wid_more _ k' hm]
          have hdW := M.Fnd.dbl_W (from_ B fr) d
          have hW2 : 65536 ≤ (d.dbl (from_ B fr)).W * 2 ^ k' := by rw [hdW, Int.mul_comm 2, Int.mul_assoc, Int.mul_comm 2, ← Int.pow_succ]; exact hWk
          have hdr2 : (d.dbl (from_ B fr)).r = x.r + (i + 1) := by show d.r + 1 = _; omega
          have hfin := fun w2 Y h hY => rf_dbl (w2 := w2) (f := f) (fr := fr) (s := .slice sa ll sc) (d := d) (B := B) (Y := Y) h hY
          obtain ⟨dd, hdd⟩ : ∃ dd, dd = d.dbl (from_ B fr) := ⟨_, rfl⟩
          rw [← hdd] at hok' hwid2 hW2 hdr2 hfin
          obtain ⟨D, hD⟩ : ∃ D, D = d.L := ⟨_, rfl⟩
          obtain ⟨E, hE⟩ : ∃ E, E = d.H - d.L + 1 := ⟨_, rfl⟩
          obtain ⟨U, hU⟩ : ∃ U, U = d.V - d.L := ⟨_, rfl⟩
          obtain ⟨X, hX⟩ : ∃ X, X = M.less d.L d.H := ⟨_, rfl⟩
          obtain ⟨y, hy⟩ : ∃ y, y = (B (fr + d.r)).toNat := ⟨_, rfl⟩
          have hbit := fun L' W' w' h hs => rbit_any f (fr + d.r) d.r L' W' U (.slice sa ll sc) B w' h hs (by omega) (by omega)
          have hy1 := Bool.toNat_le (B (fr + d.r))
          rw [← hy] at hbit hy1 hfin
          rw [← hX] at hcs hfin
          rw [← hE, ← hU] at hfin
          rw [← hD] at hcs e0 hfin
          rw [← hE] at e1
          rw [← hU] at e2
          have hR' : RF wr f D E U (.slice sa ll sc) (fr + d.r) d.r := by rw [hD, hE, hU]; exact hR
          have hHE : d.H = D + E - 1 := by omega
          rw [hHE] at hcs
          have D0 : 0 ≤ D := by omega
          have E0 : 1 ≤ E := by omega
          have E1 : E ≤ 32768 := by have : d.W = E := hE.symm; omega
          have U0 : 0 ≤ U := by omega
          have U1 : U ≤ 32768 := by omega
          have D1 : D ≤ 65535 := by omega
          have h6 : ∀ L' W' w', RF w' f L' W' U (.slice sa ll sc) (fr + d.r + 1) (d.r + 1) → w'.cell? ⟨f, 2, none⟩ = some (.int .i64 U) ∧ w'.frozen? ⟨f, 2, none⟩ = false := fun L' W' w' hw => ⟨hw.cells.2.2.1, hw.cells.2.2.2.2.2.2 2⟩
          clear hdd hD hE hU hX hy hHE hdW hWk hwid hR u0 u1 u2 u3 hsm
          have g0 := efz 0
          have g1 := efz 1
          have g2 := efz 2
          have q1 : IntKind.i64.wrap (U * 2) = U * 2 := wrap_id _ (by omega) (by omega)
          have q2 : IntKind.i64.wrap (U * 2 + (y : Int)) = U * 2 + (y : Int) := wrap_id _ (by omega) (by omega)
          rcases hcs with ⟨rfl, hA⟩ | ⟨rfl, hA⟩ | ⟨rfl, hA, hA', hA2, hA3⟩
          · have i1 : D + E ≤ 32768 := by omega
            rw [show D - 0 = D by omega] at hfin
            go_wp2
            go_quiet (fail)
            go_wp2
            go_region_with (go_at_call 40; refine (hbit (D * 2) (E * 2) _ (by exact ((((Blk.drewN hR' _).set 0 _).set 0 _).set 1 _).drew) (by exact hs' _ ((((btr.drewN _).set (a := ⟨f, 0, none⟩) (.inl rfl) _).set (a := ⟨f, 0, none⟩) (.inl rfl) _).set (a := ⟨f, 1, none⟩) (.inl rfl) _).drew)).mono ?_; clear hbit; rintro e w2 ⟨rfl, b2, h2⟩; obtain ⟨d2, gz2⟩ := h6 _ _ _ h2)
            all_goals (
              go_wp2
              go_roundw
              case rel => exact ⟨k', i + 1, dd, hok', hwid2, by omega, hdr2, hW2, ((((((btr.drewN _).set (a := ⟨f, 0, none⟩) (.inl rfl) _).set (a := ⟨f, 0, none⟩) (.inl rfl) _).set (a := ⟨f, 1, none⟩) (.inl rfl) _).drew).trans b2).set (a := ⟨f, 2, none⟩) (.inl rfl) _, hfin w2 _ h2 rfl⟩
              case measure =>
                have e6 := Blk.cell (Blk.set h2 2 (.int .i64 (U * 2 + (y : Int)))) (o := 1) rfl
                rw [e6, e1]; simp [intOf]; omega)
          · have i1 : ¬ D + E ≤ 32768 := by omega
            have i2 : 32768 ≤ D := by omega
            go_wp2
            go_quiet (fail)
            go_wp2
            go_region_with (go_at_call 40; refine (hbit ((D - 32768) * 2) (E * 2) _ (by exact ((((Blk.drewN hR' _).set 0 _).set 0 _).set 1 _).drew) (by exact hs' _ ((((btr.drewN _).set (a := ⟨f, 0, none⟩) (.inl rfl) _).set (a := ⟨f, 0, none⟩) (.inl rfl) _).set (a := ⟨f, 1, none⟩) (.inl rfl) _).drew)).mono ?_; clear hbit; rintro e w2 ⟨rfl, b2, h2⟩; obtain ⟨d2, gz2⟩ := h6 _ _ _ h2)
            all_goals (
              go_wp2
              go_roundw
              case rel => exact ⟨k', i + 1, dd, hok', hwid2, by omega, hdr2, hW2, ((((((btr.drewN _).set (a := ⟨f, 0, none⟩) (.inl rfl) _).set (a := ⟨f, 0, none⟩) (.inl rfl) _).set (a := ⟨f, 1, none⟩) (.inl rfl) _).drew).trans b2).set (a := ⟨f, 2, none⟩) (.inl rfl) _, hfin w2 _ h2 rfl⟩
              case measure =>
                have e6 := Blk.cell (Blk.set h2 2 (.int .i64 (U * 2 + (y : Int)))) (o := 1) rfl
                rw [e6, e1]; simp [intOf]; omega)
          · have i1 : ¬ D + E ≤ 32768 := by omega
            have i2 : ¬ 32768 ≤ D := by omega
            have i3 : D + E ≤ 49152 := by omega
            go_wp2
            go_quiet (fail)
            go_wp2
            go_quiet (fail)
            go_wp2
            go_region_with (go_at_call 40; refine (hbit ((D - 16384) * 2) (E * 2) _ (by exact ((((Blk.drewN hR' _).set 0 _).set 0 _).set 1 _).drew) (by exact hs' _ ((((btr.drewN _).set (a := ⟨f, 0, none⟩) (.inl rfl) _).set (a := ⟨f, 0, none⟩) (.inl rfl) _).set (a := ⟨f, 1, none⟩) (.inl rfl) _).drew)).mono ?_; clear hbit; rintro e w2 ⟨rfl, b2, h2⟩; obtain ⟨d2, gz2⟩ := h6 _ _ _ h2)
            all_goals (
              go_wp2
              go_roundw
              case rel => exact ⟨k', i + 1, dd, hok', hwid2, by omega, hdr2, hW2, ((((((btr.drewN _).set (a := ⟨f, 0, none⟩) (.inl rfl) _).set (a := ⟨f, 0, none⟩) (.inl rfl) _).set (a := ⟨f, 1, none⟩) (.inl rfl) _).drew).trans b2).set (a := ⟨f, 2, none⟩) (.inl rfl) _, hfin w2 _ h2 rfl⟩
              case measure =>
                have e6 := Blk.cell (Blk.set h2 2 (.int .i64 (U * 2 + (y : Int)))) (o := 1) rfl
                rw [e6, e1]; simp [intOf]; omega)
        | false =>
          have hmf := M.wide_of hm
          rw [M.Fnd.wid_less _ k hm] at hwid
          rw [← hwid] at hR
          have hLH : d.H = d.L + (d.H - d.L + 1) - 1 := by omega
          obtain ⟨E, hE⟩ : ∃ E, E = d.H - d.L + 1 := ⟨_, rfl⟩
          obtain ⟨D, hD⟩ : ∃ D, D = d.L := ⟨_, rfl⟩
          rw [← hE] at hLH e1
          rw [hLH, ← hD] at hmf
          rw [← hD] at e0
          obtain ⟨a1, a2, a3, a4⟩ := hmf
          have i1 : ¬ D + E ≤ 32768 := by omega
          have i2 : ¬ 32768 ≤ D := by omega
          have D0 : 0 ≤ D := by omega
          have E0 : E ≤ 65536 := by omega
          clear hwid hE hD hLH u0 u1 u2 u3
          by_cases hq : 16384 ≤ D
          · have i3 : ¬ D + E ≤ 49152 := by omega
            clear a4
            go_wp2
            go_quiet (fail)
            go_wp2
            go_quiet (fail)
            go_wp2
            go_ret2
            exact ⟨rfl, (btr.drewN _).drewN _, hR⟩
          · have i3 : decide (16384 ≤ D) = false := decide_eq_false hq
            clear a4
            go_wp2
            go_quiet (fail)
            go_wp2
            go_quiet (fail)
            go_wp2
            go_ret2
            exact ⟨rfl, (btr.drewN _).drewN _, hR⟩

theorem rGet_any (f fr : Nat) (s v : Value) (x : M.Fnd) (t : List Int) (B : Nat → Bool) (w : World) (h : RFndAt w f s fr x) (hs : ∀ w', But f f w w' → RBits w' s B) (hx : x.Good) (hfr : fr ≤ 1048576) (hr : x.r ≤ 900000) (hv : Ints w v t) (hl : t.length ≤ 65536) :
    Calls Try.prog 26 #[.pointer (some ⟨f, 0, none⟩), v] w fun y w' => y = .returned (.tuple #[.int .i64 (getS x t), .int .i64 (getE t)]) ∧ But f f w w' ∧ RFndAt w' f s fr (getX (from_ B fr) x t) := by
  unfold getE getS getX
  by_cases ht : M.Tab t
  · rw [if_pos ht, if_pos ht, if_pos ht]
    exact rGet_ok f fr s v x t B w h hs hx hfr hr hv ht
  · rw [if_neg ht, if_neg ht, if_neg ht]
    exact (rGet_arg f v t w hv hl ht).mono fun y w' ⟨hy, hw⟩ => ⟨hy, by rw [hw]; exact But.refl _ _ _, by rw [hw]; exact h⟩

end Ari
end Go.Proofs.Ytknolfpjhfpfaaa
