/-
  Contracts of the splitter's fold and the joiner's sample. Conditions: as told at each.
-/
import Derived.Test.YtkmkackifihhjaaDoorPolyWalks
namespace Go.Proofs.YtkmkackifihhjaaDoor
set_option linter.unusedVariables false
open Go.RowKit
namespace M
/-- the filter of m bands -/
def hs (m : Nat) : List Int := (List.range (10 * m)).map fun i : Nat => fil i m
theorem hs_length (m : Nat) : (hs m).length = 10 * m := by simp [hs]
theorem hs_get {m i : Nat} (h : i < 10 * m) : (hs m).getD i 0 = fil i m := by simp [hs, List.getD, h]
end M
namespace Poly
open Bank (Blk But)

theorem tmod2 {k : Nat} : (k : Int).tmod 2 = ((k % 2 : Nat) : Int) := by rw [Int.tmod_eq_emod]; split <;> omega

/-- what a splitter or a joiner is seen to have: cells of its block p -/
def Seen (m p lo hi : Nat) (vl : Value) (w : World) : Prop :=
  p < w.heap.size ∧ hi ≤ w.heap.size ∧ w.cell? ⟨p, 0, none⟩ = some (.int .i64 m) ∧ w.cell? ⟨p, 3, none⟩ = some vl ∧ ∃ vf, w.cell? ⟨p, 1, none⟩ = some vf ∧ Reads .i16 lo hi w vf (M.hs m)
theorem Seen.below {m p lo hi : Nat} {vl : Value} {w w' : World} (h : Seen m p lo hi vl w) (hb : Below w.heap.size w w') : Seen m p lo hi vl w' := by
  obtain ⟨h0, h1, h2, h3, vf, h4, h5⟩ := h
  have hs := hb.size
  exact ⟨by omega, by omega, (cell_keep (hb.block p h0)).trans h2, (cell_keep (hb.block p h0)).trans h3, vf, (cell_keep (hb.block p h0)).trans h4, h5.below hb h1⟩
theorem Seen.drewN {m p lo hi : Nat} {vl : Value} {w : World} (h : Seen m p lo hi vl w) (n : Nat) : Seen m p lo hi vl (w.drewN n) := h
theorem Seen.filter {m p lo hi : Nat} {vl : Value} {w : World} (h : Seen m p lo hi vl w) (hm : 1 ≤ m) : ∃ b off c, w.cell? ⟨p, 1, none⟩ = some (.slice (some ⟨b, off, none⟩) (10 * m) c) ∧ ∀ i, i < 10 * m → w.cell? ⟨b, off + i, none⟩ = some (.int .i16 (M.fil i m)) := by
  obtain ⟨h0, h1, h2, h3, vf, h4, h5⟩ := h
  obtain ⟨a, c, rfl⟩ := h5.form
  obtain ⟨b, off, rfl, _, _, hx⟩ := h5.cell (by rw [M.hs_length]; omega)
  rw [M.hs_length] at h4 hx
  exact ⟨b, off, c, h4, fun i hi => by rw [hx i hi, M.hs_get hi]⟩

set_option maxRecDepth 100000 in
set_option maxHeartbeats 2000000 in
theorem folded_4 (p gl lo hi : Nat) (xs : List Int) (w : World) (hS : Seen 4 p lo hi (.slice (some ⟨gl, 0, none⟩) 40 40) w)
    (hx : Blk w gl (enc .i16 xs).toArray 32) (hl : xs.length = 40) (hfit : M.fits16 xs) :
    Calls Tryd.prog 28 #[.pointer (some ⟨p, 0, none⟩)] w fun e w' => e = .returned (.slice (some ⟨w.heap.size, 0, none⟩) 8 8) ∧
      Blk w' w.heap.size (enc .i32 (M.ys 4 xs)).toArray 21 ∧ Below w.heap.size w w' ∧ w'.heap.size = w.heap.size + 1 := by
  have hmk : (Instr.makeSlice 33 (.int .i64 8) (.int .i64 8)).run Tryd.prog w = .ok (.slice (some ⟨w.heap.size, 0, none⟩) 8 8) (w.alloc (.cells (enc .i32 (List.replicate 8 0)).toArray 21)) := make32 w 8 (by omega)
  have hst : Fill .i32 21 w.heap.size 8 0 (fun j => M.sat32 (M.rnd (M.fo 4 xs j 5) 14)) (w.alloc (.cells (enc .i32 (List.replicate 8 0)).toArray 21)) := Fill.start (Blk.new w _ _)
  generalize (enc .i32 (List.replicate 8 0)).toArray = cs at hmk hst
  have c0 : w.cell? ⟨p, 0, none⟩ = some (.int .i64 4) := hS.2.2.1
  have HS : Hid (Seen _ _ _ _ _ _) := hS
  have HX : Hid (Blk _ _ _ _) := hx
  have HF : Hid (M.fits16 xs) := hfit
  have hlg := hx.lt
  clear hS hx hfit
  go_enter Tryd.func28, Tryd.ntmps28
  go_wp2
  go_loopw [18] (fun i wr => ∃ j : Nat, j ≤ 8 ∧ i = .int .i64 j ∧ Fill .i32 21 w.heap.size 8 j (fun j => M.sat32 (M.rnd (M.fo 4 xs j 5) 14)) wr ∧ Below w.heap.size w wr ∧ wr.heap.size = w.heap.size + 1) (fun i _ => 8 - (intOf i).toNat)
  case atStart => exact ⟨0, by omega, rfl, hst, (Below.refl _ _).alloc (Nat.le_refl _) _, by simp⟩
  case round =>
    obtain ⟨j, hj, rfl, hf, hbw, hsw⟩ := hrel
    clear hst hmk c0
    by_cases hlt : j < 8
    · have hlt' : (j : Int) < 8 := by omega
      have hS2 := Seen.below HS.out hbw
      have hx2 : Blk wr gl (enc .i16 xs).toArray 32 := (hbw.block gl hlg).trans HX.out
      obtain ⟨bf, of, cf, c1, hfil⟩ := hS2.filter (by omega)
      rw [show 10 * 4 = 40 from rfl] at c1 hfil
      have c0 : wr.cell? ⟨p, 0, none⟩ = some (.int .i64 4) := hS2.2.2.1
      have c3 := hS2.2.2.2.1
      have HFil : Hid (∀ i, i < 40 → wr.cell? ⟨bf, of + i, none⟩ = some (.int .i16 (M.fil i (4 : Nat)))) := hfil
      have HX2 : Hid (Blk _ _ _ _) := hx2
      obtain ⟨⟨u0, hu0⟩, hfz⟩ := hf.cell hlt
      clear hS2 hx2 hfil
      go_wp2
      go_loopw [21, 5] (fun i s w2 => ∃ k : Nat, k ≤ 5 ∧ i = .int .i64 k ∧ s = .int .i64 (M.fo 4 xs j k) ∧ ∃ mm, w2 = wr.drewN mm) (fun i _ _ => 5 - (intOf i).toNat)
      case atStart => exact ⟨0, by omega, rfl, rfl, 0, rfl⟩
      case round =>
        obtain ⟨k, hk, rfl, rfl, mm, rfl⟩ := hrel
        by_cases hk5 : k < 5
        · have hk5' : (k : Int) < 5 := by omega
          obtain ⟨ix, hix⟩ : ∃ ix, ix = j + 2 * 4 * k := ⟨_, rfl⟩
          have hix' : (j : Int) + (k : Int) * 8 = (ix : Int) := by omega
          have hb1 : (0 : Int) ≤ ix ∧ (ix : Int) < 40 := by omega
          have q1 : wr.cell? ⟨gl, ix, none⟩ = some (.int .i16 (xs.getD ix 0)) := Blk.cell HX2.out (by rw [List.getElem?_toArray]; exact enc_get (by omega))
          have q2 := HFil.out ix (by omega)
          have e0 := M.get_bd HF.out (by decide) (by decide) ix
          have e1 := M.fil_bd ix (4 : Nat)
          have e2 := M.mul_bd (xs.getD ix 0) (M.fil ix (4 : Nat)) 32768 32768 (by omega) (by omega) (by omega) (by omega)
          have d := M.fo_bd (m := 4) HF.out j k
          have S : Hid (M.fo 4 xs j (k + 1) = M.fo 4 xs j k + M.sgn false k (xs.getD ix 0 * M.fil ix (4 : Nat))) := by rw [hix]; exact rfl
          have d2 : -5368709120 ≤ M.fo 4 xs j k ∧ M.fo 4 xs j k ≤ 5368709120 := by omega
          clear d
          generalize M.fo 4 xs j k = cu at *
          generalize xs.getD ix 0 = x0 at *
          generalize M.fil ix (4 : Nat) = x1 at *
          rcases Nat.mod_two_eq_zero_or_one k with hp | hp
          · have ht : (k : Int).tmod 2 = 0 := by rw [tmod2, hp]; rfl
            have S2 : Hid (cu + -(x0 * x1) = M.fo 4 xs j (k + 1)) := by show _ = _; rw [S.out, (M.sgn_even hp).1]
            clear S hp hix
            go_wp2
            go_quiet (fail)
            go_wp2
            go_roundw
            case rel => exact ⟨k + 1, by omega, by go_num, by rw [← S2.out], _, rfl⟩
            case measure => simp [intOf]; omega
          · have ht : (k : Int).tmod 2 = 1 := by rw [tmod2, hp]; rfl
            have S2 : Hid (cu + x0 * x1 = M.fo 4 xs j (k + 1)) := by show _ = _; rw [S.out, (M.sgn_odd hp).1]
            clear S hp hix
            go_wp2
            go_quiet (fail)
            go_wp2
            go_roundw
            case rel => exact ⟨k + 1, by omega, by go_num, by rw [← S2.out], _, rfl⟩
            case measure => simp [intOf]; omega
        · obtain rfl : k = 5 := by omega
          have d := M.fo_bd (m := 4) HF.out j 5
          have hr := M.rnd_bd (M.fo 4 xs j 5) 14 (by omega) (by omega)
          go_wp2_with (first
            | (go_at_call 41; refine (Round_any _ _ _ (by omega) (by omega)).mono ?_; rintro e w' ⟨rfl, m, rfl⟩)
            | (go_at_call 40; refine (Sat32_any _ _ (by omega) (by omega)).mono ?_; rintro e w' ⟨rfl, rfl⟩))
          go_roundw
          case rel => exact ⟨j + 1, by omega, by go_num, (hf.drewN _).step hlt rfl, (below_drewN hbw _).setCell (Nat.le_refl _) _, by simpa [World.setCell] using hsw⟩
          case measure => simp [intOf]; omega
    · obtain rfl : j = 8 := by omega
      go_wp2
      go_ret
      exact ⟨rfl, hf.whole, hbw, hsw⟩

set_option maxRecDepth 100000 in
set_option maxHeartbeats 2000000 in
theorem folded_8 (p gl lo hi : Nat) (xs : List Int) (w : World) (hS : Seen 8 p lo hi (.slice (some ⟨gl, 0, none⟩) 80 80) w)
    (hx : Blk w gl (enc .i16 xs).toArray 32) (hl : xs.length = 80) (hfit : M.fits16 xs) :
    Calls Tryd.prog 28 #[.pointer (some ⟨p, 0, none⟩)] w fun e w' => e = .returned (.slice (some ⟨w.heap.size, 0, none⟩) 16 16) ∧
      Blk w' w.heap.size (enc .i32 (M.ys 8 xs)).toArray 21 ∧ Below w.heap.size w w' ∧ w'.heap.size = w.heap.size + 1 := by
  have hmk : (Instr.makeSlice 33 (.int .i64 16) (.int .i64 16)).run Tryd.prog w = .ok (.slice (some ⟨w.heap.size, 0, none⟩) 16 16) (w.alloc (.cells (enc .i32 (List.replicate 16 0)).toArray 21)) := make32 w 16 (by omega)
  have hst : Fill .i32 21 w.heap.size 16 0 (fun j => M.sat32 (M.rnd (M.fo 8 xs j 5) 14)) (w.alloc (.cells (enc .i32 (List.replicate 16 0)).toArray 21)) := Fill.start (Blk.new w _ _)
  generalize (enc .i32 (List.replicate 16 0)).toArray = cs at hmk hst
  have c0 : w.cell? ⟨p, 0, none⟩ = some (.int .i64 8) := hS.2.2.1
  have HS : Hid (Seen _ _ _ _ _ _) := hS
  have HX : Hid (Blk _ _ _ _) := hx
  have HF : Hid (M.fits16 xs) := hfit
  have hlg := hx.lt
  clear hS hx hfit
  go_enter Tryd.func28, Tryd.ntmps28
  go_wp2
  go_loopw [18] (fun i wr => ∃ j : Nat, j ≤ 16 ∧ i = .int .i64 j ∧ Fill .i32 21 w.heap.size 16 j (fun j => M.sat32 (M.rnd (M.fo 8 xs j 5) 14)) wr ∧ Below w.heap.size w wr ∧ wr.heap.size = w.heap.size + 1) (fun i _ => 16 - (intOf i).toNat)
  case atStart => exact ⟨0, by omega, rfl, hst, (Below.refl _ _).alloc (Nat.le_refl _) _, by simp⟩
  case round =>
    obtain ⟨j, hj, rfl, hf, hbw, hsw⟩ := hrel
    clear hst hmk c0
    by_cases hlt : j < 16
    · have hlt' : (j : Int) < 16 := by omega
      have hS2 := Seen.below HS.out hbw
      have hx2 : Blk wr gl (enc .i16 xs).toArray 32 := (hbw.block gl hlg).trans HX.out
      obtain ⟨bf, of, cf, c1, hfil⟩ := hS2.filter (by omega)
      rw [show 10 * 8 = 80 from rfl] at c1 hfil
      have c0 : wr.cell? ⟨p, 0, none⟩ = some (.int .i64 8) := hS2.2.2.1
      have c3 := hS2.2.2.2.1
      have HFil : Hid (∀ i, i < 80 → wr.cell? ⟨bf, of + i, none⟩ = some (.int .i16 (M.fil i (8 : Nat)))) := hfil
      have HX2 : Hid (Blk _ _ _ _) := hx2
      obtain ⟨⟨u0, hu0⟩, hfz⟩ := hf.cell hlt
      clear hS2 hx2 hfil
      go_wp2
      go_loopw [21, 5] (fun i s w2 => ∃ k : Nat, k ≤ 5 ∧ i = .int .i64 k ∧ s = .int .i64 (M.fo 8 xs j k) ∧ ∃ mm, w2 = wr.drewN mm) (fun i _ _ => 5 - (intOf i).toNat)
      case atStart => exact ⟨0, by omega, rfl, rfl, 0, rfl⟩
      case round =>
        obtain ⟨k, hk, rfl, rfl, mm, rfl⟩ := hrel
        by_cases hk5 : k < 5
        · have hk5' : (k : Int) < 5 := by omega
          obtain ⟨ix, hix⟩ : ∃ ix, ix = j + 2 * 8 * k := ⟨_, rfl⟩
          have hix' : (j : Int) + (k : Int) * 16 = (ix : Int) := by omega
          have hb1 : (0 : Int) ≤ ix ∧ (ix : Int) < 80 := by omega
          have q1 : wr.cell? ⟨gl, ix, none⟩ = some (.int .i16 (xs.getD ix 0)) := Blk.cell HX2.out (by rw [List.getElem?_toArray]; exact enc_get (by omega))
          have q2 := HFil.out ix (by omega)
          have e0 := M.get_bd HF.out (by decide) (by decide) ix
          have e1 := M.fil_bd ix (8 : Nat)
          have e2 := M.mul_bd (xs.getD ix 0) (M.fil ix (8 : Nat)) 32768 32768 (by omega) (by omega) (by omega) (by omega)
          have d := M.fo_bd (m := 8) HF.out j k
          have S : Hid (M.fo 8 xs j (k + 1) = M.fo 8 xs j k + M.sgn false k (xs.getD ix 0 * M.fil ix (8 : Nat))) := by rw [hix]; exact rfl
          have d2 : -5368709120 ≤ M.fo 8 xs j k ∧ M.fo 8 xs j k ≤ 5368709120 := by omega
          clear d
          generalize M.fo 8 xs j k = cu at *
          generalize xs.getD ix 0 = x0 at *
          generalize M.fil ix (8 : Nat) = x1 at *
          rcases Nat.mod_two_eq_zero_or_one k with hp | hp
          · have ht : (k : Int).tmod 2 = 0 := by rw [tmod2, hp]; rfl
            have S2 : Hid (cu + -(x0 * x1) = M.fo 8 xs j (k + 1)) := by show _ = _; rw [S.out, (M.sgn_even hp).1]
            clear S hp hix
            go_wp2
            go_quiet (fail)
            go_wp2
            go_roundw
            case rel => exact ⟨k + 1, by omega, by go_num, by rw [← S2.out], _, rfl⟩
            case measure => simp [intOf]; omega
          · have ht : (k : Int).tmod 2 = 1 := by rw [tmod2, hp]; rfl
            have S2 : Hid (cu + x0 * x1 = M.fo 8 xs j (k + 1)) := by show _ = _; rw [S.out, (M.sgn_odd hp).1]
            clear S hp hix
            go_wp2
            go_quiet (fail)
            go_wp2
            go_roundw
            case rel => exact ⟨k + 1, by omega, by go_num, by rw [← S2.out], _, rfl⟩
            case measure => simp [intOf]; omega
        · obtain rfl : k = 5 := by omega
          have d := M.fo_bd (m := 8) HF.out j 5
          have hr := M.rnd_bd (M.fo 8 xs j 5) 14 (by omega) (by omega)
          go_wp2_with (first
            | (go_at_call 41; refine (Round_any _ _ _ (by omega) (by omega)).mono ?_; rintro e w' ⟨rfl, m, rfl⟩)
            | (go_at_call 40; refine (Sat32_any _ _ (by omega) (by omega)).mono ?_; rintro e w' ⟨rfl, rfl⟩))
          go_roundw
          case rel => exact ⟨j + 1, by omega, by go_num, (hf.drewN _).step hlt rfl, (below_drewN hbw _).setCell (Nat.le_refl _) _, by simpa [World.setCell] using hsw⟩
          case measure => simp [intOf]; omega
    · obtain rfl : j = 16 := by omega
      go_wp2
      go_ret
      exact ⟨rfl, hf.whole, hbw, hsw⟩

set_option maxRecDepth 100000 in
set_option maxHeartbeats 2000000 in
theorem sample_4 (p gl lo hi j : Nat) (l : List Int) (w : World) (hS : Seen 4 p lo hi (.slice (some ⟨gl, 0, none⟩) 80 80) w)
    (hx : Blk w gl (enc .i32 l).toArray 21) (hl : l.length = 80) (hfit : M.fits32 l) (hj : j < 4) :
    Calls Tryd.prog 34 #[.pointer (some ⟨p, 0, none⟩), .int .i64 j] w fun e w' => e = .returned (.int .i16 (M.sat16 (M.rnd (M.fj 4 l j 5) 14))) ∧ ∃ m, w' = w.drewN m := by
  obtain ⟨bf, of, cf, c1, hfil⟩ := hS.filter (by omega)
  rw [show 10 * 4 = 40 from rfl] at c1 hfil
  have c0 : w.cell? ⟨p, 0, none⟩ = some (.int .i64 4) := hS.2.2.1
  have c3 := hS.2.2.2.1
  have HFil : Hid (∀ i, i < 40 → w.cell? ⟨bf, of + i, none⟩ = some (.int .i16 (M.fil i (4 : Nat)))) := hfil
  have HX : Hid (Blk _ _ _ _) := hx
  have HF : Hid (M.fits32 l) := hfit
  have hj' : (j : Int) < 4 := by omega
  clear hS hx hfit hfil
  go_enter Tryd.func34, Tryd.ntmps34
  go_wp2
  go_loopw [16, 6] (fun i s w2 => ∃ k : Nat, k ≤ 5 ∧ i = .int .i64 k ∧ s = .int .i64 (M.fj 4 l j k) ∧ ∃ mm, w2 = w.drewN mm) (fun i _ _ => 5 - (intOf i).toNat)
  case atStart => exact ⟨0, by omega, rfl, rfl, 0, rfl⟩
  case round =>
    obtain ⟨k, hk, rfl, rfl, mm, rfl⟩ := hrel
    by_cases hk5 : k < 5
    · have hk5' : (k : Int) < 5 := by omega
      obtain ⟨iv, hiv⟩ : ∃ iv, iv = 4 * 4 * k + j := ⟨_, rfl⟩
      obtain ⟨ih, hih⟩ : ∃ ih, ih = 2 * 4 * k + j := ⟨_, rfl⟩
      obtain ⟨iu, hiu⟩ : ∃ iu, iu = 4 * 4 * k + 3 * 4 + j := ⟨_, rfl⟩
      obtain ⟨ig, hig⟩ : ∃ ig, ig = 2 * 4 * k + 4 + j := ⟨_, rfl⟩
      have hiv' : 16 * (k : Int) + (j : Int) = (iv : Int) := by omega
      have hih' : 8 * (k : Int) + (j : Int) = (ih : Int) := by omega
      have hiu' : (iv : Int) + 12 = (iu : Int) := by omega
      have hig' : (ih : Int) + 4 = (ig : Int) := by omega
      have b1 : (0 : Int) ≤ iv ∧ (iv : Int) < 80 := by omega
      have b2 : (0 : Int) ≤ ih ∧ (ih : Int) < 40 := by omega
      have b3 : (0 : Int) ≤ iu ∧ (iu : Int) < 80 := by omega
      have b4 : (0 : Int) ≤ ig ∧ (ig : Int) < 40 := by omega
      have q1 : w.cell? ⟨gl, iv, none⟩ = some (.int .i32 (l.getD iv 0)) := Blk.cell HX.out (by rw [List.getElem?_toArray]; exact enc_get (by omega))
      have q3 : w.cell? ⟨gl, iu, none⟩ = some (.int .i32 (l.getD iu 0)) := Blk.cell HX.out (by rw [List.getElem?_toArray]; exact enc_get (by omega))
      have q2 := HFil.out ih (by omega)
      have q4 := HFil.out ig (by omega)
      have e0 := M.get_bd HF.out (by decide) (by decide) iv
      have e3 := M.get_bd HF.out (by decide) (by decide) iu
      have e1 := M.fil_bd ih (4 : Nat)
      have e4 := M.fil_bd ig (4 : Nat)
      have e2 := M.mul_bd (l.getD iv 0) (M.fil ih (4 : Nat)) 2147483648 32768 (by omega) (by omega) (by omega) (by omega)
      have e5 := M.mul_bd (l.getD iu 0) (M.fil ig (4 : Nat)) 2147483648 32768 (by omega) (by omega) (by omega) (by omega)
      have d := M.fj_bd (m := 4) HF.out j k
      have S : Hid (M.fj 4 l j (k + 1) = M.fj 4 l j k + M.sgn true k (l.getD iv 0 * M.fil ih (4 : Nat) + l.getD iu 0 * M.fil ig (4 : Nat))) := by rw [hiv, hih, hiu, hig]; exact rfl
      have d2 : -703687441776640 ≤ M.fj 4 l j k ∧ M.fj 4 l j k ≤ 703687441776640 := by omega
      clear d
      generalize M.fj 4 l j k = cu at *
      generalize l.getD iv 0 = x0 at *
      generalize l.getD iu 0 = x2 at *
      generalize M.fil ih (4 : Nat) = x1 at *
      generalize M.fil ig (4 : Nat) = x3 at *
      rcases Nat.mod_two_eq_zero_or_one k with hp | hp
      · have ht : (k : Int).tmod 2 = 0 := by rw [tmod2, hp]; rfl
        have S2 : Hid (cu + (x0 * x1 + x2 * x3) = M.fj 4 l j (k + 1)) := by show _ = _; rw [S.out, (M.sgn_even hp).2]
        clear S hp hiv hih hiu hig
        go_wp2
        go_quiet (fail)
        go_wp2
        go_roundw
        case rel => exact ⟨k + 1, by omega, by go_num, by rw [← S2.out], _, rfl⟩
        case measure => simp [intOf]; omega
      · have ht : (k : Int).tmod 2 = 1 := by rw [tmod2, hp]; rfl
        have S2 : Hid (cu + -(x0 * x1 + x2 * x3) = M.fj 4 l j (k + 1)) := by show _ = _; rw [S.out, (M.sgn_odd hp).2]
        clear S hp hiv hih hiu hig
        go_wp2
        go_quiet (fail)
        go_wp2
        go_roundw
        case rel => exact ⟨k + 1, by omega, by go_num, by rw [← S2.out], _, rfl⟩
        case measure => simp [intOf]; omega
    · obtain rfl : k = 5 := by omega
      have d := M.fj_bd (m := 4) HF.out j 5
      have hr := M.rnd_bd (M.fj 4 l j 5) 14 (by omega) (by omega)
      go_wp2_with (first
        | (go_at_call 41; refine (Round_any _ _ _ (by omega) (by omega)).mono ?_; rintro e w' ⟨rfl, m, rfl⟩)
        | (go_at_call 44; refine (Sat16_any _ _ (by omega) (by omega)).mono ?_; rintro e w' ⟨rfl, rfl⟩))
      go_ret
      exact ⟨rfl, _, rfl⟩

set_option maxRecDepth 100000 in
set_option maxHeartbeats 2000000 in
theorem sample_8 (p gl lo hi j : Nat) (l : List Int) (w : World) (hS : Seen 8 p lo hi (.slice (some ⟨gl, 0, none⟩) 160 160) w)
    (hx : Blk w gl (enc .i32 l).toArray 21) (hl : l.length = 160) (hfit : M.fits32 l) (hj : j < 8) :
    Calls Tryd.prog 34 #[.pointer (some ⟨p, 0, none⟩), .int .i64 j] w fun e w' => e = .returned (.int .i16 (M.sat16 (M.rnd (M.fj 8 l j 5) 14))) ∧ ∃ m, w' = w.drewN m := by
  obtain ⟨bf, of, cf, c1, hfil⟩ := hS.filter (by omega)
  rw [show 10 * 8 = 80 from rfl] at c1 hfil
  have c0 : w.cell? ⟨p, 0, none⟩ = some (.int .i64 8) := hS.2.2.1
  have c3 := hS.2.2.2.1
  have HFil : Hid (∀ i, i < 80 → w.cell? ⟨bf, of + i, none⟩ = some (.int .i16 (M.fil i (8 : Nat)))) := hfil
  have HX : Hid (Blk _ _ _ _) := hx
  have HF : Hid (M.fits32 l) := hfit
  have hj' : (j : Int) < 8 := by omega
  clear hS hx hfit hfil
  go_enter Tryd.func34, Tryd.ntmps34
  go_wp2
  go_loopw [16, 6] (fun i s w2 => ∃ k : Nat, k ≤ 5 ∧ i = .int .i64 k ∧ s = .int .i64 (M.fj 8 l j k) ∧ ∃ mm, w2 = w.drewN mm) (fun i _ _ => 5 - (intOf i).toNat)
  case atStart => exact ⟨0, by omega, rfl, rfl, 0, rfl⟩
  case round =>
    obtain ⟨k, hk, rfl, rfl, mm, rfl⟩ := hrel
    by_cases hk5 : k < 5
    · have hk5' : (k : Int) < 5 := by omega
      obtain ⟨iv, hiv⟩ : ∃ iv, iv = 4 * 8 * k + j := ⟨_, rfl⟩
      obtain ⟨ih, hih⟩ : ∃ ih, ih = 2 * 8 * k + j := ⟨_, rfl⟩
      obtain ⟨iu, hiu⟩ : ∃ iu, iu = 4 * 8 * k + 3 * 8 + j := ⟨_, rfl⟩
      obtain ⟨ig, hig⟩ : ∃ ig, ig = 2 * 8 * k + 8 + j := ⟨_, rfl⟩
      have hiv' : 32 * (k : Int) + (j : Int) = (iv : Int) := by omega
      have hih' : 16 * (k : Int) + (j : Int) = (ih : Int) := by omega
      have hiu' : (iv : Int) + 24 = (iu : Int) := by omega
      have hig' : (ih : Int) + 8 = (ig : Int) := by omega
      have b1 : (0 : Int) ≤ iv ∧ (iv : Int) < 160 := by omega
      have b2 : (0 : Int) ≤ ih ∧ (ih : Int) < 80 := by omega
      have b3 : (0 : Int) ≤ iu ∧ (iu : Int) < 160 := by omega
      have b4 : (0 : Int) ≤ ig ∧ (ig : Int) < 80 := by omega
      have q1 : w.cell? ⟨gl, iv, none⟩ = some (.int .i32 (l.getD iv 0)) := Blk.cell HX.out (by rw [List.getElem?_toArray]; exact enc_get (by omega))
      have q3 : w.cell? ⟨gl, iu, none⟩ = some (.int .i32 (l.getD iu 0)) := Blk.cell HX.out (by rw [List.getElem?_toArray]; exact enc_get (by omega))
      have q2 := HFil.out ih (by omega)
      have q4 := HFil.out ig (by omega)
      have e0 := M.get_bd HF.out (by decide) (by decide) iv
      have e3 := M.get_bd HF.out (by decide) (by decide) iu
      have e1 := M.fil_bd ih (8 : Nat)
      have e4 := M.fil_bd ig (8 : Nat)
      have e2 := M.mul_bd (l.getD iv 0) (M.fil ih (8 : Nat)) 2147483648 32768 (by omega) (by omega) (by omega) (by omega)
      have e5 := M.mul_bd (l.getD iu 0) (M.fil ig (8 : Nat)) 2147483648 32768 (by omega) (by omega) (by omega) (by omega)
      have d := M.fj_bd (m := 8) HF.out j k
      have S : Hid (M.fj 8 l j (k + 1) = M.fj 8 l j k + M.sgn true k (l.getD iv 0 * M.fil ih (8 : Nat) + l.getD iu 0 * M.fil ig (8 : Nat))) := by rw [hiv, hih, hiu, hig]; exact rfl
      have d2 : -703687441776640 ≤ M.fj 8 l j k ∧ M.fj 8 l j k ≤ 703687441776640 := by omega
      clear d
      generalize M.fj 8 l j k = cu at *
      generalize l.getD iv 0 = x0 at *
      generalize l.getD iu 0 = x2 at *
      generalize M.fil ih (8 : Nat) = x1 at *
      generalize M.fil ig (8 : Nat) = x3 at *
      rcases Nat.mod_two_eq_zero_or_one k with hp | hp
      · have ht : (k : Int).tmod 2 = 0 := by rw [tmod2, hp]; rfl
        have S2 : Hid (cu + (x0 * x1 + x2 * x3) = M.fj 8 l j (k + 1)) := by show _ = _; rw [S.out, (M.sgn_even hp).2]
        clear S hp hiv hih hiu hig
        go_wp2
        go_quiet (fail)
        go_wp2
        go_roundw
        case rel => exact ⟨k + 1, by omega, by go_num, by rw [← S2.out], _, rfl⟩
        case measure => simp [intOf]; omega
      · have ht : (k : Int).tmod 2 = 1 := by rw [tmod2, hp]; rfl
        have S2 : Hid (cu + -(x0 * x1 + x2 * x3) = M.fj 8 l j (k + 1)) := by show _ = _; rw [S.out, (M.sgn_odd hp).2]
        clear S hp hiv hih hiu hig
        go_wp2
        go_quiet (fail)
        go_wp2
        go_roundw
        case rel => exact ⟨k + 1, by omega, by go_num, by rw [← S2.out], _, rfl⟩
        case measure => simp [intOf]; omega
    · obtain rfl : k = 5 := by omega
      have d := M.fj_bd (m := 8) HF.out j 5
      have hr := M.rnd_bd (M.fj 8 l j 5) 14 (by omega) (by omega)
      go_wp2_with (first
        | (go_at_call 41; refine (Round_any _ _ _ (by omega) (by omega)).mono ?_; rintro e w' ⟨rfl, m, rfl⟩)
        | (go_at_call 44; refine (Sat16_any _ _ (by omega) (by omega)).mono ?_; rintro e w' ⟨rfl, rfl⟩))
      go_ret
      exact ⟨rfl, _, rfl⟩

end Poly
end Go.Proofs.YtkmkackifihhjaaDoor
