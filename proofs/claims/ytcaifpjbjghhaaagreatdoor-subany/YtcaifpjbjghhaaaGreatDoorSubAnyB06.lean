import Derived.Test.YtcaifpjbjghhaaaGreatDoorSubA00
import Derived.Test.YtcaifpjbjghhaaaGreatDoorSubA01
import Derived.Test.YtcaifpjbjghhaaaGreatDoorSubA02
import Derived.Test.YtcaifpjbjghhaaaGreatDoorSubA03
import Derived.Test.YtcaifpjbjghhaaaGreatDoorSubA04
import Derived.Test.YtcaifpjbjghhaaaGreatDoorSubA05
import Derived.Test.YtcaifpjbjghhaaaGreatDoorSubA06
import Derived.Test.YtcaifpjbjghhaaaGreatDoorSubA07
import Derived.Test.YtcaifpjbjghhaaaGreatDoorSubA08
import Derived.Test.YtcaifpjbjghhaaaGreatDoorSubA09
import Derived.Test.YtcaifpjbjghhaaaGreatDoorSubA10
import Derived.Test.YtcaifpjbjghhaaaGreatDoorSubA11
import Derived.Test.YtcaifpjbjghhaaaGreatDoorSubA12
import Derived.Test.YtcaifpjbjghhaaaGreatDoorSubA13
import Derived.Test.YtcaifpjbjghhaaaGreatDoorSubA14
import Derived.Test.YtcaifpjbjghhaaaGreatDoorSubA15
import Derived.Test.YtcaifpjbjghhaaaGreatDoorSubA16
import Derived.Test.YtcaifpjbjghhaaaGreatDoorSubA17
import Derived.Test.YtcaifpjbjghhaaaGreatDoorSubA18
import Derived.Test.YtcaifpjbjghhaaaGreatDoorSubA19
import Derived.Test.YtcaifpjbjghhaaaGreatDoorSubA20
import Derived.Test.YtcaifpjbjghhaaaGreatDoorSubA21
import Derived.Test.YtcaifpjbjghhaaaGreatDoorSubA22
import Derived.Test.YtcaifpjbjghhaaaGreatDoorSubA23
import Derived.Test.YtcaifpjbjghhaaaGreatDoorSubA24
import Derived.Test.YtcaifpjbjghhaaaGreatDoorSubA25
import Derived.Test.YtcaifpjbjghhaaaGreatDoorSubA26
import Derived.Test.YtcaifpjbjghhaaaGreatDoorSubA27
import Derived.Test.YtcaifpjbjghhaaaGreatDoorSubA28
import Derived.Test.YtcaifpjbjghhaaaGreatDoorSubA29
import Derived.Test.YtcaifpjbjghhaaaGreatDoorSubA30
import Derived.Test.YtcaifpjbjghhaaaGreatDoorSubA31
import Derived.Test.YtcaifpjbjghhaaaGreatDoorSubA32
import Derived.Test.YtcaifpjbjghhaaaGreatDoorSubA33
import Derived.Test.YtcaifpjbjghhaaaGreatDoorSubA34
import Derived.Test.YtcaifpjbjghhaaaGreatDoorSubA35
import Derived.Test.YtcaifpjbjghhaaaGreatDoorSubA36
import Derived.Test.YtcaifpjbjghhaaaGreatDoorSubA37
import Derived.Test.YtcaifpjbjghhaaaGreatDoorSubA38
import Derived.Test.YtcaifpjbjghhaaaGreatDoorSubA39
import Derived.Test.YtcaifpjbjghhaaaGreatDoorSubA40
import Derived.Test.YtcaifpjbjghhaaaGreatDoorSubA41
import Derived.Test.YtcaifpjbjghhaaaGreatDoorSubA42
import Derived.Test.YtcaifpjbjghhaaaGreatDoorSubA43
import Derived.Test.YtcaifpjbjghhaaaGreatDoorSubA44
import Derived.Test.YtcaifpjbjghhaaaGreatDoorSubAnyB05
/-
  Layer 8 in plain arithmetic: the numbers that a splitter and a joiner reckon. No walk.
-/
namespace Go.Proofs.YtcaifpjbjghhaaaGreatDoor
namespace M

theorem pair_bd {m : Nat} {l : List Int} (hl : fits32 l) (p q r s : Nat) : -140737488355328 ≤ l.getD p 0 * fil (q : Int) m + l.getD r 0 * fil (s : Int) m ∧ l.getD p 0 * fil (q : Int) m + l.getD r 0 * fil (s : Int) m ≤ 140737488355328 := by
  have a := get_bd hl (by decide) (by decide) p
  have a' := get_bd hl (by decide) (by decide) r
  have b := fil_bd (q : Int) m
  have b' := fil_bd (s : Int) m
  have p1 := mul_bd (l.getD p 0) (fil (q : Int) m) 2147483648 32768 (by omega) (by omega) (by omega) (by omega)
  have p2 := mul_bd (l.getD r 0) (fil (s : Int) m) 2147483648 32768 (by omega) (by omega) (by omega) (by omega)
  omega

theorem fj_bd {m : Nat} {l : List Int} (hl : fits32 l) (j k : Nat) : -(140737488355328 * (k : Int)) ≤ fj m l j k ∧ fj m l j k ≤ 140737488355328 * (k : Int) := by
  induction k with
  | zero => simp [fj]
  | succ k ih =>
    have p := pair_bd (m := m) hl (4 * m * k + j) (2 * m * k + j) (4 * m * k + 3 * m + j) (2 * m * k + m + j)
    have q := sgn_bd (odd := true) (k := k) p.1 p.2
    simp only [fj]
    omega

theorem vs_fits (m : Nat) (s : List Int) : fits32 (vs m s) := by
  intro z hz
  unfold vs at hz
  obtain ⟨j, _, rfl⟩ := List.mem_map.1 hz
  exact sat32_bd _
theorem vs_length (m : Nat) (xs : List Int) : (vs m xs).length = 2 * m := by simp [vs]
theorem wj_length (m i : Nat) : (wj m i).length = m := by simp [wj]
theorem nj_fits {m : Nat} {s l : List Int} (hl : fits32 l) : fits32 (nj m s l) := by
  intro z hz
  have hz := List.mem_of_mem_take hz
  rcases List.mem_append.1 hz with h | h
  · exact vs_fits m s z h
  · exact hl z h
theorem nj_length {m : Nat} {s l : List Int} (hs : l.length = 20 * m) : (nj m s l).length = 20 * m := by unfold nj; simp [vs_length]; omega

end M
end Go.Proofs.YtcaifpjbjghhaaaGreatDoor

/-
  Contracts of package poly's small functions: a line that moves on, waves, sums. Conditions: as told at each.
-/
namespace Go.Proofs.YtcaifpjbjghhaaaGreatDoor
set_option linter.unusedVariables false
open Go.RowKit
namespace Poly
open Bank (Blk But)

set_option maxRecDepth 100000 in
theorem moveOn32 (g n : Nat) (zs : List Int) (w : World) (hb : Blk w g (enc .i32 zs).toArray 21) (hn : n < zs.length) (hl : zs.length ≤ 65536) :
    Calls Tryz.prog 195 #[.slice (some ⟨g, 0, none⟩) zs.length zs.length, .int .i64 n] w fun e w' => e = .returned (.tuple #[]) ∧ w' = w.setRow g (enc .i32 (zs.take n ++ zs.take (zs.length - n))).toArray := by
  have hX := moved .i32 zs n hn
  have hsl := rest32 g zs.length n hn w
  have hlen : ((enc .i32 zs).take (zs.length - n)).length = zs.length - n := by simp [enc_length]
  have hsrc : ∀ j v, ((enc .i32 zs).take (zs.length - n))[j]? = some v → w.cell? ((⟨g, 0, none⟩ : Addr).add j) = some v := fun j v hv => by
    rw [add_at]
    refine hb.cell ?_
    rw [List.getElem?_take] at hv
    split at hv
    · simpa using hv
    · cases hv
  have hone : ∀ v ∈ (enc .i32 zs).take (zs.length - n), v.oneCell' = true := fun v hv => enc_one _ _ v (List.mem_of_mem_take hv)
  have hfit : n + ((enc .i32 zs).take (zs.length - n)).length ≤ (enc .i32 zs).toArray.size := by rw [hlen]; simp [enc_length]; omega
  have hcp := run_copy_row (P := Tryz.prog) w 97 97 3 21 g n (zs.length - n) (zs.length - n) ⟨g, 0, none⟩ zs.length zs.length _ 21 _ Tryz.underlying97 (by kernel_rfl) hb (by rw [hlen]; exact (Nat.min_eq_right (by omega)).symm) hsrc hfit hone
  rw [hX, hlen] at hcp
  clear hX hsrc hfit hone hlen hb
  generalize enc .i32 (zs.take n ++ zs.take (zs.length - n)) = X at *
  generalize zs.length = L at *
  go_enter Tryz.func195, Tryz.ntmps195
  go_wp2
  go_end0
  exact ⟨rfl, rfl⟩

end Poly
end Go.Proofs.YtcaifpjbjghhaaaGreatDoor

/-
  Contracts of the splitter's fold and the joiner's sample. Conditions: as told at each.
-/
namespace Go.Proofs.YtcaifpjbjghhaaaGreatDoor
set_option linter.unusedVariables false
open Go.RowKit
namespace M
end M
namespace Poly
open Bank (Blk But)

set_option maxRecDepth 100000 in
set_option maxHeartbeats 2000000 in
theorem sample_4 (p gl lo hi j : Nat) (l : List Int) (w : World) (hS : Seen 4 p lo hi (.slice (some ⟨gl, 0, none⟩) 80 80) w)
    (hx : Blk w gl (enc .i32 l).toArray 21) (hl : l.length = 80) (hfit : M.fits32 l) (hj : j < 4) :
    Calls Tryz.prog 196 #[.pointer (some ⟨p, 0, none⟩), .int .i64 j] w fun e w' => e = .returned (.int .i16 (M.sat16 (M.rnd (M.fj 4 l j 5) 14))) ∧ ∃ m, w' = w.drewN m := by
  obtain ⟨bf, of, cf, c1, hfil⟩ := hS.filter (by omega)
  rw [show 10 * 4 = 40 from rfl] at c1 hfil
  have c0 : w.cell? ⟨p, 0, none⟩ = some (.int .i64 4) := hS.2.2.1
  have c3 := hS.2.2.2.1
  have HFil : Hid (∀ i, i < 40 → w.cell? ⟨bf, of + i, none⟩ = some (.int .i16 (M.fil i (4 : Nat)))) := hfil
  have HX : Hid (Blk _ _ _ _) := hx
  have HF : Hid (M.fits32 l) := hfit
  have hj' : (j : Int) < 4 := by omega
  clear hS hx hfit hfil
  go_enter Tryz.func196, Tryz.ntmps196
  go_wp2
  go_loopw [16, 6] (fun i s w2 => ∃ k : Nat, k ≤ 5 ∧ i = .int .i64 k ∧ s = .int .i64 (M.fj 4 l j k) ∧ ∃ mm, w2 = w.drewN mm) (fun i _ _ => 5 - (intOf i).toNat)
  case atStart => exact ⟨0, by omega, rfl, rfl, 0, rfl⟩
  case round =>
    obtain ⟨k, hk, rfl, rfl, mm, rfl⟩ := hrel
    by_cases hk5 : k < 5
    · have hk5' : (k : Int) < 5 := by omega
      obtain ⟨iv, hiv⟩ : ∃ iv, iv = 4 * 4 * k + j := ⟨_, rfl⟩
      obtain ⟨ih, hih⟩ : ∃ ih, ih = 2 * 4 * k + j := ⟨_, rfl⟩
      obtain ⟨iu, hiu⟩ : ∃ iu, iu = 4 * 4 * k + 3 * 4 + j := ⟨_, rfl⟩
      obtain ⟨ig, hig⟩ : ∃ ig, ig = 2 * 4 * k + 4 + j := ⟨_, rfl⟩
      have hiv' : 16 * (k : Int) + (j : Int) = (iv : Int) := by omega
      have hih' : 8 * (k : Int) + (j : Int) = (ih : Int) := by omega
      have hiu' : (iv : Int) + 12 = (iu : Int) := by omega
      have hig' : (ih : Int) + 4 = (ig : Int) := by omega
      have b1 : (0 : Int) ≤ iv ∧ (iv : Int) < 80 := by omega
      have b2 : (0 : Int) ≤ ih ∧ (ih : Int) < 40 := by omega
      have b3 : (0 : Int) ≤ iu ∧ (iu : Int) < 80 := by omega
      have b4 : (0 : Int) ≤ ig ∧ (ig : Int) < 40 := by omega
      have q1 : w.cell? ⟨gl, iv, none⟩ = some (.int .i32 (l.getD iv 0)) := Blk.cell HX.out (by rw [List.getElem?_toArray]; exact enc_get (by omega))
      have q3 : w.cell? ⟨gl, iu, none⟩ = some (.int .i32 (l.getD iu 0)) := Blk.cell HX.out (by rw [List.getElem?_toArray]; exact enc_get (by omega))
      have q2 := HFil.out ih (by omega)
      have q4 := HFil.out ig (by omega)
      have e0 := M.get_bd HF.out (by decide) (by decide) iv
      have e3 := M.get_bd HF.out (by decide) (by decide) iu
      have e1 := M.fil_bd ih (4 : Nat)
      have e4 := M.fil_bd ig (4 : Nat)
      have e2 := M.mul_bd (l.getD iv 0) (M.fil ih (4 : Nat)) 2147483648 32768 (by omega) (by omega) (by omega) (by omega)
      have e5 := M.mul_bd (l.getD iu 0) (M.fil ig (4 : Nat)) 2147483648 32768 (by omega) (by omega) (by omega) (by omega)
      have d := M.fj_bd (m := 4) HF.out j k
      have S : Hid (M.fj 4 l j (k + 1) = M.fj 4 l j k + M.sgn true k (l.getD iv 0 * M.fil ih (4 : Nat) + l.getD iu 0 * M.fil ig (4 : Nat))) := by rw [hiv, hih, hiu, hig]; exact rfl
      have d2 : -703687441776640 ≤ M.fj 4 l j k ∧ M.fj 4 l j k ≤ 703687441776640 := by omega
      clear d
      generalize M.fj 4 l j k = cu at *
      generalize l.getD iv 0 = x0 at *
      generalize l.getD iu 0 = x2 at *
      generalize M.fil ih (4 : Nat) = x1 at *
      generalize M.fil ig (4 : Nat) = x3 at *
      rcases Nat.mod_two_eq_zero_or_one k with hp | hp
      · have ht : (k : Int).tmod 2 = 0 := by rw [tmod2, hp]; rfl
        have S2 : Hid (cu + (x0 * x1 + x2 * x3) = M.fj 4 l j (k + 1)) := by show _ = _; rw [S.out, (M.sgn_even hp).2]
        clear S hp hiv hih hiu hig
        go_wp2
        go_quiet (fail)
        go_wp2
        go_roundw
        case rel => exact ⟨k + 1, by omega, by go_num, by rw [← S2.out], _, rfl⟩
        case measure => simp [intOf]; omega
      · have ht : (k : Int).tmod 2 = 1 := by rw [tmod2, hp]; rfl
        have S2 : Hid (cu + -(x0 * x1 + x2 * x3) = M.fj 4 l j (k + 1)) := by show _ = _; rw [S.out, (M.sgn_odd hp).2]
        clear S hp hiv hih hiu hig
        go_wp2
        go_quiet (fail)
        go_wp2
        go_roundw
        case rel => exact ⟨k + 1, by omega, by go_num, by rw [← S2.out], _, rfl⟩
        case measure => simp [intOf]; omega
    · obtain rfl : k = 5 := by omega
      have d := M.fj_bd (m := 4) HF.out j 5
      have hr := M.rnd_bd (M.fj 4 l j 5) 14 (by omega) (by omega)
      go_wp2_with (first
        | (go_at_call 220; refine (Round_any _ _ _ (by omega) (by omega)).mono ?_; rintro e w' ⟨rfl, m, rfl⟩)
        | (go_at_call 223; refine (Sat16_any _ _ (by omega) (by omega)).mono ?_; rintro e w' ⟨rfl, rfl⟩))
      go_ret
      exact ⟨rfl, _, rfl⟩

set_option maxRecDepth 100000 in
set_option maxHeartbeats 2000000 in
theorem sample_8 (p gl lo hi j : Nat) (l : List Int) (w : World) (hS : Seen 8 p lo hi (.slice (some ⟨gl, 0, none⟩) 160 160) w)
    (hx : Blk w gl (enc .i32 l).toArray 21) (hl : l.length = 160) (hfit : M.fits32 l) (hj : j < 8) :
    Calls Tryz.prog 196 #[.pointer (some ⟨p, 0, none⟩), .int .i64 j] w fun e w' => e = .returned (.int .i16 (M.sat16 (M.rnd (M.fj 8 l j 5) 14))) ∧ ∃ m, w' = w.drewN m := by
  obtain ⟨bf, of, cf, c1, hfil⟩ := hS.filter (by omega)
  rw [show 10 * 8 = 80 from rfl] at c1 hfil
  have c0 : w.cell? ⟨p, 0, none⟩ = some (.int .i64 8) := hS.2.2.1
  have c3 := hS.2.2.2.1
  have HFil : Hid (∀ i, i < 80 → w.cell? ⟨bf, of + i, none⟩ = some (.int .i16 (M.fil i (8 : Nat)))) := hfil
  have HX : Hid (Blk _ _ _ _) := hx
  have HF : Hid (M.fits32 l) := hfit
  have hj' : (j : Int) < 8 := by omega
  clear hS hx hfit hfil
  go_enter Tryz.func196, Tryz.ntmps196
  go_wp2
  go_loopw [16, 6] (fun i s w2 => ∃ k : Nat, k ≤ 5 ∧ i = .int .i64 k ∧ s = .int .i64 (M.fj 8 l j k) ∧ ∃ mm, w2 = w.drewN mm) (fun i _ _ => 5 - (intOf i).toNat)
  case atStart => exact ⟨0, by omega, rfl, rfl, 0, rfl⟩
  case round =>
    obtain ⟨k, hk, rfl, rfl, mm, rfl⟩ := hrel
    by_cases hk5 : k < 5
    · have hk5' : (k : Int) < 5 := by omega
      obtain ⟨iv, hiv⟩ : ∃ iv, iv = 4 * 8 * k + j := ⟨_, rfl⟩
      obtain ⟨ih, hih⟩ : ∃ ih, ih = 2 * 8 * k + j := ⟨_, rfl⟩
      obtain ⟨iu, hiu⟩ : ∃ iu, iu = 4 * 8 * k + 3 * 8 + j := ⟨_, rfl⟩
      obtain ⟨ig, hig⟩ : ∃ ig, ig = 2 * 8 * k + 8 + j := ⟨_, rfl⟩
      have hiv' : 32 * (k : Int) + (j : Int) = (iv : Int) := by omega
      have hih' : 16 * (k : Int) + (j : Int) = (ih : Int) := by omega
      have hiu' : (iv : Int) + 24 = (iu : Int) := by omega
      have hig' : (ih : Int) + 8 = (ig : Int) := by omega
      have b1 : (0 : Int) ≤ iv ∧ (iv : Int) < 160 := by omega
      have b2 : (0 : Int) ≤ ih ∧ (ih : Int) < 80 := by omega
      have b3 : (0 : Int) ≤ iu ∧ (iu : Int) < 160 := by omega
      have b4 : (0 : Int) ≤ ig ∧ (ig : Int) < 80 := by omega
      have q1 : w.cell? ⟨gl, iv, none⟩ = some (.int .i32 (l.getD iv 0)) := Blk.cell HX.out (by rw [List.getElem?_toArray]; exact enc_get (by omega))
      have q3 : w.cell? ⟨gl, iu, none⟩ = some (.int .i32 (l.getD iu 0)) := Blk.cell HX.out (by rw [List.getElem?_toArray]; exact enc_get (by omega))
      have q2 := HFil.out ih (by omega)
      have q4 := HFil.out ig (by omega)
      have e0 := M.get_bd HF.out (by decide) (by decide) iv
      have e3 := M.get_bd HF.out (by decide) (by decide) iu
      have e1 := M.fil_bd ih (8 : Nat)
      have e4 := M.fil_bd ig (8 : Nat)
      have e2 := M.mul_bd (l.getD iv 0) (M.fil ih (8 : Nat)) 2147483648 32768 (by omega) (by omega) (by omega) (by omega)
      have e5 := M.mul_bd (l.getD iu 0) (M.fil ig (8 : Nat)) 2147483648 32768 (by omega) (by omega) (by omega) (by omega)
      have d := M.fj_bd (m := 8) HF.out j k
      have S : Hid (M.fj 8 l j (k + 1) = M.fj 8 l j k + M.sgn true k (l.getD iv 0 * M.fil ih (8 : Nat) + l.getD iu 0 * M.fil ig (8 : Nat))) := by rw [hiv, hih, hiu, hig]; exact rfl
      have d2 : -703687441776640 ≤ M.fj 8 l j k ∧ M.fj 8 l j k ≤ 703687441776640 := by omega
      clear d
      generalize M.fj 8 l j k = cu at *
      generalize l.getD iv 0 = x0 at *
      generalize l.getD iu 0 = x2 at *
      generalize M.fil ih (8 : Nat) = x1 at *
      generalize M.fil ig (8 : Nat) = x3 at *
      rcases Nat.mod_two_eq_zero_or_one k with hp | hp
      · have ht : (k : Int).tmod 2 = 0 := by rw [tmod2, hp]; rfl
        have S2 : Hid (cu + (x0 * x1 + x2 * x3) = M.fj 8 l j (k + 1)) := by show _ = _; rw [S.out, (M.sgn_even hp).2]
        clear S hp hiv hih hiu hig
        go_wp2
        go_quiet (fail)
        go_wp2
        go_roundw
        case rel => exact ⟨k + 1, by omega, by go_num, by rw [← S2.out], _, rfl⟩
        case measure => simp [intOf]; omega
      · have ht : (k : Int).tmod 2 = 1 := by rw [tmod2, hp]; rfl
        have S2 : Hid (cu + -(x0 * x1 + x2 * x3) = M.fj 8 l j (k + 1)) := by show _ = _; rw [S.out, (M.sgn_odd hp).2]
        clear S hp hiv hih hiu hig
        go_wp2
        go_quiet (fail)
        go_wp2
        go_roundw
        case rel => exact ⟨k + 1, by omega, by go_num, by rw [← S2.out], _, rfl⟩
        case measure => simp [intOf]; omega
    · obtain rfl : k = 5 := by omega
      have d := M.fj_bd (m := 8) HF.out j 5
      have hr := M.rnd_bd (M.fj 8 l j 5) 14 (by omega) (by omega)
      go_wp2_with (first
        | (go_at_call 220; refine (Round_any _ _ _ (by omega) (by omega)).mono ?_; rintro e w' ⟨rfl, m, rfl⟩)
        | (go_at_call 223; refine (Sat16_any _ _ (by omega) (by omega)).mono ?_; rintro e w' ⟨rfl, rfl⟩))
      go_ret
      exact ⟨rfl, _, rfl⟩

end Poly
end Go.Proofs.YtcaifpjbjghhaaaGreatDoor


/-
  Feeding a joiner; resets. Conditions: as told at each.
-/
namespace Go.Proofs.YtcaifpjbjghhaaaGreatDoor
set_option linter.unusedVariables false
open Go.RowKit
namespace Poly
open Bank (Blk But)

theorem splitReset (lo gl m : Nat) (xs : List Int) (w : World) (h : Spl lo gl m xs w) (hm : 1 ≤ m) :
    Calls Tryz.prog 95 #[.pointer (some ⟨gl + 1, 0, none⟩)] w fun e w' => e = .returned (.tuple #[]) ∧ Spl lo gl m (List.replicate (10 * m) 0) w' ∧ But gl w w' := by
  obtain ⟨c0, c3⟩ := h.cells
  have hcl : ∀ ty, (Builtin.clear_ #[55] ty #[.slice (some ⟨gl, 0, none⟩) (10 * m) (10 * m)]).run Tryz.prog w = .ok (.tuple #[]) (w.setRow gl (List.replicate (10 * m) (.int .i16 0)).toArray) := fun ty =>
    run_clear_row w 55 182 ty (.int .i16 0) Tryz.underlying55 (fun w => by kernel_rfl) rfl rfl gl (10 * m) (10 * m) _ _ h.2.2.1 (by simp [enc_length]; exact h.2.2.2.1) (by omega)
  have hS : Spl lo gl m (List.replicate (10 * m) 0) (w.setRow gl (List.replicate (10 * m) (.int .i16 0)).toArray) :=
    h.relay (But.setRow (Bank.But.refl _ _) _) (by rw [enc_rep]; exact Blk.setRow h.2.2.1 _) (by simp) (zeros16 _)
  have HS : Hid (Spl _ _ _ _ _) := hS
  clear h hS
  generalize (List.replicate (10 * m) (Value.int .i16 0)).toArray = cs at *
  generalize 10 * m = M10 at *
  go_enter Tryz.func95, Tryz.ntmps95
  go_wp2
  go_end0
  exact ⟨rfl, HS.out, But.setRow (Bank.But.refl _ _) _⟩

theorem sample_any {m gl lo j : Nat} {l : List Int} {w : World} (hm : m = 4 ∨ m = 8) (h : Joi lo gl m l w) (hj : j < m) :
    Calls Tryz.prog 196 #[.pointer (some ⟨gl + 1, 0, none⟩), .int .i64 j] w fun e w' => e = .returned (.int .i16 (M.sat16 (M.rnd (M.fj m l j 5) 14))) ∧ ∃ n, w' = w.drewN n := by
  rcases hm with rfl | rfl
  · exact sample_4 (gl + 1) gl lo gl j l w h.seen h.2.2.1 h.2.2.2.1 h.2.2.2.2.1 hj
  · exact sample_8 (gl + 1) gl lo gl j l w h.seen h.2.2.1 h.2.2.2.1 h.2.2.2.2.1 hj

/-- the sums over a joiner's waves -/
theorem joiSums {m M2 gl lo lo' hi' : Nat} {l s : List Int} {vs : Value} {w : World} (hm : (m = 4 ∧ M2 = 8) ∨ (m = 8 ∧ M2 = 16)) (h : Joi lo gl m l w) (hr : Reads .i32 lo' hi' w vs s) (hl : s.length = m) (h1' : hi' ≤ w.heap.size) :
    Calls Tryz.prog 191 #[.pointer (some ⟨gl + 1, 0, none⟩), vs, .int .i64 15] w fun e w' => e = .returned (.slice (some ⟨w.heap.size, 0, none⟩) M2 M2) ∧
      Blk w' w.heap.size (enc .i32 (M.vs m s)).toArray 21 ∧ Below w.heap.size w w' ∧ w'.heap.size = w.heap.size + 1 := by
  obtain ⟨h0, h1, h2, h3, h4, vf, vw, h5, h6, h7⟩ := h
  have e := sums_any (gl + 1) lo gl lo' hi' vw _ s ((List.range (2 * m)).map (M.wj m)) 15 M2 w (h5.cell (o := 2) rfl) h7 hr (by
    intro i hi
    have hi : i < 2 * m := by simpa using hi
    have e : ((List.range (2 * m)).map (M.wj m)).getD i [] = M.wj m i := by simp [List.getD, hi]
    rw [e, M.wj_length, hl]) (by omega) (by omega) (by omega) (by simp; omega) (by simp; omega) (by omega) h1' (by simp; omega)
  refine e.mono ?_
  rintro e w' ⟨rfl, hb, hbel, hs⟩
  refine ⟨rfl, ?_, hbel, hs⟩
  have e2 : ((List.range M2).map fun i => M.sat32 (M.rnd (Dot.dotTo s (((List.range (2 * m)).map (M.wj m)).getD i []) s.length) 15)) = M.vs m s := by
    unfold M.vs
    rw [show M2 = 2 * m from by omega]
    apply List.map_congr_left
    intro i hi
    have hi := List.mem_range.1 hi
    have e : ((List.range (2 * m)).map (M.wj m)).getD i [] = M.wj m i := by simp [List.getD, hi]
    rw [e, hl]
  rw [e2] at hb
  exact hb

theorem joined (m : Nat) (s l : List Int) (hl : l.length = 20 * m) :
    (enc .i32 (l.take (2 * m) ++ l.take (20 * m - 2 * m))).toArray.toList.take 0 ++ enc .i32 (M.vs m s) ++ (enc .i32 (l.take (2 * m) ++ l.take (20 * m - 2 * m))).toArray.toList.drop (0 + (enc .i32 (M.vs m s)).length) = enc .i32 (M.nj m s l) := by
  rw [enc_length, M.vs_length]
  simp only [enc, List.take_zero, List.nil_append, Nat.zero_add]
  rw [← List.map_drop, ← List.map_append]
  congr 1
  unfold M.nj
  have ha : (l.take (2 * m)).length = 2 * m := by rw [List.length_take]; omega
  rw [List.drop_left' ha, List.take_append, M.vs_length]
  congr 1
  rw [List.take_of_length_le (by rw [M.vs_length]; omega)]

/-- what the joiner's line is moved to, and what comes into it -/
theorem joinMid {m M2 M20 lo gl lo' hi' : Nat} {s l : List Int} {vs : Value} {w : World} (hm : (m = 4 ∧ M2 = 8 ∧ M20 = 80) ∨ (m = 8 ∧ M2 = 16 ∧ M20 = 160)) (h : Joi lo gl m l w) (hs : Reads .i32 lo' hi' w vs s) (hsl : s.length = m) (h1 : hi' ≤ w.heap.size) (hg : gl < lo' ∨ hi' ≤ gl) :
    Calls Tryz.prog 195 #[.slice (some ⟨gl, 0, none⟩) M20 M20, .int .i64 M2] w.drew fun e w1 => e = .returned (.tuple #[]) ∧ w1.cell? ⟨gl + 1, 0, none⟩ = some (.int .i64 m) ∧ w1.cell? ⟨gl + 1, 3, none⟩ = some (.slice (some ⟨gl, 0, none⟩) M20 M20) ∧
      Calls Tryz.prog 191 #[.pointer (some ⟨gl + 1, 0, none⟩), vs, .int .i64 15] w1.drew fun e w2 => ∃ H, e = .returned (.slice (some ⟨H, 0, none⟩) M2 M2) ∧ w2.cell? ⟨gl + 1, 0, none⟩ = some (.int .i64 m) ∧ w2.cell? ⟨gl + 1, 3, none⟩ = some (.slice (some ⟨gl, 0, none⟩) M20 M20) ∧
        ∃ X : Array Value, (∀ ty, (Builtin.copy_ #[97, 97] ty #[.slice (some ⟨gl, 0, none⟩) M20 M20, .slice (some ⟨H, 0, none⟩) M2 M2]).run Tryz.prog w2 = .ok (goInt M2) (w2.setRow gl X)) ∧ Joi lo gl m (M.nj m s l) (w2.setRow gl X) ∧ But gl w (w2.setRow gl X) := by
  have hlen := h.2.2.2.1
  have e20 : 20 * m = M20 := by omega
  have e2 : 2 * m = M2 := by omega
  have hmv := moveOn32 gl M2 l w.drew h.2.2.1 (by omega) (by omega)
  rw [hlen, e20] at hmv
  refine hmv.mono ?_
  rintro e w1 ⟨rfl, hw1⟩
  have hb1 : But gl w w1 := by rw [hw1]; exact But.setRow (Bank.But.refl _ _).drew _
  have hB1 : Blk w1 gl (enc .i32 (l.take M2 ++ l.take (M20 - M2))).toArray 21 := by rw [hw1]; exact Blk.setRow (w := w.drew) h.2.2.1 _
  have hJ1 : Joi lo gl m (l.take M2 ++ l.take (M20 - M2)) w1 := h.relay hb1 hB1 (by simp; omega) (fun z hz => by
    rcases List.mem_append.1 hz with hz | hz <;> exact h.2.2.2.2.1 z (List.mem_of_mem_take hz))
  obtain ⟨k0, k3⟩ := hJ1.cells
  rw [e20] at k3
  have hr1 := hs.but hb1 h1 (by omega)
  have hs1 := hb1.size
  refine ⟨rfl, k0, k3, ?_⟩
  refine (joiSums (w := w1.drew) (M2 := M2) (by omega) hJ1 hr1 hsl (by show hi' ≤ w1.heap.size; omega)).mono ?_
  rintro e w2 ⟨rfl, hb2, hbel2, hs2⟩
  have hbel2' : Below w1.heap.size w1.drew w2 := hbel2
  have hJ2 : Joi lo gl m (l.take M2 ++ l.take (M20 - M2)) w2 := Joi.below (w := w1.drew) hJ1 hbel2' hJ1.2.1
  obtain ⟨j0, j3⟩ := hJ2.cells
  rw [e20] at j3
  have hb12 : But gl w w2 := But.below' hb1.drew hbel2' hs1
  refine ⟨w1.heap.size, rfl, j0, j3, (enc .i32 (M.nj m s l)).toArray, fun ty => ?_, ?_, But.setRow hb12 _⟩
  · have hX := joined m s l hlen
    rw [e2, e20] at hX
    have hlen2 : (enc .i32 (M.vs m s)).length = M2 := by rw [enc_length, M.vs_length]; exact e2
    have hcp := run_copy_row (P := Tryz.prog) w2 97 97 ty 21 gl 0 M20 M20 ⟨w1.heap.size, 0, none⟩ M2 M2 _ 21 (enc .i32 (M.vs m s)) Tryz.underlying97 (by kernel_rfl) hJ2.2.2.1
      (by rw [hlen2]; exact (Nat.min_eq_left (by omega)).symm) (fun j v hv => by
        rw [add_at]
        exact hb2.cell (by simpa using hv)) (by rw [hlen2]; simp [enc_length]; omega) (enc_one _ _)
    rw [hX, hlen2] at hcp
    exact hcp
  · exact hJ2.relay (But.setRow (Bank.But.refl _ _) _) (Blk.setRow hJ2.2.2.1 _) (M.nj_length hlen) (M.nj_fits h.2.2.2.2.1)

set_option maxRecDepth 100000 in
set_option maxHeartbeats 2000000 in
theorem joinFeed (m M2 M20 lo gl lo' hi' : Nat) (s l : List Int) (vs : Value) (w : World) (hm : (m = 4 ∧ M2 = 8 ∧ M20 = 80) ∨ (m = 8 ∧ M2 = 16 ∧ M20 = 160)) (h : Joi lo gl m l w) (hs : Reads .i32 lo' hi' w vs s) (hsl : s.length = m) (h1 : hi' ≤ w.heap.size) (hg : gl < lo' ∨ hi' ≤ gl) :
    Calls Tryz.prog 153 #[.pointer (some ⟨gl + 1, 0, none⟩), vs] w fun e w' => ∃ v, e = .returned (.tuple #[v, .int .i64 0]) ∧ Joi lo gl m (M.nj m s l) w' ∧ But gl w w' ∧ Reads .i16 w.heap.size w'.heap.size w' v (M.jn m (M.nj m s l)) := by
  obtain ⟨c0, c3⟩ := h.cells
  have e20 : 20 * m = M20 := by omega
  rw [e20] at c3
  have hmid := joinMid hm h hs hsl h1 hg
  obtain ⟨sa, sc, rfl⟩ := hs.form
  rw [hsl] at hmid ⊢
  have e2' : 2 * (m : Int) = (M2 : Int) := by omega
  have hne : ((m : Int) != (m : Int)) = false := by simp
  have m1 : (m : Int) ≤ 8 := by omega
  have m2 : (M2 : Int) ≤ 16 := by omega
  have m3 : (M20 : Int) ≤ 160 := by omega
  have hwr : IntKind.i64.wrap (M2 : Int) = (M2 : Int) := Bank.wrap_id _ (by omega) (by omega)
  have hm48 : Hid (m = 4 ∨ m = 8) := by show m = 4 ∨ m = 8; omega
  have hmk : ∀ wx : World, (Instr.makeSlice 55 (.int .i64 m) (.int .i64 m)).run Tryz.prog wx = .ok (.slice (some ⟨wx.heap.size, 0, none⟩) m m) (wx.alloc (.cells (enc .i16 (List.replicate m 0)).toArray 182)) := fun wx => make16 wx m (by omega)
  have HF : Hid (∀ (wx : World) f, Fill .i16 182 wx.heap.size m 0 f (wx.alloc (.cells (enc .i16 (List.replicate m 0)).toArray 182))) := fun wx f => Fill.start (Blk.new wx _ _)
  generalize (enc .i16 (List.replicate m 0)).toArray = c16 at hmk HF
  clear h hs hm e20 hsl
  go_enter Tryz.func153, Tryz.ntmps153
  go_wp2
  go_region_with (go_at_call 195; refine hmid.mono ?_; rintro e w1 ⟨rfl, k0, k3, hsum⟩; clear hmid c0 c3)
  all_goals
    go_wp2
    go_region_with (go_at_call 191; refine hsum.mono ?_; rintro e w2 ⟨H, rfl, j0, j3, X, hcp, hJ, hB⟩; have HJ : Hid (Joi _ _ _ _ _) := hJ; have HB : Hid (But _ _ _) := hB; clear hsum hJ hB)
    all_goals
      have d0 := (Joi.cells HJ.out).1
      have HF2 := HF.out (w2.setRow gl X) (fun j => M.sat16 (M.rnd (M.fj m (M.nj m s l) j 5) 14))
      have hmk2 := hmk (w2.setRow gl X)
      have HF3 : Hid (Fill _ _ _ _ _ _ _) := HF2
      clear hmk HF HF2 j0 j3
      generalize w2.setRow gl X = w3 at *
      go_wp2
      go_loopw [47] (fun i wr => ∃ k : Nat, k ≤ m ∧ i = .int .i64 k ∧ Fill .i16 182 w3.heap.size m k (fun j => M.sat16 (M.rnd (M.fj m (M.nj m s l) j 5) 14)) wr ∧ Below w3.heap.size w3 wr ∧ wr.heap.size = w3.heap.size + 1) (fun i _ => m - (intOf i).toNat)
      case atStart => exact ⟨0, by omega, rfl, HF3.out, (Below.refl _ _).alloc (Nat.le_refl _) _, by simp⟩
      case round =>
        clear hmk2 HF3 hcp d0
        obtain ⟨k, hk, rfl, hf, hbel, hsz⟩ := hrel
        have hJ : Joi lo gl m (M.nj m s l) wr := Joi.below HJ.out hbel (Joi.below HJ.out (Below.refl w3.heap.size w3) (And.left (And.right HJ.out))).2.1
        by_cases hlt : k < m
        · have hlt' : (k : Int) < m := by omega
          have hsm := sample_any hm48.out hJ hlt
          obtain ⟨⟨u, hu⟩, hfz⟩ := hf.cell hlt
          have HJ2 : Hid (Joi _ _ _ _ _) := hJ
          generalize hy : M.sat16 (M.rnd (M.fj m (M.nj m s l) k 5) 14) = y at hsm
          have HY : Hid _ := hy
          clear hJ hy
          go_wp2_with (go_at_call 196; refine hsm.mono ?_; rintro e w' ⟨rfl, n, rfl⟩)
          go_roundw
          case rel => exact ⟨k + 1, by omega, by go_num, (hf.drewN _).step hlt HY.out.symm, (below_drewN hbel _).setCell (Nat.le_refl _) _, by simpa [World.setCell] using hsz⟩
          case measure => simp [intOf]; omega
        · obtain rfl : k = m := by omega
          go_wp2
          go_ret2
          refine ⟨_, rfl, hJ, But.below' HB.out hbel (But.size HB.out), ?_⟩
          have hr := reads_blk hf.whole (fit16.2 (M.jn_fits k (M.nj k s l)))
          have hs0 := But.size HB.out
          simp only [List.length_map, List.length_range] at hr
          exact hr.mono hs0 (by omega)

end Poly
end Go.Proofs.YtcaifpjbjghhaaaGreatDoor

