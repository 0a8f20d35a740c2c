import Derived.Test.YtcaifpjbjghhaaaGreatDoorSubA00
import Derived.Test.YtcaifpjbjghhaaaGreatDoorSubA01
import Derived.Test.YtcaifpjbjghhaaaGreatDoorSubA02
import Derived.Test.YtcaifpjbjghhaaaGreatDoorSubA03
import Derived.Test.YtcaifpjbjghhaaaGreatDoorSubA04
import Derived.Test.YtcaifpjbjghhaaaGreatDoorSubA05
import Derived.Test.YtcaifpjbjghhaaaGreatDoorSubA06
import Derived.Test.YtcaifpjbjghhaaaGreatDoorSubA07
import Derived.Test.YtcaifpjbjghhaaaGreatDoorSubA08
import Derived.Test.YtcaifpjbjghhaaaGreatDoorSubA09
import Derived.Test.YtcaifpjbjghhaaaGreatDoorSubA10
import Derived.Test.YtcaifpjbjghhaaaGreatDoorSubA11
import Derived.Test.YtcaifpjbjghhaaaGreatDoorSubA12
import Derived.Test.YtcaifpjbjghhaaaGreatDoorSubA13
import Derived.Test.YtcaifpjbjghhaaaGreatDoorSubA14
import Derived.Test.YtcaifpjbjghhaaaGreatDoorSubA15
import Derived.Test.YtcaifpjbjghhaaaGreatDoorSubA16
import Derived.Test.YtcaifpjbjghhaaaGreatDoorSubA17
import Derived.Test.YtcaifpjbjghhaaaGreatDoorSubA18
import Derived.Test.YtcaifpjbjghhaaaGreatDoorSubA19
import Derived.Test.YtcaifpjbjghhaaaGreatDoorSubA20
import Derived.Test.YtcaifpjbjghhaaaGreatDoorSubA21
import Derived.Test.YtcaifpjbjghhaaaGreatDoorSubA22
import Derived.Test.YtcaifpjbjghhaaaGreatDoorSubA23
import Derived.Test.YtcaifpjbjghhaaaGreatDoorSubA24
import Derived.Test.YtcaifpjbjghhaaaGreatDoorSubA25
import Derived.Test.YtcaifpjbjghhaaaGreatDoorSubA26
import Derived.Test.YtcaifpjbjghhaaaGreatDoorSubA27
import Derived.Test.YtcaifpjbjghhaaaGreatDoorSubA28
import Derived.Test.YtcaifpjbjghhaaaGreatDoorSubA29
import Derived.Test.YtcaifpjbjghhaaaGreatDoorSubA30
import Derived.Test.YtcaifpjbjghhaaaGreatDoorSubA31
import Derived.Test.YtcaifpjbjghhaaaGreatDoorSubA32
import Derived.Test.YtcaifpjbjghhaaaGreatDoorSubA33
import Derived.Test.YtcaifpjbjghhaaaGreatDoorSubA34
import Derived.Test.YtcaifpjbjghhaaaGreatDoorSubA35
import Derived.Test.YtcaifpjbjghhaaaGreatDoorSubA36
import Derived.Test.YtcaifpjbjghhaaaGreatDoorSubA37
import Derived.Test.YtcaifpjbjghhaaaGreatDoorSubA38
import Derived.Test.YtcaifpjbjghhaaaGreatDoorSubA39
import Derived.Test.YtcaifpjbjghhaaaGreatDoorSubA40
import Derived.Test.YtcaifpjbjghhaaaGreatDoorSubA41
import Derived.Test.YtcaifpjbjghhaaaGreatDoorSubA42
import Derived.Test.YtcaifpjbjghhaaaGreatDoorSubA43
import Derived.Test.YtcaifpjbjghhaaaGreatDoorSubA44
import Derived.Test.YtcaifpjbjghhaaaGreatDoorSubBackB01
/-
  The document's answer of layer 11: bits, bytes, samples. Conditions: as told at each.
-/
namespace Go.Proofs.YtcaifpjbjghhaaaGreatDoor
set_option linter.unusedVariables false
open Go.RowKit
namespace Form
open Bank (Blk But)
open Poly (alloc_size)

theorem rBits_S (f : M.Fmt) (w : World) (hc : f.c = 1) (hb : f.b = 4 ∨ f.b = 8) (hh : f.h = 1 ∨ f.h = 2) (hk : f.k = 4 ∨ f.k = 8 ∨ f.k = 12 ∨ f.k = 16) (hp : 0 ≤ f.p ∧ f.p ≤ 251) :
    Calls Tryz.prog 56 #[fv f] w fun e w' => e = .returned (.int .i64 (M.bitS f)) ∧ Below w.heap.size w w' := by
  have hx := M.kp_bd hk hp
  obtain ⟨c, r, h, b, k, m, j, p, l, y⟩ := f
  unfold fv M.bitS
  dsimp only at hc hb hh hk hp hx ⊢
  subst hc
  obtain ⟨x, ex⟩ : ∃ x, k * p = x := ⟨_, rfl⟩
  rw [ex] at hx ⊢
  have b0 : 4 ≤ b ∧ b ≤ 8 := by omega
  clear hb hk hp
  by_cases hj : j = 1
  · subst hj
    rw [if_pos rfl]
    rcases hh with rfl | rfl
    · go_enter Tryz.func56, Tryz.ntmps56
      go_wp2
      refine wp_loop_rounds 2 ?_
      rw [rounds_succ]
      go_wp2
      rw [rounds_succ]
      go_wp2
      go_ret
      exact ⟨ret_int (by omega), bel1 _ _⟩
    · go_enter Tryz.func56, Tryz.ntmps56
      go_wp2
      refine wp_loop_rounds 3 ?_
      rw [rounds_succ]
      go_wp2
      rw [rounds_succ]
      go_wp2
      rw [rounds_succ]
      go_wp2
      go_ret
      exact ⟨ret_int (by omega), bel1 _ _⟩
  · have e1 : (j == 1) = false := by simpa using hj
    rw [if_neg hj]
    rcases hh with rfl | rfl
    · go_enter Tryz.func56, Tryz.ntmps56
      go_wp2
      refine wp_loop_rounds 2 ?_
      rw [rounds_succ]
      go_wp2
      rw [rounds_succ]
      go_wp2
      go_ret
      exact ⟨ret_int (by omega), bel1 _ _⟩
    · go_enter Tryz.func56, Tryz.ntmps56
      go_wp2
      refine wp_loop_rounds 3 ?_
      rw [rounds_succ]
      go_wp2
      rw [rounds_succ]
      go_wp2
      rw [rounds_succ]
      go_wp2
      go_ret
      exact ⟨ret_int (by omega), bel1 _ _⟩

theorem rPayload_S (f : M.Fmt) (w : World) (hc : f.c = 1) (hb : f.b = 4 ∨ f.b = 8) (hh : f.h = 1 ∨ f.h = 2) (hk : f.k = 4 ∨ f.k = 8 ∨ f.k = 12 ∨ f.k = 16) (hp : 0 ≤ f.p ∧ f.p ≤ 251) :
    Calls Tryz.prog 36 #[fv f] w fun e w' => e = .returned (.int .i64 ((M.bitS f + 7) / 8)) ∧ Below w.heap.size w w' := by
  have hd := fun wx => rBits_S f wx hc hb hh hk hp
  have hz := M.bitS_bd hk hp hb hh
  generalize M.bitS f = z at *
  clear hb hh hk hp
  obtain ⟨c, r, h, b, k, m, j, p, l, y⟩ := f
  unfold fv at hd ⊢
  dsimp only at hc hd ⊢
  subst hc
  obtain ⟨T, hT⟩ : ∃ T : Int, T = (z + 7) / 8 * 8 := ⟨_, rfl⟩
  obtain ⟨V, hV⟩ : ∃ V : Int, V = (z + 7) / 8 := ⟨_, rfl⟩
  rw [← hV]
  have T0 : z ≤ T ∧ T ≤ 4300 ∧ T < z + 8 := by omega
  have HT : Hid (T = V * 8) := by show _ = _; rw [hT, hV]
  clear hT hV
  go_enter Tryz.func36, Tryz.ntmps36
  go_wp2_with (go_at_call 56; refine (hd _).mono ?_; rintro e w2 ⟨rfl, bel2⟩; obtain ⟨hb2, belw⟩ := box_behind (f := ⟨1, r, h, b, k, m, j, p, l, y⟩) bel2; clear bel2 hb2 hd)
  go_loopw [3] (fun n wr => ∃ q : Int, n = .int .i64 q ∧ z ≤ q ∧ q ≤ T ∧ wr = w2) (fun n _ => (T - intOf n).toNat)
  case atStart => exact ⟨z, rfl, by omega, T0.1, rfl⟩
  case round =>
    obtain ⟨q, rfl, q0, q1, hw⟩ := hrel
    subst hw
    by_cases hq : q = T
    · subst hq
      have h8 : q % 8 = 0 := by have : q = V * 8 := HT.out; omega
      go_wp2
      go_ret
      exact ⟨ret_int (by have : q = V * 8 := HT.out; omega), belw⟩
    · have h8 : ¬ q % 8 = 0 := by have : T = V * 8 := HT.out; omega
      have h9 : (q % 8 == 0) = false := by simpa using h8
      have hq' : q + 1 ≤ T := by omega
      go_wp2
      go_roundw
      case rel => exact ⟨q + 1, by go_num, by omega, hq', trivial⟩
      case measure => simp [intOf]; omega

end Form
end Go.Proofs.YtcaifpjbjghhaaaGreatDoor

