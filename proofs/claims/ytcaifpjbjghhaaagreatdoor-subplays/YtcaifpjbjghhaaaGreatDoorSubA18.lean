import Derived.Test.YtcaifpjbjghhaaaGreatDoorSubA13
import Derived.Test.YtcaifpjbjghhaaaGreatDoorSubA03
/-
  Contracts: which planes there are, by the program and by the document's answer; which are more than are looked at. Conditions: as told at each.
-/
namespace Go.Proofs.YtcaifpjbjghhaaaGreatDoor
set_option linter.unusedVariables false
open Go.RowKit
namespace Qnt

set_option maxHeartbeats 1000000 in
theorem isPlane_any (hi : Nat) (v : Value) (n : Nat) (l : Nat → Nat) (w : World) (h : Hd hi v n l w) (hf : ¬ FarL n l) :
    Calls Tryz.prog 107 #[v] w fun e w' => Yes (PlL n l) w e w' := by
  obtain ⟨ax, cx, rfl⟩ := h.form
  have HZ : Hid (Hd hi (.slice ax n cx) n l w) := h
  have HF : Hid _ := hf
  have h11 : (n : Int) ≤ 40 := by
    rcases Nat.lt_or_ge 40 n with h | h
    · exact absurd (.inl h) hf
    · omega
  have hsm : ∀ j, j < n → (l j : Int) ≤ 40 := fun j hj => by
    rcases Nat.lt_or_ge 40 (l j) with h | h
    · exact absurd (.inr ⟨j, hj, h⟩) hf
    · omega
  have HS : Hid _ := hsm
  clear h hf hsm
  by_cases hn : n = 0
  · subst hn
    go_enter Tryz.func107, Tryz.ntmps107
    go_wp2
    go_ret
    exact ⟨rfl, .inr ⟨rfl, fun h => absurd h.1 (by omega)⟩⟩
  · have hn' : ((n : Int) == 0) = false := by simp; omega
    obtain ⟨b, off, rfl, _, hx⟩ := HZ.out.at (by omega)
    obtain ⟨a0, c0, hu0⟩ := hx 0 (by omega)
    rw [Nat.add_zero] at hu0
    have hn0 : (0 : Int) < n := by omega
    have HX : Hid _ := hx
    clear hx
    have s0 := HS.out 0 (by omega)
    by_cases hb : 1 ≤ l 0 ∧ l 0 ≤ 8
    · obtain ⟨hb1, hb2⟩ := hb
      have HB : Hid (1 ≤ l 0 ∧ l 0 ≤ 8) := ⟨hb1, hb2⟩
      obtain ⟨C, hC⟩ : ∃ C, l 0 = C := ⟨_, rfl⟩
      have HC : Hid (l 0 = C) := hC
      rw [hC] at hu0 hb1 hb2 s0
      clear hC
      have c1 : (1 : Int) ≤ C := by omega
      have c2 : (C : Int) ≤ 8 := by omega
      go_enter Tryz.func107, Tryz.ntmps107
      go_wp2
      go_loopw [21] (fun i wr => ∃ q : Nat, q ≤ n ∧ i = .int .i64 q ∧ wr = w ∧ ∀ k, k < q → l k = l 0) (fun i _ => n - (intOf i).toNat)
      case atStart => exact ⟨0, by omega, rfl, rfl, fun k hk => absurd hk (by omega)⟩
      case round =>
        obtain ⟨q, hq, rfl, hw, hall⟩ := hrel
        subst hw
        have HA : Hid _ := hall
        clear hall
        by_cases hlt : q < n
        · have hlt' : (q : Int) < n := by omega
          obtain ⟨a3, c3, hu⟩ := HX.out q hlt
          have sq := HS.out q hlt
          by_cases he : l q = C
          · rw [he] at hu
            have HE : Hid (l q = C) := he
            clear he
            go_wp2
            go_roundw
            case rel =>
              refine ⟨q + 1, by omega, by go_num, by first | rfl | trivial, fun j hj => ?_⟩
              rcases (by omega : j < q ∨ j = q) with h | rfl
              · exact HA.out j h
              · rw [HE.out, HC.out]
            case measure => simp [intOf]; omega
          · have HE : Hid (¬ l q = C) := he
            obtain ⟨z, hz⟩ : ∃ z, l q = z := ⟨_, rfl⟩
            rw [hz] at hu he sq
            clear hz
            have he' : ((z : Int) == (C : Int)) = false := by simp; omega
            go_wp2
            all_goals (
              go_ret
              exact ⟨rfl, .inr ⟨rfl, fun h => HE.out ((h.2.2.2 q hlt).trans HC.out)⟩⟩)
        · obtain rfl : q = n := by omega
          go_wp2
          go_ret
          exact ⟨rfl, .inl ⟨rfl, by omega, HB.out.1, HB.out.2, HA.out⟩⟩
    · have HB : Hid (¬ (1 ≤ l 0 ∧ l 0 ≤ 8)) := hb
      obtain ⟨C, hC⟩ : ∃ C, l 0 = C := ⟨_, rfl⟩
      rw [hC] at hu0 hb s0
      clear hC
      rcases (by omega : C = 0 ∨ 8 < C) with rfl | h8
      · go_enter Tryz.func107, Tryz.ntmps107
        go_wp2
        go_ret
        exact ⟨rfl, .inr ⟨rfl, fun h => HB.out ⟨h.2.1, h.2.2.1⟩⟩⟩
      · have h8' : (8 : Int) < C := by omega
        go_enter Tryz.func107, Tryz.ntmps107
        go_wp2
        go_ret
        exact ⟨rfl, .inr ⟨rfl, fun h => HB.out ⟨h.2.1, h.2.2.1⟩⟩⟩

end Qnt
end Go.Proofs.YtcaifpjbjghhaaaGreatDoor

