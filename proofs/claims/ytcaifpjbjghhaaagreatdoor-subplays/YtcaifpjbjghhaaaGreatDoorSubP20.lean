import Derived.Test.YtcaifpjbjghhaaaGreatDoorSubP13
import Derived.Test.YtcaifpjbjghhaaaGreatDoorSubP03
/-
  Contracts: which planes there are, by the program and by the document's answer; which are more than are looked at. Conditions: as told at each.
-/
namespace Go.Proofs.YtcaifpjbjghhaaaGreatDoor
set_option linter.unusedVariables false
open Go.RowKit
namespace Qnt

set_option maxHeartbeats 1000000 in
theorem Far_any (hi : Nat) (v : Value) (n : Nat) (l : Nat → Nat) (w : World) (h : Hd hi v n l w) :
    Calls Tryz.prog 41 #[v] w fun e w' => Yes (FarL n l) w e w' := by
  obtain ⟨ax, cx, rfl⟩ := h.form
  have HZ : Hid (Hd hi (.slice ax n cx) n l w) := h
  clear h
  by_cases h10 : 40 < n
  · have h10' : (40 : Int) < n := by omega
    go_enter Tryz.func41, Tryz.ntmps41
    go_wp2
    go_ret
    exact ⟨rfl, .inl ⟨rfl, .inl h10⟩⟩
  · have h10' : ¬ (40 : Int) < n := by omega
    have h11 : (n : Int) ≤ 40 := by omega
    go_enter Tryz.func41, Tryz.ntmps41
    go_wp2
    go_loopw [3] (fun i wr => ∃ q : Nat, q ≤ n ∧ i = .int .i64 q ∧ wr = w ∧ ∀ k, k < q → l k ≤ 40) (fun i _ => n - (intOf i).toNat)
    case atStart => exact ⟨0, by omega, rfl, rfl, fun k hk => absurd hk (by omega)⟩
    case round =>
      obtain ⟨q, hq, rfl, hw, hall⟩ := hrel
      subst hw
      have HA : Hid _ := hall
      clear hall
      by_cases hlt : q < n
      · have hlt' : (q : Int) < n := by omega
        obtain ⟨b, off, rfl, _, hx⟩ := HZ.out.at (by omega)
        obtain ⟨a3, c3, hu⟩ := hx q hlt
        clear hx
        by_cases hf : 40 < l q
        · have HF : Hid (40 < l q) := hf
          clear hf
          have hf' : (40 : Int) < (l q : Int) := by have := HF.out; omega
          obtain ⟨z, hz⟩ : ∃ z, l q = z := ⟨_, rfl⟩
          rw [hz] at hu hf'
          clear hz
          go_wp2
          go_ret
          exact ⟨rfl, .inl ⟨rfl, .inr ⟨q, hlt, HF.out⟩⟩⟩
        · have HF : Hid (¬ 40 < l q) := hf
          clear hf
          have hf' : ¬ (40 : Int) < (l q : Int) := by have := HF.out; omega
          obtain ⟨z, hz⟩ : ∃ z, l q = z := ⟨_, rfl⟩
          rw [hz] at hu hf'
          clear hz
          go_wp2
          go_roundw
          case rel =>
            refine ⟨q + 1, by omega, by go_num, by first | rfl | trivial, fun j hj => ?_⟩
            rcases (by omega : j < q ∨ j = q) with h | rfl
            · exact HA.out j h
            · have := HF.out; omega
          case measure => simp [intOf]; omega
      · obtain rfl : q = n := by omega
        go_wp2
        go_ret
        refine ⟨rfl, .inr ⟨rfl, fun h => ?_⟩⟩
        rcases h with h | ⟨j, hj, hl⟩
        · omega
        · have := HA.out j hj
          omega

set_option maxHeartbeats 1000000 in
theorem isPlane_any (hi : Nat) (v : Value) (n : Nat) (l : Nat → Nat) (w : World) (h : Hd hi v n l w) (hf : ¬ FarL n l) :
    Calls Tryz.prog 107 #[v] w fun e w' => Yes (PlL n l) w e w' := by
  obtain ⟨ax, cx, rfl⟩ := h.form
  have HZ : Hid (Hd hi (.slice ax n cx) n l w) := h
  have HF : Hid _ := hf
  have h11 : (n : Int) ≤ 40 := by
    rcases Nat.lt_or_ge 40 n with h | h
    · exact absurd (.inl h) hf
    · omega
  have hsm : ∀ j, j < n → (l j : Int) ≤ 40 := fun j hj => by
    rcases Nat.lt_or_ge 40 (l j) with h | h
    · exact absurd (.inr ⟨j, hj, h⟩) hf
    · omega
  have HS : Hid _ := hsm
  clear h hf hsm
  by_cases hn : n = 0
  · subst hn
    go_enter Tryz.func107, Tryz.ntmps107
    go_wp2
    go_ret
    exact ⟨rfl, .inr ⟨rfl, fun h => absurd h.1 (by omega)⟩⟩
  · have hn' : ((n : Int) == 0) = false := by simp; omega
    obtain ⟨b, off, rfl, _, hx⟩ := HZ.out.at (by omega)
    obtain ⟨a0, c0, hu0⟩ := hx 0 (by omega)
    rw [Nat.add_zero] at hu0
    have hn0 : (0 : Int) < n := by omega
    have HX : Hid _ := hx
    clear hx
    have s0 := HS.out 0 (by omega)
    by_cases hb : 1 ≤ l 0 ∧ l 0 ≤ 8
    · obtain ⟨hb1, hb2⟩ := hb
      have HB : Hid (1 ≤ l 0 ∧ l 0 ≤ 8) := ⟨hb1, hb2⟩
      obtain ⟨C, hC⟩ : ∃ C, l 0 = C := ⟨_, rfl⟩
      have HC : Hid (l 0 = C) := hC
      rw [hC] at hu0 hb1 hb2 s0
      clear hC
      have c1 : (1 : Int) ≤ C := by omega
      have c2 : (C : Int) ≤ 8 := by omega
      go_enter Tryz.func107, Tryz.ntmps107
      go_wp2
      go_loopw [21] (fun i wr => ∃ q : Nat, q ≤ n ∧ i = .int .i64 q ∧ wr = w ∧ ∀ k, k < q → l k = l 0) (fun i _ => n - (intOf i).toNat)
      case atStart => exact ⟨0, by omega, rfl, rfl, fun k hk => absurd hk (by omega)⟩
      case round =>
        obtain ⟨q, hq, rfl, hw, hall⟩ := hrel
        subst hw
        have HA : Hid _ := hall
        clear hall
        by_cases hlt : q < n
        · have hlt' : (q : Int) < n := by omega
          obtain ⟨a3, c3, hu⟩ := HX.out q hlt
          have sq := HS.out q hlt
          by_cases he : l q = C
          · rw [he] at hu
            have HE : Hid (l q = C) := he
            clear he
            go_wp2
            go_roundw
            case rel =>
              refine ⟨q + 1, by omega, by go_num, by first | rfl | trivial, fun j hj => ?_⟩
              rcases (by omega : j < q ∨ j = q) with h | rfl
              · exact HA.out j h
              · rw [HE.out, HC.out]
            case measure => simp [intOf]; omega
          · have HE : Hid (¬ l q = C) := he
            obtain ⟨z, hz⟩ : ∃ z, l q = z := ⟨_, rfl⟩
            rw [hz] at hu he sq
            clear hz
            have he' : ((z : Int) == (C : Int)) = false := by simp; omega
            go_wp2
            all_goals (
              go_ret
              exact ⟨rfl, .inr ⟨rfl, fun h => HE.out ((h.2.2.2 q hlt).trans HC.out)⟩⟩)
        · obtain rfl : q = n := by omega
          go_wp2
          go_ret
          exact ⟨rfl, .inl ⟨rfl, by omega, HB.out.1, HB.out.2, HA.out⟩⟩
    · have HB : Hid (¬ (1 ≤ l 0 ∧ l 0 ≤ 8)) := hb
      obtain ⟨C, hC⟩ : ∃ C, l 0 = C := ⟨_, rfl⟩
      rw [hC] at hu0 hb s0
      clear hC
      rcases (by omega : C = 0 ∨ 8 < C) with rfl | h8
      · go_enter Tryz.func107, Tryz.ntmps107
        go_wp2
        go_ret
        exact ⟨rfl, .inr ⟨rfl, fun h => HB.out ⟨h.2.1, h.2.2.1⟩⟩⟩
      · have h8' : (8 : Int) < C := by omega
        go_enter Tryz.func107, Tryz.ntmps107
        go_wp2
        go_ret
        exact ⟨rfl, .inr ⟨rfl, fun h => HB.out ⟨h.2.1, h.2.2.1⟩⟩⟩

end Qnt
end Go.Proofs.YtcaifpjbjghhaaaGreatDoor

/-
  Which planes are more than the document's package looks at. Conditions: as told at each.
-/
namespace Go.Proofs.YtcaifpjbjghhaaaGreatDoor
set_option linter.unusedVariables false
open Go.RowKit
namespace Sub
open Qnt (Hd FarL Yes Far_any)

def FarP (N : Nat) (l : Nat → Nat) (m : Nat → Nat → Nat) : Prop := 10 < N ∨ ∃ i, i < N ∧ FarL (l i) (m i)
set_option maxHeartbeats 1000000 in
theorem FarPlanes_any (hi : Nat) (v : Value) (N : Nat) (l : Nat → Nat) (m : Nat → Nat → Nat) (w : World) (h : L3 hi v N l m w) :
    Calls Tryz.prog 12 #[v] w fun e w' => Yes (FarP N l m) w e w' := by
  obtain ⟨ax, cx, rfl⟩ := h.form
  have HZ : Hid (L3 hi (.slice ax N cx) N l m w) := h
  clear h
  by_cases h10 : 10 < N
  · have h10' : (10 : Int) < N := by omega
    go_enter Tryz.func12, Tryz.ntmps12
    go_wp2
    go_ret
    exact ⟨rfl, .inl ⟨rfl, .inl h10⟩⟩
  · have h10' : ¬ (10 : Int) < N := by omega
    have h11 : (N : Int) ≤ 10 := by omega
    go_enter Tryz.func12, Tryz.ntmps12
    go_wp2
    go_loopw [3] (fun i wr => ∃ q : Nat, q ≤ N ∧ i = .int .i64 q ∧ wr = w ∧ ∀ k, k < q → ¬ FarL (l k) (m k)) (fun i _ => N - (intOf i).toNat)
    case atStart => exact ⟨0, by omega, rfl, rfl, fun k hk => absurd hk (by omega)⟩
    case round =>
      obtain ⟨q, hq, rfl, hw, hall⟩ := hrel
      subst hw
      have HA : Hid _ := hall
      clear hall
      by_cases hlt : q < N
      · have hlt' : (q : Int) < N := by omega
        obtain ⟨b, off, rfl, _, hx⟩ := HZ.out.at (by omega)
        obtain ⟨a3, c3, hu, hh⟩ := hx q hlt
        have hf := Far_any hi _ (l q) (m q) wr hh
        clear hx hh
        obtain ⟨z, hz⟩ : ∃ z, l q = z := ⟨_, rfl⟩
        rw [hz] at hu hf
        have HZq : Hid (l q = z) := hz
        clear hz
        by_cases hF : FarL z (m q)
        · have HF : Hid (FarL z (m q)) := hF
          have hf' : Calls Tryz.prog 41 #[.slice a3 z c3] wr fun e w' => e = .returned (.bool true) ∧ w' = wr := hf.mono fun e w' h => h.yes hF
          clear hF hf
          go_wp2_with (go_at_call 41; refine hf'.mono ?_; clear hf'; rintro e w3 ⟨rfl, rfl⟩)
          go_ret
          exact ⟨rfl, .inl ⟨rfl, .inr ⟨q, hlt, by rw [HZq.out]; exact HF.out⟩⟩⟩
        · have HF : Hid (¬ FarL z (m q)) := hF
          have hf' : Calls Tryz.prog 41 #[.slice a3 z c3] wr fun e w' => e = .returned (.bool false) ∧ w' = wr := hf.mono fun e w' h => h.no hF
          clear hF hf
          go_wp2_with (go_at_call 41; refine hf'.mono ?_; clear hf'; rintro e w3 ⟨rfl, rfl⟩)
          go_roundw
          case rel =>
            refine ⟨q + 1, by omega, by go_num, by first | rfl | trivial, fun j hj => ?_⟩
            rcases (by omega : j < q ∨ j = q) with h | rfl
            · exact HA.out j h
            · rw [HZq.out]; exact HF.out
          case measure => simp [intOf]; omega
      · obtain rfl : q = N := by omega
        go_wp2
        go_ret
        refine ⟨rfl, .inr ⟨rfl, ?_⟩⟩
        rintro (h | ⟨i, hi', h⟩)
        · exact h10 h
        · exact HA.out i hi' h

end Sub
end Go.Proofs.YtcaifpjbjghhaaaGreatDoor

