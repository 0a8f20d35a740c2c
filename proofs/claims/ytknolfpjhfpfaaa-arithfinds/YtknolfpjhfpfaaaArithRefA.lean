/-
  Contracts of the document's small calls for layer 7 (psalteryref07): Total, Floor. Conditions: the table stands in memory.
-/
import Derived.Test.YtknolfpjhfpfaaaArithLaws
namespace Go.Proofs.Ytknolfpjhfpfaaa
set_option linter.unusedVariables false
open Go.RowKit
namespace Ari
open Bits (Blk But add_at wrap_id bytesL)
open Num (Ints)

/-- what Total answers -/
def totT (t : List Int) : Int := @ite Int (M.Tab t) (M.tabDec t) t.sum 0

theorem Total_any (v : Value) (t : List Int) (w : World) (hv : Ints w v t) (hl : t.length ≤ 65536) :
    Calls Try.prog 13 #[v] w fun e w' => e = .returned (.int .i64 (totT t)) ∧ w' = w := by
  obtain ⟨a, c, rfl, hc⟩ := hv.form
  go_enter Try.func13, Try.ntmps13
  go_wp2
  go_loopw [3, 4] (fun f i wr => ∃ m : Nat, m ≤ t.length ∧ f = .int .i64 (M.flo t m) ∧ i = .int .i64 m ∧ wr = w ∧ (∀ j x, j < m → t[j]? = some x → 1 ≤ x) ∧ 0 ≤ M.flo t m ∧ M.flo t m ≤ 4096) (fun _ i _ => t.length - (intOf i).toNat)
  case atStart => exact ⟨0, by omega, by rw [M.flo_zero], rfl, rfl, fun j x hj => absurd hj (by omega), by rw [M.flo_zero]; omega, by rw [M.flo_zero]; omega⟩
  case round =>
    obtain ⟨m, hm, rfl, rfl, rfl, hone, k5, k6⟩ := hrel
    by_cases hlt : m < t.length
    · obtain ⟨x, hx⟩ : ∃ x, t[m]? = some x := ⟨_, List.getElem?_eq_getElem hlt⟩
      obtain ⟨b0, off, rfl, hb0, hcell⟩ := hv.cell hx
      have e1 := M.flo_succ hx
      have i1' : (0 : Int) ≤ m := by omega
      have i2' : (m : Int) < t.length := by omega
      have hmem := List.mem_of_getElem? hx
      obtain ⟨F, hF⟩ : ∃ F, F = M.flo t m := ⟨_, rfl⟩
      have hF' : Hid (F = M.flo t m) := hF
      rw [← hF] at e1 k5 k6 ⊢
      clear hF
      by_cases hx1 : x < 1
      · have e : totT t = 0 := if_neg (fun h => by have := h.2.2.1 x hmem; omega)
        clear e1
        go_wp2
        go_ret
        exact ⟨by first | rfl | (rw [e]; rfl), rfl⟩
      · by_cases hx2 : 4096 < x
        · have e : totT t = 0 := if_neg (fun h => by
            have h3 := (h.flo_le (s := m + 1) (by omega)).2.1
            have h4 := h.2.2.2
            rw [e1] at h3; omega)
          clear e1
          go_wp2
          go_ret
          exact ⟨by first | rfl | (rw [e]; rfl), rfl⟩
        · by_cases hx3 : 4096 < F + x
          · have e : totT t = 0 := if_neg (fun h => by
              have h3 := (h.flo_le (s := m + 1) (by omega)).2.1
              have h4 := h.2.2.2
              rw [e1] at h3; omega)
            clear e1
            go_wp2
            go_ret
            exact ⟨by first | rfl | (rw [e]; rfl), rfl⟩
          · replace e1 : Hid (M.flo t (m + 1) = F + x) := e1
            go_wp2
            go_roundw
            case rel =>
              have e2 : M.flo t (m + 1) = F + x := e1
              refine ⟨m + 1, by omega, ?_, by go_num, by first | rfl | trivial, fun j y hj hy => ?_, by omega, by omega⟩
              · rw [e2]
              · rcases Nat.lt_or_ge j m with h | h
                · exact hone j y h hy
                · obtain rfl : j = m := by omega
                  rw [hx] at hy; cases hy; omega
            case measure => simp [intOf]; omega
    · obtain rfl : m = t.length := by omega
      rw [M.flo_all] at k5 k6 ⊢
      have hall : ∀ x ∈ t, 1 ≤ x := fun x hx => by
        obtain ⟨j, hj, he⟩ := List.getElem_of_mem hx
        exact hone j x hj (by rw [← he]; exact List.getElem?_eq_getElem hj)
      obtain ⟨F, hF⟩ : ∃ F, F = t.sum := ⟨_, rfl⟩
      by_cases h1 : t.length < 2
      · have e : totT t = 0 := if_neg (fun h => by have := h.1; omega)
        have i1 : (t.length : Int) < 2 := by omega
        rw [← hF]
        clear hF
        go_wp2
        go_ret
        exact ⟨by first | rfl | (rw [e]; rfl), rfl⟩
      · have i1 : ¬ (t.length : Int) < 2 := by omega
        by_cases h2 : 32 < t.length
        · have e : totT t = 0 := if_neg (fun h => by have := h.2.1; omega)
          have i2 : (32 : Int) < (t.length : Int) := by omega
          rw [← hF]
          clear hF
          go_wp2
          go_ret
          exact ⟨by first | rfl | (rw [e]; rfl), rfl⟩
        · have i2 : ¬ (32 : Int) < (t.length : Int) := by omega
          have e : totT t = F := by rw [hF]; exact if_pos ⟨by omega, by omega, hall, k6⟩
          rw [← hF]
          clear hF
          replace e : Hid (totT t = F) := e
          go_wp2
          go_ret
          exact ⟨by rw [show totT t = F from e]; rfl, rfl⟩

theorem Floor_any (v : Value) (t : List Int) (s : Nat) (w : World) (hv : Ints w v t) (ht : M.Tab t) (hs : s ≤ t.length) :
    Calls Try.prog 32 #[v, .int .i64 s] w fun e w' => e = .returned (.int .i64 (M.flo t s)) ∧ w' = w := by
  obtain ⟨a, c, rfl, hc⟩ := hv.form
  have h0 := flo_tab ht
  have t32 := ht.2.1
  go_enter Try.func32, Try.ntmps32
  go_wp2
  go_loopw [5, 6] (fun f i wr => ∃ m : Nat, m ≤ s ∧ f = .int .i64 (M.flo t m) ∧ i = .int .i64 m ∧ wr = w) (fun _ i _ => s - (intOf i).toNat)
  case atStart => exact ⟨0, by omega, by rw [M.flo_zero], rfl, rfl⟩
  case round =>
    obtain ⟨m, hm, rfl, rfl, rfl⟩ := hrel
    by_cases hlt : m < s
    · obtain ⟨x, hx⟩ : ∃ x, t[m]? = some x := ⟨_, List.getElem?_eq_getElem (by omega)⟩
      obtain ⟨b0, off, rfl, hb0, hcell⟩ := hv.cell hx
      have e1 := M.flo_succ hx
      have k1 := h0 m (by omega)
      have k2 := h0 (m + 1) (by omega)
      rw [e1] at k2
      have i1 : (0 : Int) ≤ m := by omega
      have i2 : (m : Int) < t.length := by omega
      have i3 : (m : Int) < s := by omega
      obtain ⟨F, hF⟩ : ∃ F, F = M.flo t m := ⟨_, rfl⟩
      rw [← hF] at e1 k1 k2 ⊢
      replace e1 : Hid (M.flo t (m + 1) = F + x) := e1
      clear hF h0
      obtain ⟨k3, k4⟩ := k2
      obtain ⟨k5, k6⟩ := k1
      go_wp2
      go_roundw
      case rel => exact ⟨m + 1, by omega, by rw [show M.flo t (m + 1) = _ from e1], by go_num, by first | rfl | trivial⟩
      case measure => simp [intOf]; omega
    · obtain rfl : m = s := by omega
      go_wp2
      go_ret
      exact ⟨rfl, rfl⟩

end Ari
end Go.Proofs.Ytknolfpjhfpfaaa
