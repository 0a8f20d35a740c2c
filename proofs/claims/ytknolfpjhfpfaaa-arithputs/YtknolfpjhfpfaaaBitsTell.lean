/-
  What pads and eyes tell: contracts of bits.Open, Left, Used, Bit, Bytes, of an object and of nil. Conditions: as told at each.
-/
import Derived.Test.YtknolfpjhfpfaaaBitsMake
namespace Go.Proofs.Ytknolfpjhfpfaaa
set_option linter.unusedVariables false
open Go.RowKit
namespace Bits

set_option maxRecDepth 100000 in
theorem Open_ok (v : Value) (xs : List Nat) (B : Nat → Bool) (w : World) (hs : Src w v xs) (hn : xs.length ≤ 512) (hB : ∀ i, i < xs.length → xs.getD i 0 = M.byteOf B i) :
    Calls Try.prog 21 #[v] w fun e w' => ∃ p b c d, e = .returned (.tuple #[.pointer (some ⟨p, 0, none⟩), .int .i64 0]) ∧ w.heap.size ≤ p ∧ w.heap.size ≤ b ∧ w.heap.size ≤ c ∧ w.heap.size ≤ d ∧
      p < w'.heap.size ∧ b < w'.heap.size ∧ c < w'.heap.size ∧ d < w'.heap.size ∧ Below w.heap.size w w' ∧ Own 81 w' p b c d xs.length B 0 0 := by
  have hcl := clone_src v xs w hs (by omega)
  obtain ⟨a, cap, rfl⟩ : ∃ a cap, v = .slice a xs.length cap := by
    rcases hs with ⟨rfl, rfl⟩ | ⟨a, cap, rfl, _⟩
    · exact ⟨none, 0, rfl⟩
    · exact ⟨some a, cap, rfl⟩
  have i2 : ¬ (512 : Int) < xs.length := by omega
  go_enter Try.func21, Try.ntmps21
  go_wp2_with (first
    | (go_at_call 37; refine hcl.mono ?_; rintro e w1 ⟨a', cap', rfl, hown, hbel⟩)
    | (go_at_call 38; refine (ends_any _ _).mono ?_; rintro e w' ⟨rfl, rfl⟩))
  go_ret2
  have hsz := hbel.size
  obtain ⟨d, hd, hD⟩ : ∃ d, w.heap.size ≤ d ∧ d < w1.heap.size + 1 ∧ Data w1 (.slice a' xs.length cap') d xs.length B := by
    rcases Nat.lt_or_ge w.heap.size w1.heap.size with h | h
    · obtain ⟨d, h1, h2, h3⟩ := owns_data hown hB h
      exact ⟨d, h1, by omega, h3⟩
    · obtain ⟨_, h' | ⟨g, cap, cur, he, hg, hh, _⟩⟩ := hown
      · obtain ⟨he, hx⟩ := h'
        rw [he]
        exact ⟨w.heap.size, Nat.le_refl _, by omega, none, 0, by rw [hx], fun h => by omega, fun _ => ⟨hx, rfl⟩⟩
      · have := (Array.getElem?_eq_some_iff.1 hh).1; omega
  refine ⟨_, _, _, d, rfl, ?_, ?_, ?_, ?_, ?_, ?_, ?_, ?_, ?_, own_new _ _ _ _ _ _ _ hD.2 rfl⟩
  case refine_9 => exact ((hbel.alloc (by omega) _).alloc (by simp; omega) _).alloc (by simp; omega) _
  all_goals first | omega | (simp; done) | (simp; omega)

theorem Open_hi (a : Option Addr) (n cap : Nat) (w : World) (hn : 512 < n) :
    Calls Try.prog 21 #[.slice a n cap] w fun e w' => e = .returned (.tuple #[.pointer none, .int .i64 2]) ∧ w' = w := by
  have i2 : (512 : Int) < n := by omega
  go_enter Try.func21, Try.ntmps21
  go_wp2
  go_ret2
  exact ⟨rfl, rfl⟩

set_option maxRecDepth 100000 in
theorem BitE (p b c d n h t : Nat) (i : Int) (B : Nat → Bool) (w : World) (ho : Own 81 w p b c d n B h t) (hn : n ≤ 512) :
    Calls Try.prog 50 #[.pointer (some ⟨p, 0, none⟩), .int .i64 i] w fun e w' => e = .returned (.int .i64 (if 0 ≤ i ∧ i < 8 * n then ((B i.toNat).toNat : Int) else 0)) ∧ ∃ m, w' = w.drewN m := by
  obtain ⟨h1, h2, h3⟩ := ho
  have hcore := h3
  obtain ⟨s, hB, a, cap, rfl, _⟩ := h3
  have c0 : w.cell? ⟨p, 0, none⟩ = some (.pointer (some ⟨b, 0, none⟩)) := h1.cell rfl
  by_cases h0 : i < 0
  · rw [if_neg (by omega)]
    go_enter Try.func50, Try.ntmps50
    go_wp2
    go_ret
    exact ⟨rfl, 0, rfl⟩
  · obtain ⟨j, rfl⟩ := Int.eq_ofNat_of_zero_le (Int.not_lt.1 h0)
    have hg : ¬ (j : Int) < 0 := by omega
    by_cases h1' : j < 8 * n
    · rw [if_pos (by omega)]
      have hg2 : ¬ ((8 * n : Nat) : Int) ≤ j := by omega
      obtain ⟨y, hy⟩ : ∃ y, y = (B j).toNat := ⟨_, rfl⟩
      have hy1 : y ≤ 1 := by rw [hy]; exact Bool.toNat_le _
      have e1 : (j : Int).toNat = j := by omega
      rw [e1, ← hy]
      go_enter Try.func50, Try.ntmps50
      go_wp2_with (first
        | (go_at_call 49; refine (size_any b n cap a _ _ _ hB hn).mono ?_; rintro e w' ⟨rfl, rfl⟩)
        | (go_at_call 51; refine (at_any b d n h t j B _ hcore hn h1').mono ?_; rw [← hy]; rintro e w' ⟨rfl, m, rfl⟩))
      go_ret
      refine ⟨?_, _, rfl⟩
      subst hy
      rfl
    · rw [if_neg (by omega)]
      have hg2 : ((8 * n : Nat) : Int) ≤ j := by omega
      go_enter Try.func50, Try.ntmps50
      go_wp2_with (go_at_call 49; refine (size_any b n cap a _ _ _ hB hn).mono ?_; rintro e w' ⟨rfl, rfl⟩)
      go_ret
      exact ⟨rfl, 0, rfl⟩

/-- the bytes of n times 8 bits -/
def bytesL (n : Nat) (B : Nat → Bool) : List Nat := (List.range n).map (M.byteOf B)
theorem bytesL_length (n : Nat) (B : Nat → Bool) : (bytesL n B).length = n := by simp [bytesL]
theorem bytesL_getD {n : Nat} (B : Nat → Bool) {i : Nat} (h : i < n) : (bytesL n B).getD i 0 = M.byteOf B i := by simp [bytesL, List.getD, h]

theorem NilE_Bit (k : Int) (w : World) : Calls Try.prog 50 #[.pointer none, .int .i64 k] w fun e w' => e = .returned (.int .i64 0) ∧ w' = w := by
  go_enter Try.func50, Try.ntmps50
  go_wp2
  go_ret
  exact ⟨rfl, rfl⟩

end Bits
end Go.Proofs.Ytknolfpjhfpfaaa
