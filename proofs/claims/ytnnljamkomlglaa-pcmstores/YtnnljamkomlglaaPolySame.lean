/-
  When two lists are the same: the contracts of the document's comparisons for two that are. Conditions: none.
-/
import Derived.Test.YtnnljamkomlglaaLists
namespace Go.Proofs.Ytnnljamkomlglaa
set_option linter.unusedVariables false
open Go.RowKit
namespace Poly
open Bank (Blk But)

set_option maxRecDepth 100000 in
theorem same16 (lo1 hi1 lo2 hi2 : Nat) (v1 v2 : Value) (xs : List Int) (w : World) (h1 : Reads .i16 lo1 hi1 w v1 xs) (h2 : Reads .i16 lo2 hi2 w v2 xs) (hl : xs.length ≤ 1000000) :
    Calls Try.prog 13 #[v1, v2] w fun e w' => e = .returned (.bool true) ∧ ∃ m, w' = w.drewN m := by
  obtain ⟨a1, c1, rfl⟩ := h1.form
  obtain ⟨a2, c2, rfl⟩ := h2.form
  obtain ⟨n, hlen⟩ : ∃ n, xs.length = n := ⟨_, rfl⟩
  rcases Nat.eq_zero_or_pos n with rfl | hpos
  · rw [hlen]
    clear h1 h2 hl hlen
    go_enter Try.func13, Try.ntmps13
    go_wp2
    refine wp_loop_rounds 1 ?_
    rw [rounds_succ]
    go_wp2
    go_ret
    exact ⟨rfl, 0, rfl⟩
  · obtain ⟨g1, o1, rfl, _, _, r1⟩ := h1.cell (by omega)
    obtain ⟨g2, o2, rfl, _, _, r2⟩ := h2.cell (by omega)
    rw [hlen] at r1 r2 ⊢
    have hl' : (n : Int) ≤ 1000000 := by omega
    have R1 : Hid (∀ i, i < n → w.cell? ⟨g1, o1 + i, none⟩ = some (.int .i16 (xs.getD i 0))) := r1
    have R2 : Hid (∀ i, i < n → w.cell? ⟨g2, o2 + i, none⟩ = some (.int .i16 (xs.getD i 0))) := r2
    clear hlen r1 r2 hl h1 h2
    go_enter Try.func13, Try.ntmps13
    go_wp2
    go_loopw [5] (fun i wr => ∃ k : Nat, k ≤ n ∧ i = .int .i64 k ∧ ∃ m, wr = w.drewN m) (fun i _ => n - (intOf i).toNat)
    case atStart => exact ⟨0, by omega, rfl, 0, rfl⟩
    case round =>
      obtain ⟨k, hk, rfl, m, rfl⟩ := hrel
      by_cases hlt : k < n
      · have hlt' : (k : Int) < n := by omega
        have hb : (0 : Int) ≤ k ∧ (k : Int) < n := by omega
        have q1 := R1.out k hlt
        have q2 := R2.out k hlt
        generalize xs.getD k 0 = x at q1 q2
        go_wp2
        go_quiet (fail)
        go_wp2
        go_roundw
        case rel => exact ⟨k + 1, by omega, by go_num, _, rfl⟩
        case measure => simp [intOf]; omega
      · obtain rfl : k = n := by omega
        go_wp2
        go_ret
        exact ⟨rfl, _, rfl⟩

end Poly
end Go.Proofs.Ytnnljamkomlglaa
