/-
  The walks of the laws alive and FixOrder of layer 1 (fix), out of the contracts. Conditions: each number fits its kind.
-/
import Derived.Test.YtffencnmljfafaaFixWalks
import Derived.ProofKit
import Derived.OpenShut
namespace Go.Proofs.Ytffencnmljfafaa
open Go.RowKit

theorem grown_drewN {W w' : World} (h : Grown W w') (n : Nat) : Grown W (w'.drewN n) := h
theorem bd64 {n : Int} (h : (Lit.int .i64 n).wf = true) : -9223372036854775808 ≤ n ∧ n ≤ 9223372036854775807 := by
  simpa [Lit.wf, IntKind.min, IntKind.max, IntKind.signed, IntKind.bits] using h
theorem bd32 {n : Int} (h : (Lit.int .i32 n).wf = true) : -2147483648 ≤ n ∧ n ≤ 2147483647 := by
  simpa [Lit.wf, IntKind.min, IntKind.max, IntKind.signed, IntKind.bits] using h
theorem bd16 {n : Int} (h : (Lit.int .i16 n).wf = true) : -32768 ≤ n ∧ n ≤ 32767 := by
  simpa [Lit.wf, IntKind.min, IntKind.max, IntKind.signed, IntKind.bits] using h

theorem alive_any (w : World) :
    Calls Try.prog 7 #[] w fun e w' => e = .returned (.bool true) ∧ ∃ m, w' = w.drewN m := by
  have e1 : M.rnd 3 1 = 2 := by decide
  have e2 : M.rnd (-3) 1 = -1 := by decide
  have e3 : M.sat32 (M.rnd 4611686018427387904 31) = 2147483647 := by decide
  have e4 : M.spare 1 = 30 := by decide
  go_enter Try.func7, Try.ntmps7
  go_wp2_with (first
    | (go_at_call 18; refine (Round_any _ _ _ (by decide) (by decide)).mono ?_; rintro e w' ⟨rfl, m, rfl⟩)
    | (go_at_call 13; refine (Mul31_any _ _ _ (by decide) (by decide)).mono ?_; rintro e w' ⟨rfl, m, rfl⟩)
    | (go_at_call 14; refine (Spare_any _ _ (by decide)).mono ?_; rintro e w' ⟨rfl, rfl⟩))
  go_ret
  exact ⟨rfl, _, rfl⟩

theorem clip_cases (a lo hi : Int) : (a < lo ∧ M.clip a lo hi = lo) ∨ (lo ≤ a ∧ hi < a ∧ M.clip a lo hi = hi) ∨ (lo ≤ a ∧ a ≤ hi ∧ M.clip a lo hi = a) := by
  unfold M.clip; (repeat' split) <;> omega

set_option maxHeartbeats 4000000 in
theorem FixOrder_up (a0 a1 a2 a3 a4 : Int) (w : World) (b01 : -9223372036854775808 ≤ a0) (b02 : a0 ≤ 9223372036854775807) (b11 : -9223372036854775808 ≤ a1) (b12 : a1 ≤ 9223372036854775807) (hs : a0 ≤ a1) :
    Calls Try.prog 6 #[.int .i64 a0, .int .i64 a1, .int .i64 a2, .int .i64 a3, .int .i64 a4] w fun e w' => e = .returned (.bool true) ∧ Grown w w' := by
  have hs' : a0 ≤ a1 := by omega
  have h1 := M.rnd_mono a0 a1 a2 hs'
  have h2 : M.sat16 a0 ≤ M.sat16 a1 := M.clip_mono hs' (by decide)
  have h3 : M.sat32 a0 ≤ M.sat32 a1 := M.clip_mono hs' (by decide)
  rcases Int.lt_or_le a4 a3 with hl | hl
  · rcases clip_cases a0 (-32768) 32767 with ⟨g1, g⟩ | ⟨g1, g2, g⟩ | ⟨g1, g2, g⟩ <;> rcases clip_cases a0 a3 a4 with ⟨k1, k⟩ | ⟨k1, k2, k⟩ | ⟨k1, k2, k⟩ <;>
      first | (exfalso; omega) | skip
    all_goals
      have g' : M.sat16 a0 = _ := g
      rw [g'] at h2
      clear g hs'
      go_enter Try.func6, Try.ntmps6
      go_wp2_with (first
        | (go_at_call 7; refine (alive_any _).mono ?_; rintro e w' ⟨rfl, m, rfl⟩)
        | (go_at_call 18; refine (Round_any _ _ _ (by omega) (by omega)).mono ?_; rintro e w' ⟨rfl, m, rfl⟩)
        | (go_at_call 19; refine (Sat16_any _ _ (by omega) (by omega)).mono ?_; rintro e w' ⟨rfl, rfl⟩)
        | (go_at_call 20; refine (Sat32_any _ _ (by omega) (by omega)).mono ?_; rintro e w' ⟨rfl, rfl⟩)
        | (go_at_call 21; refine (Clip_any _ _ _ _).mono ?_; rintro e w' ⟨rfl, rfl⟩))
      go_ret
      exact ⟨rfl, grown_drewN (Grown.refl _) _⟩
  · have hm := M.clip_mono hs' hl
    have q1 : a3 ≤ M.clip a1 a3 a4 := M.le_clip hl
    have q2 : M.clip a1 a3 a4 ≤ a4 := M.clip_le hl
    rcases clip_cases a0 (-32768) 32767 with ⟨g1, g⟩ | ⟨g1, g2, g⟩ | ⟨g1, g2, g⟩ <;> rcases clip_cases a0 a3 a4 with ⟨k1, k⟩ | ⟨k1, k2, k⟩ | ⟨k1, k2, k⟩
    all_goals
      have g' : M.sat16 a0 = _ := g
      rw [g'] at h2
      rw [k] at hm
      clear g hs'
      go_enter Try.func6, Try.ntmps6
      go_wp2_with (first
        | (go_at_call 7; refine (alive_any _).mono ?_; rintro e w' ⟨rfl, m, rfl⟩)
        | (go_at_call 18; refine (Round_any _ _ _ (by omega) (by omega)).mono ?_; rintro e w' ⟨rfl, m, rfl⟩)
        | (go_at_call 19; refine (Sat16_any _ _ (by omega) (by omega)).mono ?_; rintro e w' ⟨rfl, rfl⟩)
        | (go_at_call 20; refine (Sat32_any _ _ (by omega) (by omega)).mono ?_; rintro e w' ⟨rfl, rfl⟩)
        | (go_at_call 21; refine (Clip_any _ _ _ _).mono ?_; rintro e w' ⟨rfl, rfl⟩))
      go_ret
      exact ⟨rfl, grown_drewN (Grown.refl _) _⟩

set_option maxHeartbeats 4000000 in
theorem FixOrder_down (a0 a1 a2 a3 a4 : Int) (w : World) (b01 : -9223372036854775808 ≤ a0) (b02 : a0 ≤ 9223372036854775807) (b11 : -9223372036854775808 ≤ a1) (b12 : a1 ≤ 9223372036854775807) (hs : a0 < a1) :
    Calls Try.prog 6 #[.int .i64 a1, .int .i64 a0, .int .i64 a2, .int .i64 a3, .int .i64 a4] w fun e w' => e = .returned (.bool true) ∧ Grown w w' := by
  have hs' : a0 ≤ a1 := by omega
  have h1 := M.rnd_mono a0 a1 a2 hs'
  have h2 : M.sat16 a0 ≤ M.sat16 a1 := M.clip_mono hs' (by decide)
  have h3 : M.sat32 a0 ≤ M.sat32 a1 := M.clip_mono hs' (by decide)
  rcases Int.lt_or_le a4 a3 with hl | hl
  · rcases clip_cases a0 (-32768) 32767 with ⟨g1, g⟩ | ⟨g1, g2, g⟩ | ⟨g1, g2, g⟩ <;> rcases clip_cases a0 a3 a4 with ⟨k1, k⟩ | ⟨k1, k2, k⟩ | ⟨k1, k2, k⟩ <;>
      first | (exfalso; omega) | skip
    all_goals
      have g' : M.sat16 a0 = _ := g
      rw [g'] at h2
      clear g hs'
      go_enter Try.func6, Try.ntmps6
      go_wp2_with (first
        | (go_at_call 7; refine (alive_any _).mono ?_; rintro e w' ⟨rfl, m, rfl⟩)
        | (go_at_call 18; refine (Round_any _ _ _ (by omega) (by omega)).mono ?_; rintro e w' ⟨rfl, m, rfl⟩)
        | (go_at_call 19; refine (Sat16_any _ _ (by omega) (by omega)).mono ?_; rintro e w' ⟨rfl, rfl⟩)
        | (go_at_call 20; refine (Sat32_any _ _ (by omega) (by omega)).mono ?_; rintro e w' ⟨rfl, rfl⟩)
        | (go_at_call 21; refine (Clip_any _ _ _ _).mono ?_; rintro e w' ⟨rfl, rfl⟩))
      go_ret
      exact ⟨rfl, grown_drewN (Grown.refl _) _⟩
  · have hm := M.clip_mono hs' hl
    have q1 : a3 ≤ M.clip a1 a3 a4 := M.le_clip hl
    have q2 : M.clip a1 a3 a4 ≤ a4 := M.clip_le hl
    rcases clip_cases a0 (-32768) 32767 with ⟨g1, g⟩ | ⟨g1, g2, g⟩ | ⟨g1, g2, g⟩ <;> rcases clip_cases a0 a3 a4 with ⟨k1, k⟩ | ⟨k1, k2, k⟩ | ⟨k1, k2, k⟩
    all_goals
      have g' : M.sat16 a0 = _ := g
      rw [g'] at h2
      rw [k] at hm
      clear g hs'
      go_enter Try.func6, Try.ntmps6
      go_wp2_with (first
        | (go_at_call 7; refine (alive_any _).mono ?_; rintro e w' ⟨rfl, m, rfl⟩)
        | (go_at_call 18; refine (Round_any _ _ _ (by omega) (by omega)).mono ?_; rintro e w' ⟨rfl, m, rfl⟩)
        | (go_at_call 19; refine (Sat16_any _ _ (by omega) (by omega)).mono ?_; rintro e w' ⟨rfl, rfl⟩)
        | (go_at_call 20; refine (Sat32_any _ _ (by omega) (by omega)).mono ?_; rintro e w' ⟨rfl, rfl⟩)
        | (go_at_call 21; refine (Clip_any _ _ _ _).mono ?_; rintro e w' ⟨rfl, rfl⟩))
      go_ret
      exact ⟨rfl, grown_drewN (Grown.refl _) _⟩

theorem FixOrder_walk (a0 a1 a2 a3 a4 : Int) (w0 : (Lit.int .i64 a0).wf = true) (w1 : (Lit.int .i64 a1).wf = true) (w : World) :
    Calls Try.prog 6 #[.int .i64 a0, .int .i64 a1, .int .i64 a2, .int .i64 a3, .int .i64 a4] w fun e w' => e = .returned (.bool true) ∧ Grown w w' := by
  obtain ⟨b01, b02⟩ := bd64 w0
  obtain ⟨b11, b12⟩ := bd64 w1
  rcases Int.lt_or_le a1 a0 with h | h
  · exact FixOrder_down a1 a0 a2 a3 a4 w b11 b12 b01 b02 h
  · exact FixOrder_up a0 a1 a2 a3 a4 w b01 b02 b11 b12 h

end Go.Proofs.Ytffencnmljfafaa
