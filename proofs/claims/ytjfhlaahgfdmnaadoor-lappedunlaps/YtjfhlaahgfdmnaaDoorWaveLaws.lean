/-
  Walks of the laws of layer 3 (wave): sines of any angle, and their turns. Conditions: each number fits its kind; the polynomial's numbers stand as their initialiser lays them.
-/
import Derived.Test.YtjfhlaahgfdmnaaDoorWaveRef
import Derived.Test.YtjfhlaahgfdmnaaDoorWaveNear
namespace Go.Proofs.YtjfhlaahgfdmnaaDoor
open Go.RowKit
namespace Wave

theorem grown_drewN {W w' : World} (h : Grown W w') (n : Nat) : Grown W (w'.drewN n) := h

theorem cos_tmod (n : Int) {d : Int} (d0 : 1 ≤ d) : M.sine (4 * n.tmod d + d) (4 * d) = M.cosine n d := by
  unfold M.cosine
  rcases tmod_cases n d0 with ⟨_, h⟩ | ⟨_, h⟩
  · rw [h]
  · rw [← h, ← M.sine_turns (4 * n.tmod d + d) 1]
    congr 1; omega

theorem refCosine_all (n d : Int) (w : World) :
    Calls Tryd.prog 48 #[.int .i64 n, .int .i64 d] w fun e w' => e = .returned (.tuple #[.int .i16 (M.cosineI n d), .int .i64 (M.waveE d)]) ∧ w' = w := by
  rcases (by omega : d < 1 ∨ 1048576 < d ∨ (1 ≤ d ∧ d ≤ 1048576)) with h | h | ⟨d0, d1⟩
  · have e1 : M.cosineI n d = 0 := if_neg (by omega)
    have e2 : M.waveE d = 1 := if_neg (by omega)
    rw [e1, e2]
    go_enter Tryd.func48, Tryd.ntmps48
    go_wp2
    go_ret2
    exact ⟨rfl, rfl⟩
  · have e1 : M.cosineI n d = 0 := if_neg (by omega)
    have e2 : M.waveE d = 1 := if_neg (by omega)
    have h' : ¬ d < 1 := by omega
    rw [e1, e2]
    go_enter Tryd.func48, Tryd.ntmps48
    go_wp2
    go_ret2
    exact ⟨rfl, rfl⟩
  · have e1 : M.cosineI n d = M.sine (4 * n.tmod d + d) (4 * d) := by rw [cos_tmod n d0]; exact if_pos ⟨d0, d1⟩
    have e2 : M.waveE d = 0 := if_pos ⟨d0, d1⟩
    rw [e1, e2]
    have hd0 : ¬ d = 0 := by omega
    have hc := tmod_cases n d0
    have hb := M.mod_bd n d0
    generalize hC : n.tmod d = c at *
    generalize n % d = m at *
    have c0 : -1048576 ≤ c := by omega
    have c1 : c ≤ 1048576 := by omega
    clear hc hb e1
    go_enter Tryd.func48, Tryd.ntmps48
    go_wp2_with (go_at_call 44; refine (Of_any _ _ _ (by omega) (by omega)).mono ?_; rintro e w' ⟨rfl, rfl⟩)
    go_ret2
    exact ⟨rfl, rfl⟩

end Wave
end Go.Proofs.YtjfhlaahgfdmnaaDoor
