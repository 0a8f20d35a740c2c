/-
  Walks of the laws of layer 3 (wave): sines of any angle, and their turns. Conditions: each number fits its kind; the polynomial's numbers stand as their initialiser lays them.
-/
import Derived.Test.YtpbkifimfggncaaDoorWaveRef
import Derived.Test.YtpbkifimfggncaaDoorWaveNear
namespace Go.Proofs.YtpbkifimfggncaaDoor
open Go.RowKit
namespace Wave

theorem grown_drewN {W w' : World} (h : Grown W w') (n : Nat) : Grown W (w'.drewN n) := h

theorem refSine_all (n d : Int) (w : World) :
    Calls Tryd.prog 8 #[.int .i64 n, .int .i64 d] w fun e w' => e = .returned (.tuple #[.int .i16 (M.sineI n d), .int .i64 (M.waveE d)]) ∧ w' = w := by
  rcases (by omega : d < 1 ∨ 1048576 < d ∨ (1 ≤ d ∧ d ≤ 1048576)) with h | h | ⟨d0, d1⟩
  · have e1 : M.sineI n d = 0 := if_neg (by omega)
    have e2 : M.waveE d = 1 := if_neg (by omega)
    rw [e1, e2]
    go_enter Tryd.func8, Tryd.ntmps8
    go_wp2
    go_ret2
    exact ⟨rfl, rfl⟩
  · have e1 : M.sineI n d = 0 := if_neg (by omega)
    have e2 : M.waveE d = 1 := if_neg (by omega)
    have h' : ¬ d < 1 := by omega
    rw [e1, e2]
    go_enter Tryd.func8, Tryd.ntmps8
    go_wp2
    go_ret2
    exact ⟨rfl, rfl⟩
  · have e1 : M.sineI n d = M.sine n d := if_pos ⟨d0, d1⟩
    have e2 : M.waveE d = 0 := if_pos ⟨d0, d1⟩
    rw [e1, e2]
    go_enter Tryd.func8, Tryd.ntmps8
    go_wp2_with (go_at_call 12; refine (Of_any _ _ _ d0 (by omega)).mono ?_; rintro e w' ⟨rfl, rfl⟩)
    go_ret2
    exact ⟨rfl, rfl⟩

theorem cos_tmod (n : Int) {d : Int} (d0 : 1 ≤ d) : M.sine (4 * n.tmod d + d) (4 * d) = M.cosine n d := by
  unfold M.cosine
  rcases tmod_cases n d0 with ⟨_, h⟩ | ⟨_, h⟩
  · rw [h]
  · rw [← h, ← M.sine_turns (4 * n.tmod d + d) 1]
    congr 1; omega

theorem refCosine_all (n d : Int) (w : World) :
    Calls Tryd.prog 10 #[.int .i64 n, .int .i64 d] w fun e w' => e = .returned (.tuple #[.int .i16 (M.cosineI n d), .int .i64 (M.waveE d)]) ∧ w' = w := by
  rcases (by omega : d < 1 ∨ 1048576 < d ∨ (1 ≤ d ∧ d ≤ 1048576)) with h | h | ⟨d0, d1⟩
  · have e1 : M.cosineI n d = 0 := if_neg (by omega)
    have e2 : M.waveE d = 1 := if_neg (by omega)
    rw [e1, e2]
    go_enter Tryd.func10, Tryd.ntmps10
    go_wp2
    go_ret2
    exact ⟨rfl, rfl⟩
  · have e1 : M.cosineI n d = 0 := if_neg (by omega)
    have e2 : M.waveE d = 1 := if_neg (by omega)
    have h' : ¬ d < 1 := by omega
    rw [e1, e2]
    go_enter Tryd.func10, Tryd.ntmps10
    go_wp2
    go_ret2
    exact ⟨rfl, rfl⟩
  · have e1 : M.cosineI n d = M.sine (4 * n.tmod d + d) (4 * d) := by rw [cos_tmod n d0]; exact if_pos ⟨d0, d1⟩
    have e2 : M.waveE d = 0 := if_pos ⟨d0, d1⟩
    rw [e1, e2]
    have hd0 : ¬ d = 0 := by omega
    have hc := tmod_cases n d0
    have hb := M.mod_bd n d0
    generalize hC : n.tmod d = c at *
    generalize n % d = m at *
    have c0 : -1048576 ≤ c := by omega
    have c1 : c ≤ 1048576 := by omega
    clear hc hb e1
    go_enter Tryd.func10, Tryd.ntmps10
    go_wp2_with (go_at_call 12; refine (Of_any _ _ _ (by omega) (by omega)).mono ?_; rintro e w' ⟨rfl, rfl⟩)
    go_ret2
    exact ⟨rfl, rfl⟩

theorem alive_any (w : World) (hT : Tab w) :
    Calls Tryd.prog 6 #[] w fun e w' => e = .returned (.bool true) ∧ ∃ m, w' = w.drewN m := by
  have e1 : M.sineI 1 8 = 23170 := by decide +kernel
  have e2 : M.sineI 1 4 = 32767 := by decide +kernel
  have e3 : M.sineI 3 4 = -32767 := by decide +kernel
  have e4 : M.sineI 1 12 = 16384 := by decide +kernel
  have e5 : M.waveE 8 = 0 := by decide
  have e6 : M.waveE 4 = 0 := by decide
  have e7 : M.waveE 12 = 0 := by decide
  go_enter Tryd.func6, Tryd.ntmps6
  go_wp2_with (go_at_call 7; refine (Sine_all _ _ _ (by first | exact hT | exact Tab.drewN hT _) (by decide) (by decide)).mono ?_; rintro e w' ⟨rfl, m, rfl⟩)
  go_ret
  exact ⟨rfl, _, rfl⟩

theorem WaveSines_walk (a0 a1 : Int) (w0 : (Lit.int .i64 a0).wf = true) (w : World) (hT : Tab w) :
    Calls Tryd.prog 3 #[.int .i64 a0, .int .i64 a1] w fun e w' => e = .returned (.bool true) ∧ Grown w w' := by
  have ⟨h0, h1⟩ : -9223372036854775808 ≤ a0 ∧ a0 ≤ 9223372036854775807 := by simpa [Lit.wf, IntKind.min, IntKind.max, IntKind.signed, IntKind.bits] using w0
  clear w0
  go_enter Tryd.func3, Tryd.ntmps3
  go_wp2_with (first
    | (go_at_call 6; refine (alive_any _ hT).mono ?_; rintro e w' ⟨rfl, m, rfl⟩)
    | (go_at_call 7; refine (Sine_all _ _ _ (Tab.drewN hT _) h0 h1).mono ?_; rintro e w' ⟨rfl, m, rfl⟩)
    | (go_at_call 8; refine (refSine_all _ _ _).mono ?_; rintro e w' ⟨rfl, rfl⟩)
    | (go_at_call 9; refine (Cosine_all _ _ _ (Tab.drewN hT _) h0 h1).mono ?_; rintro e w' ⟨rfl, m, rfl⟩)
    | (go_at_call 10; refine (refCosine_all _ _ _).mono ?_; rintro e w' ⟨rfl, rfl⟩))
  go_ret
  exact ⟨rfl, grown_drewN (Grown.refl _) _⟩

theorem WaveTurns_walk (a0 a1 a2 : Int) (w0 : (Lit.int .i32 a0).wf = true) (w1 : (Lit.int .u16 a1).wf = true) (w2 : (Lit.int .u16 a2).wf = true) (w : World) (hT : Tab w) :
    Calls Tryd.prog 5 #[.int .i32 a0, .int .u16 a1, .int .u16 a2] w fun e w' => e = .returned (.bool true) ∧ Grown w w' := by
  have ⟨n0, n1⟩ : -2147483648 ≤ a0 ∧ a0 ≤ 2147483647 := by simpa [Lit.wf, IntKind.min, IntKind.max, IntKind.signed, IntKind.bits] using w0
  have ⟨d0, d1⟩ : 0 ≤ a1 ∧ a1 ≤ 65535 := by simpa [Lit.wf, IntKind.min, IntKind.max, IntKind.signed, IntKind.bits] using w1
  have ⟨t0, t1⟩ : 0 ≤ a2 ∧ a2 ≤ 65535 := by simpa [Lit.wf, IntKind.min, IntKind.max, IntKind.signed, IntKind.bits] using w2
  clear w0 w1 w2
  obtain ⟨k, hk⟩ : ∃ k : Int, 1 + a2 % 16 = k := ⟨_, rfl⟩
  have k0 : 1 ≤ k := by omega
  have k1 : k ≤ 16 := by omega
  obtain ⟨d, hd⟩ : ∃ d : Int, 1 + a1 = d := ⟨_, rfl⟩
  have D0 : 1 ≤ d := by omega
  have D1 : d ≤ 65536 := by omega
  have kd := M.mul_bd k d 16 65536 (by omega) (by omega) (by omega) (by omega)
  have nk := M.mul_bd a0 k 2147483648 16 (by omega) (by omega) (by omega) (by omega)
  have dk := M.mul_bd d k 65536 16 (by omega) (by omega) (by omega) (by omega)
  have dk0 : 1 ≤ d * k := Int.mul_pos (by omega) (by omega)
  have e1 : M.sineI a0 d = M.sine a0 d := if_pos (by omega)
  have e2 : M.sineI (-a0) d = -M.sine a0 d := by unfold M.sineI; rw [if_pos (by omega), M.sine_neg _ D0]
  have e3 : M.sineI (a0 + k * d) d = M.sine a0 d := by unfold M.sineI; rw [if_pos (by omega), M.sine_turns]
  have e4 : M.sineI (a0 * k) (d * k) = M.sine a0 d := by unfold M.sineI; rw [if_pos (by omega), M.sine_finer _ k0]
  have e5 : M.cosineI a0 d = M.cosine a0 d := if_pos (by omega)
  have f1 : M.waveE d = 0 := if_pos (by omega)
  have f2 : M.waveE (d * k) = 0 := if_pos (by omega)
  have sb := M.sine_bd a0 D0
  have cb := M.cosine_bd a0 D0
  have sq := M.wave_squares a0 D0
  generalize M.sine a0 d = s at *
  generalize M.cosine a0 d = c at *
  have s2 := M.mul_bd s s 32767 32767 (by omega) (by omega) (by omega) (by omega)
  have c2 := M.mul_bd c c 32767 32767 (by omega) (by omega) (by omega) (by omega)
  obtain ⟨q1, q2⟩ := sq
  go_enter Tryd.func5, Tryd.ntmps5
  go_wp2_with (first
    | (go_at_call 6; refine (alive_any _ hT).mono ?_; rintro e w' ⟨rfl, m, rfl⟩)
    | (go_at_call 7; refine (Sine_all _ _ _ (Tab.drewN hT _) (by omega) (by omega)).mono ?_; rintro e w' ⟨rfl, m, rfl⟩)
    | (go_at_call 9; refine (Cosine_all _ _ _ (Tab.drewN hT _) (by omega) (by omega)).mono ?_; rintro e w' ⟨rfl, m, rfl⟩))
  go_ret
  exact ⟨rfl, grown_drewN (Grown.refl _) _⟩

end Wave
end Go.Proofs.YtpbkifimfggncaaDoor
