/-
  The walk of the law FixSums of layer 1 (fix), out of the contracts. Conditions: each number fits its kind; the lists lie in memory as Go lays them.
-/
import Derived.Test.YtffencnmljfafaaFixDot
import Derived.Test.YtffencnmljfafaaFixLawReckons
import Derived.Below
import Derived.WalkSmall
namespace Go.Proofs.Ytffencnmljfafaa
open Go.RowKit

/-- the first 'len' numbers of a row with spare room -/
theorem Dot.Row.of {k : IntKind} {w : World} {a : Option Addr} {len cap : Nat} {zs : List Int}
    (h : (a = none ∧ len = 0 ∧ cap = 0 ∧ zs = []) ∨
      ∃ x, a = some x ∧ len ≤ cap ∧ cap ≤ maxLen ∧ zs.length = cap ∧ (∀ i, i < zs.length → w.cell? (x.add i) = some (.int k (zs.getD i 0))) ∧ ∀ n ∈ zs, (Lit.int k n).wf = true) :
    Dot.Row k w a len (zs.take len) := by
  rcases h with ⟨rfl, rfl, rfl, rfl⟩ | ⟨x, rfl, hl, hm, hz, hcell, hwz⟩
  · exact ⟨rfl, .inl rfl, by simp⟩
  · refine ⟨by simp; omega, ?_, fun n hn => hwz n (List.mem_of_mem_take hn)⟩
    rcases Nat.eq_zero_or_pos len with h0 | h0
    · exact .inl h0
    · obtain ⟨b, off, rfl, hc⟩ := ints_at hcell (by omega)
      refine .inr ⟨b, off, rfl, fun i hi => ?_⟩
      rw [hc i (by omega)]
      have e : (zs.take len).getD i 0 = zs.getD i 0 := by simp [List.getD, hi]
      rw [e]

set_option maxHeartbeats 1000000 in
theorem FixSums_walk (a0 : Option Addr) (len0 cap0 : Nat) (z0 : List Int) (a1 : Option Addr) (len1 cap1 : Nat) (z1 : List Int) (a2 : Int) (w : World) (w0 : Dot.Row .i32 w a0 len0 z0) (w1 : Dot.Row .i16 w a1 len1 z1) :
    Calls Try.prog 4 #[.slice a0 len0 cap0, .slice a1 len1 cap1, .int .i64 a2] w fun e w' => e = .returned (.bool true) ∧ Below w.heap.size w w' := by
  by_cases h1 : 70000 < len0
  · clear w0 w1
    go_enter Try.func4, Try.ntmps4
    go_wp2_with (go_at_call 7; refine (Reckons.alive_any _).mono ?_; rintro e w' ⟨rfl, m, rfl⟩)
    go_ret
    exact ⟨rfl, below_drewN (Below.refl _ _) _⟩
  by_cases h2 : 70000 < len1
  · clear w0 w1
    go_enter Try.func4, Try.ntmps4
    go_wp2_with (go_at_call 7; refine (Reckons.alive_any _).mono ?_; rintro e w' ⟨rfl, m, rfl⟩)
    go_ret
    exact ⟨rfl, below_drewN (Below.refl _ _) _⟩
  by_cases he : Dot.errOf len0 len1 a2 = 0
  · obtain ⟨rfl, hs1, hs2, hl⟩ := Dot.errOf_zero he
    have W0 : Hid (Dot.Row .i32 w a0 len0 z0) := w0
    have W1 : Hid (Dot.Row .i16 w a1 len0 z1) := w1
    clear he w0 w1
    go_enter Try.func4, Try.ntmps4
    go_wp2_with (first
      | (go_at_call 7; refine (Reckons.alive_any _).mono ?_; rintro e w' ⟨rfl, m, rfl⟩)
      | (go_at_call 16; refine (Dot.Dot_ok _ _ _ _ _ _ z0 z1 _ (W0.out.drewN _) (W1.out.drewN _) hs1 hs2 hl).mono ?_; rintro e w' ⟨rfl, m, rfl⟩)
      | (go_at_call 17; refine (Dot.RefDot_ok _ _ _ _ _ _ z0 z1 _ (W0.out.drewN _) (W1.out.drewN _) hs1 hs2 hl).mono ?_; rintro e w' ⟨rfl, m, rfl⟩))
    go_ret
    exact ⟨rfl, below_drewN (Below.refl _ _) _⟩
  · have H : Hid (Dot.errOf len0 len1 a2 ≠ 0) := he
    clear he w0 w1
    go_enter Try.func4, Try.ntmps4
    go_wp2_with (first
      | (go_at_call 7; refine (Reckons.alive_any _).mono ?_; rintro e w' ⟨rfl, m, rfl⟩)
      | (go_at_call 16; refine (Dot.Dot_err _ _ _ _ _ _ _ _ H.out).mono ?_; rintro e w' ⟨rfl, rfl⟩)
      | (go_at_call 17; refine (Dot.RefDot_err _ _ _ _ _ _ _ _ H.out).mono ?_; rintro e w' ⟨rfl, rfl⟩))
    go_ret
    exact ⟨rfl, below_drewN (Below.refl _ _) _⟩

end Go.Proofs.Ytffencnmljfafaa
