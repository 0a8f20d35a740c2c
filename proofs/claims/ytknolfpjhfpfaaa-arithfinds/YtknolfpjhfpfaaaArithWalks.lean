/-
  Contracts of the small functions of package arith: sum, Check, width, cut, narrow. Conditions: the table stands in memory; the range's two cells stand as told.
-/
import Derived.Test.YtknolfpjhfpfaaaArithMath
import Derived.Test.YtknolfpjhfpfaaaNums
import Derived.Deep.RegionHeld3
import Derived.Deep.Quiet
import Derived.Deep.QuietTactic
import Derived.BigRegion
import Derived.BigQuiet
namespace Go.Proofs.Ytknolfpjhfpfaaa
set_option linter.unusedVariables false
open Go.RowKit
namespace Ari
open Bits (Blk But add_at wrap_id)
open Num (Ints)

theorem sum_any (v : Value) (xs : List Int) (w : World) (hv : Ints w v xs) (h0 : ∀ j, j ≤ xs.length → 0 ≤ M.flo xs j ∧ M.flo xs j ≤ 4096) (hl : xs.length ≤ 65536) :
    Calls Try.prog 44 #[v] w fun e w' => e = .returned (.int .i64 xs.sum) ∧ w' = w := by
  obtain ⟨a, c, rfl, hc⟩ := hv.form
  go_enter Try.func44, Try.ntmps44
  go_wp2
  go_loopw [3, 8] (fun t i wr => ∃ m : Nat, m ≤ xs.length ∧ t = .int .i64 (M.flo xs m) ∧ i = .int .i64 m ∧ wr = w) (fun _ i _ => xs.length - (intOf i).toNat)
  case atStart => exact ⟨0, by omega, by rw [M.flo_zero], rfl, rfl⟩
  case round =>
    obtain ⟨m, hm, rfl, rfl, rfl⟩ := hrel
    by_cases hlt : m < xs.length
    · obtain ⟨x, hx⟩ : ∃ x, xs[m]? = some x := ⟨_, List.getElem?_eq_getElem hlt⟩
      obtain ⟨b0, off, rfl, hb0, hcell⟩ := hv.cell hx
      have e1 := M.flo_succ hx
      have k1 := h0 m (by omega)
      have k2 := h0 (m + 1) (by omega)
      rw [e1] at k2
      have i1 : (0 : Int) ≤ m := by omega
      have i2 : (m : Int) < xs.length := by omega
      obtain ⟨F, hF⟩ : ∃ F, F = M.flo xs m := ⟨_, rfl⟩
      rw [← hF] at e1 k1 k2 ⊢
      replace e1 : Hid (M.flo xs (m + 1) = F + x) := e1
      clear hF h0
      obtain ⟨k3, k4⟩ := k2
      obtain ⟨k5, k6⟩ := k1
      go_wp2
      go_roundw
      case rel => exact ⟨m + 1, by omega, by rw [show M.flo xs (m + 1) = _ from e1], by go_num, by first | rfl | trivial⟩
      case measure => simp [intOf]; omega
    · obtain rfl : m = xs.length := by omega
      go_wp2
      go_ret
      exact ⟨by rw [M.flo_all]; rfl, rfl⟩

/-- is it a table? -/
def errT (t : List Int) : Int := @ite Int (M.Tab t) (M.tabDec t) 0 1

theorem Check_any (v : Value) (t : List Int) (w : World) (hv : Ints w v t) (hl : t.length ≤ 65536) :
    Calls Try.prog 12 #[v] w fun e w' => e = .returned (.int .i64 (errT t)) ∧ w' = w := by
  obtain ⟨a, c, rfl, hc⟩ := hv.form
  by_cases h1 : t.length < 2
  · have e : errT t = 1 := if_neg (fun h => by have := h.1; omega)
    rw [e]
    have i1 : (t.length : Int) < 2 := by omega
    go_enter Try.func12, Try.ntmps12
    go_wp2
    go_ret
    exact ⟨rfl, rfl⟩
  by_cases h2 : 32 < t.length
  · have e : errT t = 1 := if_neg (fun h => by have := h.2.1; omega)
    rw [e]
    have i1 : ¬ (t.length : Int) < 2 := by omega
    have i2 : (32 : Int) < (t.length : Int) := by omega
    go_enter Try.func12, Try.ntmps12
    go_wp2
    go_ret
    exact ⟨rfl, rfl⟩
  have i1 : ¬ (t.length : Int) < 2 := by omega
  have i2 : ¬ (32 : Int) < (t.length : Int) := by omega
  go_enter Try.func12, Try.ntmps12
  go_wp2
  go_loopw [3, 16] (fun f i wr => ∃ m : Nat, m ≤ t.length ∧ f = .int .i64 (4096 - M.flo t m) ∧ i = .int .i64 m ∧ wr = w ∧ (∀ j x, j < m → t[j]? = some x → 1 ≤ x) ∧ 0 ≤ M.flo t m ∧ M.flo t m ≤ 4096) (fun _ i _ => t.length - (intOf i).toNat)
  case atStart => exact ⟨0, by omega, by rw [M.flo_zero]; rfl, rfl, rfl, fun j x hj => absurd hj (by omega), by rw [M.flo_zero]; omega, by rw [M.flo_zero]; omega⟩
  case round =>
    obtain ⟨m, hm, rfl, rfl, rfl, hone, k5, k6⟩ := hrel
    by_cases hlt : m < t.length
    · obtain ⟨x, hx⟩ : ∃ x, t[m]? = some x := ⟨_, List.getElem?_eq_getElem hlt⟩
      obtain ⟨b0, off, rfl, hb0, hcell⟩ := hv.cell hx
      have e1 := M.flo_succ hx
      have i1' : (0 : Int) ≤ m := by omega
      have i2' : (m : Int) < t.length := by omega
      have hmem := List.mem_of_getElem? hx
      obtain ⟨F, hF⟩ : ∃ F, F = M.flo t m := ⟨_, rfl⟩
      have hF' : Hid (F = M.flo t m) := hF
      rw [← hF] at e1 k5 k6 ⊢
      clear hF
      by_cases hx1 : x < 1
      · have e : errT t = 1 := if_neg (fun h => by have := h.2.2.1 x hmem; omega)
        clear e1
        go_wp2
        go_ret
        exact ⟨by first | rfl | (rw [e]; rfl), rfl⟩
      · by_cases hx2 : 4096 - F < x
        · have e : errT t = 1 := if_neg (fun h => by
            have h3 := (h.flo_le (s := m + 1) (by omega)).2.1
            have h4 := h.2.2.2
            rw [e1] at h3; omega)
          clear e1
          go_wp2
          go_ret
          exact ⟨by first | rfl | (rw [e]; rfl), rfl⟩
        · replace e1 : Hid (M.flo t (m + 1) = F + x) := e1
          go_wp2
          go_roundw
          case rel =>
            have e2 : M.flo t (m + 1) = F + x := e1
            refine ⟨m + 1, by omega, ?_, by go_num, by first | rfl | trivial, fun j y hj hy => ?_, by omega, by omega⟩
            · rw [e2]; go_num
            · rcases Nat.lt_or_ge j m with h | h
              · exact hone j y h hy
              · obtain rfl : j = m := by omega
                rw [hx] at hy; cases hy; omega
          case measure => simp [intOf]; omega
    · obtain rfl : m = t.length := by omega
      have e : errT t = 0 := if_pos ⟨by omega, by omega, fun x hx => by
        obtain ⟨j, hj, he⟩ := List.getElem_of_mem hx
        exact hone j x hj (by rw [← he]; exact List.getElem?_eq_getElem hj), by rw [M.flo_all] at k6; exact k6⟩
      go_wp2
      go_ret
      exact ⟨by first | rfl | (rw [e]; rfl), rfl⟩

/-- the range's two cells -/
def Rng (w : World) (b : Nat) (L H : Int) : Prop := w.cell? ⟨b, 0, none⟩ = some (.int .i64 L) ∧ w.cell? ⟨b, 1, none⟩ = some (.int .i64 H)

theorem width_any (b : Nat) (L H : Int) (w : World) (hr : Rng w b L H) (h0 : 0 ≤ L) (h1 : L ≤ H) (h2 : H ≤ 65535) :
    Calls Try.prog 43 #[.pointer (some ⟨b, 0, none⟩)] w fun e w' => e = .returned (.int .i64 (H - L + 1)) ∧ ∃ m, w' = w.drewN m := by
  obtain ⟨c0, c1⟩ := hr
  go_enter Try.func43, Try.ntmps43
  go_wp2
  go_quiet (fail)
  go_wp2
  go_ret
  exact ⟨rfl, _, rfl⟩

theorem cut_any (b : Nat) (L H : Int) (w : World) (hr : Rng w b L H) (h0 : 0 ≤ L) (h1 : L ≤ H) (h2 : H ≤ 65535) :
    Calls Try.prog 45 #[.pointer (some ⟨b, 0, none⟩)] w fun e w' => e = .returned (.tuple #[.int .i64 (M.less L H), .bool (M.more L H)]) ∧ w' = w := by
  obtain ⟨c0, c1⟩ := hr
  unfold M.less M.more
  by_cases k1 : H < 32768
  · rw [if_pos k1, decide_eq_true (.inl k1)]
    go_enter Try.func45, Try.ntmps45
    go_wp2
    go_ret2
    exact ⟨rfl, rfl⟩
  · rw [if_neg k1]
    by_cases k2 : 32768 ≤ L
    · rw [if_pos k2, decide_eq_true (.inr (.inl k2))]
      go_enter Try.func45, Try.ntmps45
      go_wp2
      go_ret2
      exact ⟨rfl, rfl⟩
    · rw [if_neg k2]
      by_cases k3 : 16384 ≤ L
      · by_cases k4 : H < 49152
        · rw [if_pos ⟨k3, k4⟩, decide_eq_true (.inr (.inr ⟨k3, k4⟩))]
          go_enter Try.func45, Try.ntmps45
          go_wp2
          go_ret2
          exact ⟨rfl, rfl⟩
        · rw [if_neg (by omega), decide_eq_false (by omega)]
          go_enter Try.func45, Try.ntmps45
          go_wp2
          go_ret2
          exact ⟨rfl, rfl⟩
      · rw [if_neg (by omega), decide_eq_false (by omega)]
        go_enter Try.func45, Try.ntmps45
        go_wp2
        go_ret2
        exact ⟨rfl, rfl⟩

theorem flo_take {t : List Int} (h : M.Tab t) (s : Nat) (hs : s ≤ t.length) : ∀ j, j ≤ (t.take s).length → 0 ≤ M.flo (t.take s) j ∧ M.flo (t.take s) j ≤ 4096 := fun j hj => by
  have hj' : j ≤ s := by simp at hj; omega
  have e : M.flo (t.take s) j = M.flo t j := by unfold M.flo; rw [List.take_take, Nat.min_eq_left hj']
  rw [e]
  have := h.flo_le (s := j) (by omega)
  omega
theorem flo_tab {t : List Int} (h : M.Tab t) : ∀ j, j ≤ t.length → 0 ≤ M.flo t j ∧ M.flo t j ≤ 4096 := fun j hj => by
  have := h.flo_le (s := j) hj
  omega

set_option maxRecDepth 100000 in
set_option maxHeartbeats 2000000 in
/-- what of a range a symbol narrows it to -/
theorem narrow_any (b s : Nat) (L H : Int) (v : Value) (t : List Int) (cur : Array Value) (ty : TypeId) (w : World) (hb : Blk w b cur ty) (q0 : cur[0]? = some (.int .i64 L)) (q1 : cur[1]? = some (.int .i64 H)) (hv : Ints w v t) (ht : M.Tab t) (hs : s < t.length)
    (h0 : 0 ≤ L) (h1 : H ≤ 65535) (hw : 16386 ≤ H - L + 1) :
    Calls Try.prog 29 #[.pointer (some ⟨b, 0, none⟩), v, .int .i64 s] w fun e w' => e = .returned (.tuple #[]) ∧ But b b w w' ∧
      Blk w' b ((cur.setIfInBounds 1 (.int .i64 (L + M.part (H - L + 1) (M.flo t (s + 1)) t.sum - 1))).setIfInBounds 0 (.int .i64 (L + M.part (H - L + 1) (M.flo t s) t.sum))) ty := by
  have hr : Rng w b L H := ⟨hb.cell q0, hb.cell q1⟩
  have hwd := fun m => width_any b L H (w.drewN m) hr h0 (by omega) h1
  obtain ⟨a, c, rfl, hc⟩ := hv.form
  have hsl := Num.run_head a t.length c s (by omega) (by have := ht.2.1; omega)
  have hgh := hv.head s (by omega)
  obtain ⟨a', ha'⟩ : ∃ a', a' = Num.head_ a c := ⟨_, rfl⟩
  rw [← ha'] at hsl hgh
  clear ha'
  have hS1 := fun m => sum_any (.slice a' s c) (t.take s) (w.drewN m) (hgh.drewN m) (flo_take ht s (by omega)) (by have := ht.2.1; rw [List.length_take]; omega)
  have hS2 := fun m => sum_any (.slice a t.length c) t (w.drewN m) (hv.drewN m) (flo_tab ht) (by have := ht.2.1; omega)
  obtain ⟨x, hx⟩ : ∃ x, t[s]? = some x := ⟨_, List.getElem?_eq_getElem hs⟩
  obtain ⟨b0, off, rfl, hb0, hcell⟩ := hv.cell hx
  have e1 := M.flo_succ hx
  obtain ⟨p0, p1, p2⟩ := M.part_bounds ht hw hs
  obtain ⟨f0, f1, f2, f3⟩ := ht.flo_le (s := s) (by omega)
  obtain ⟨g0, g1, g2, g3⟩ := ht.flo_le (s := s + 1) (by omega)
  have t2 := ht.1
  have t32 := ht.2.1
  have eF : (t.take s).sum = M.flo t s := rfl
  rw [eF] at hS1
  rw [e1] at g0 g1 p1 p2 ⊢
  unfold M.part at p0 p1 p2 ⊢
  obtain ⟨c0, c1⟩ := hr
  have fr0 := hb.free 0
  have fr1 := hb.free 1
  have i1 : (0 : Int) ≤ s := by omega
  have i2 : (s : Int) < t.length := by omega
  clear hv hgh e1 ht
  generalize M.flo t s = F at *
  generalize t.sum = n at *
  obtain ⟨W, hW⟩ : ∃ W, W = H - L + 1 := ⟨_, rfl⟩
  rw [← hW] at p0 p1 p2 hwd ⊢
  have W1 : W ≤ 65536 := by omega
  have W0 : 0 ≤ W := by omega
  have m1 : 0 ≤ W * (F + x) := Int.mul_nonneg W0 (by omega)
  have m2 : W * (F + x) ≤ 268435456 := by
    have : W * (F + x) ≤ 65536 * 4096 := Int.mul_le_mul W1 (by omega) (by omega) (by omega)
    omega
  have m3 : 0 ≤ W * F := Int.mul_nonneg W0 (by omega)
  have m4 : W * F ≤ 268435456 := by
    have : W * F ≤ 65536 * 4096 := Int.mul_le_mul W1 (by omega) (by omega) (by omega)
    omega
  have d1 : (W * (F + x)).tdiv n = W * (F + x) / n := Int.tdiv_eq_ediv_of_nonneg m1
  have d2 : (W * F).tdiv n = W * F / n := Int.tdiv_eq_ediv_of_nonneg m3
  obtain ⟨P, hP⟩ : ∃ P, P = W * (F + x) / n := ⟨_, rfl⟩
  obtain ⟨Q, hQ⟩ : ∃ Q, Q = W * F / n := ⟨_, rfl⟩
  rw [← hP] at d1 p1 p2 ⊢
  rw [← hQ] at d2 p0 p1 ⊢
  clear hP hQ
  have P0 : P ≤ 65536 := by omega
  have Q0 : Q ≤ 65536 := by omega
  have n0 : ¬ n = 0 := by omega
  have HW : Hid (W = H - L + 1) := hW
  clear hW
  go_enter Try.func29, Try.ntmps29
  go_wp2
  go_quiet (first
    | (go_at_call 43; exact Calls.quiet_of (hwd _))
    | (go_at_call_of 44 (a'); exact Calls.quiet_of_same (hS1 _))
    | (go_at_call 44; exact Calls.quiet_of_same (hS2 _)))
  go_wp2
  go_region
  all_goals go_wp2
  all_goals go_region
  all_goals go_wp2
  all_goals go_end0
  all_goals exact ⟨rfl, ((((But.refl b b w).drewN _).set (a := ⟨b, 1, none⟩) (.inl rfl) _).set (a := ⟨b, 0, none⟩) (.inl rfl) _).drew, (((hb.drewN _).set 1 _).set 0 _).drew⟩

end Ari
end Go.Proofs.Ytknolfpjhfpfaaa
