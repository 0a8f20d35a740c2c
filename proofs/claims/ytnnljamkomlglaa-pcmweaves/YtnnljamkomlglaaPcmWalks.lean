/-
  Contracts of package pcm's functions over lists, and of the document's: the greatest, the sum of squares, a channel. Conditions: as told at each.
-/
import Derived.Test.YtnnljamkomlglaaPcmMath
import Derived.Test.YtnnljamkomlglaaPolySame
import Derived.BigRegion
import Derived.BigQuiet
namespace Go.Proofs.Ytnnljamkomlglaa
set_option linter.unusedVariables false
open Go.RowKit
namespace Pcm
open Bank (Blk But)
open Poly

theorem canBe_any (c : Int) (w : World) : Calls Try.prog 23 #[.int .i64 c] w fun e w' => e = .returned (.bool (decide (1 ≤ c ∧ c ≤ 2))) ∧ w' = w := by
  by_cases h1 : 1 ≤ c
  · by_cases h2 : c ≤ 2
    · rw [decide_eq_true ⟨h1, h2⟩]
      go_enter Try.func23, Try.ntmps23
      go_wp2
      go_ret
      exact ⟨rfl, rfl⟩
    · rw [decide_eq_false (by omega)]
      go_enter Try.func23, Try.ntmps23
      go_wp2
      go_ret
      exact ⟨rfl, rfl⟩
  · rw [decide_eq_false (by omega)]
    go_enter Try.func23, Try.ntmps23
    go_wp2
    go_ret
    exact ⟨rfl, rfl⟩

/-- the cells of a list that is read, hidden -/
def At (w : World) (a : Option Addr) (xs : List Int) : Prop := ∀ i, i < xs.length → ∃ b off, a = some ⟨b, off, none⟩ ∧ w.cell? ⟨b, off + i, none⟩ = some (.int .i16 (xs.getD i 0))
theorem at_of {lo hi : Nat} {w : World} {a : Option Addr} {l c : Nat} {xs : List Int} (h : Reads .i16 lo hi w (.slice a l c) xs) : At w a xs := fun i hi => by
  obtain ⟨b, off, ha, _, _, hc⟩ := h.cell (by omega)
  exact ⟨b, off, ha, hc i hi⟩

/-- 'max(a, b, c)' -/
theorem wpList_max3 {P : Program} {w : World} {ops : Array Oper} {rest : List Oper} {o : Oper} {a : Act} {Q : Exit → Act → World → Prop} (hgd : o.guard = none) (x y z : Operand) (t : TypeId)
    (ho : o.op = .call { callee := .builtin .max, args := #[x, y, z], argTypes := #[t, t, t] }) (p q r m : Int) (hx : a.eval x = .int .i64 p) (hy : a.eval y = .int .i64 q) (hz : a.eval z = .int .i64 r) (hm : m = max (max p q) r)
    (k : wpList P ops Q rest (a.put o.dst (.int .i64 m)) w) : wpList P ops Q (o :: rest) a w := by
  refine wpList_plain hgd fun _ hK => ?_
  have e : (if r > (if q > p then q else p) then r else (if q > p then q else p)) = m := by subst hm; repeat' split <;> omega
  unfold Oper.wp execOp
  simp only [ho, resolve, invoke, builtin, Sem.run_bind, Sem.run_pure, Result.andThen_ok, List.map_toArray, List.map_cons, List.map_nil, hx, hy, hz, Builtin.max_, List.foldlM_cons, List.foldlM_nil, Builtin.max2, e]
  exact hK _ _ k

set_option maxRecDepth 100000 in
theorem Peak_any (lo hi : Nat) (v : Value) (xs : List Int) (w : World) (h : Reads .i16 lo hi w v xs) (hl : xs.length ≤ 1000000) :
    Calls Try.prog 9 #[v] w fun e w' => e = .returned (.int .i64 (M.pk xs xs.length)) ∧ w' = w := by
  obtain ⟨a, c, rfl⟩ := h.form
  have hx : M.fits16 xs := fit16.1 (by obtain ⟨_, _, _, _, hw, _⟩ := h; exact hw)
  have hA : At w a xs := at_of h
  obtain ⟨n, hn⟩ : ∃ n, xs.length = n := ⟨_, rfl⟩
  unfold At at hA
  rw [hn] at hA ⊢
  have HA : Hid _ := hA
  have n1 : (n : Int) ≤ 1000000 := by omega
  clear hA h hl hn
  go_enter Try.func9, Try.ntmps9
  go_wp2
  go_loopw [9, 3] (fun i p wr => ∃ k : Nat, k ≤ n ∧ i = .int .i64 k ∧ p = .int .i64 (M.pk xs k) ∧ wr = w) (fun i _ _ => n - (intOf i).toNat)
  case atStart => exact ⟨0, by omega, rfl, rfl, rfl⟩
  case round =>
    obtain ⟨k, hk, rfl, rfl, rfl⟩ := hrel
    by_cases hlt : k < n
    · obtain ⟨b, off, rfl, hc⟩ := HA.out k hlt
      have i1 : (0 : Int) ≤ k := by omega
      have i2 : (k : Int) < n := by omega
      have hp := M.pk_bd hx k
      have hxk := M.fits_getD hx k
      have hs : Hid (M.pk xs (k + 1) = M.pkn (M.pk xs k) (xs.getD k 0)) := rfl
      obtain ⟨q, hq⟩ : ∃ q, M.pk xs (k + 1) = q := ⟨_, rfl⟩
      have HQ : Hid (M.pk xs (k + 1) = q) := hq
      rw [hq] at hs
      clear hq
      generalize M.pk xs k = p at hp hs ⊢
      generalize xs.getD k 0 = x at hxk hc hs
      have p1 := hp.1
      have p2 := hp.2
      have x1 := hxk.1
      have x2 := hxk.2
      clear hp hxk
      go_wp2_with (refine wpList_max3 rfl (.tmp 15) (.tmp 16) (.tmp 18) 3 rfl p x (-x) q rfl rfl rfl hs.out ?_)
      go_roundw
      case rel => exact ⟨k + 1, by omega, by go_num, by rw [HQ.out], by first | rfl | trivial⟩
      case measure => simp [intOf]; omega
    · obtain rfl : k = n := by omega
      go_wp2
      go_ret
      exact ⟨rfl, rfl⟩

set_option maxRecDepth 100000 in
theorem rPeak_any (lo hi : Nat) (v : Value) (xs : List Int) (w : World) (h : Reads .i16 lo hi w v xs) (hl : xs.length ≤ 1000000) :
    Calls Try.prog 10 #[v] w fun e w' => e = .returned (.int .i64 (M.pk xs xs.length)) ∧ w' = w := by
  obtain ⟨a, c, rfl⟩ := h.form
  have hx : M.fits16 xs := fit16.1 (by obtain ⟨_, _, _, _, hw, _⟩ := h; exact hw)
  have hA : At w a xs := at_of h
  obtain ⟨n, hn⟩ : ∃ n, xs.length = n := ⟨_, rfl⟩
  unfold At at hA
  rw [hn] at hA ⊢
  have HA : Hid _ := hA
  have n1 : (n : Int) ≤ 1000000 := by omega
  clear hA h hl hn
  go_enter Try.func10, Try.ntmps10
  go_wp2
  go_loopw [4, 3] (fun i p wr => ∃ k : Nat, k ≤ n ∧ i = .int .i64 k ∧ p = .int .i64 (M.pk xs k) ∧ wr = w) (fun i _ _ => n - (intOf i).toNat)
  case atStart => exact ⟨0, by omega, rfl, rfl, rfl⟩
  case round =>
    obtain ⟨k, hk, rfl, rfl, rfl⟩ := hrel
    by_cases hlt : k < n
    · obtain ⟨b, off, rfl, hc⟩ := HA.out k hlt
      have i1 : (0 : Int) ≤ k := by omega
      have i2 : (k : Int) < n := by omega
      have hp := M.pk_bd hx k
      have hxk := M.fits_getD hx k
      have hs : Hid (M.pk xs (k + 1) = M.pkn (M.pk xs k) (xs.getD k 0)) := rfl
      obtain ⟨q, hq⟩ : ∃ q, M.pk xs (k + 1) = q := ⟨_, rfl⟩
      have HQ : Hid (M.pk xs (k + 1) = q) := hq
      rw [hq] at hs
      clear hq
      generalize M.pk xs k = p at hp hs ⊢
      generalize xs.getD k 0 = x at hxk hc hs
      have p1 := hp.1
      have p2 := hp.2
      have x1 := hxk.1
      have x2 := hxk.2
      clear hp hxk
      rcases (show (p < x ∧ x < -x) ∨ (p < x ∧ ¬ x < -x) ∨ (¬ p < x ∧ p < -x) ∨ (¬ p < x ∧ ¬ p < -x) from by omega) with ⟨t1, t2⟩ | ⟨t1, t2⟩ | ⟨t1, t2⟩ | ⟨t1, t2⟩
      all_goals (
        go_wp2
        go_roundw
        case rel => exact ⟨k + 1, by omega, by go_num, by rw [HQ.out]; have e := hs.out; unfold M.pkn at e; congr 1; omega, by first | rfl | trivial⟩
        case measure => simp [intOf]; omega)
    · obtain rfl : k = n := by omega
      go_wp2
      go_ret
      exact ⟨rfl, rfl⟩

set_option maxRecDepth 100000 in
theorem Energy_any (lo hi : Nat) (v : Value) (xs : List Int) (w : World) (h : Reads .i16 lo hi w v xs) (hl : xs.length ≤ 1000000) :
    Calls Try.prog 11 #[v] w fun e w' => e = .returned (.int .u64 (M.en xs xs.length)) ∧ w' = w := by
  obtain ⟨a, c, rfl⟩ := h.form
  have hx : M.fits16 xs := fit16.1 (by obtain ⟨_, _, _, _, hw, _⟩ := h; exact hw)
  have hA : At w a xs := at_of h
  obtain ⟨n, hn⟩ : ∃ n, xs.length = n := ⟨_, rfl⟩
  unfold At at hA
  rw [hn] at hA ⊢
  have HA : Hid _ := hA
  have n1 : (n : Int) ≤ 1000000 := by omega
  clear hA h hl hn
  go_enter Try.func11, Try.ntmps11
  go_wp2
  go_loopw [9, 3] (fun i p wr => ∃ k : Nat, k ≤ n ∧ i = .int .i64 k ∧ p = .int .u64 (M.en xs k) ∧ wr = w) (fun i _ _ => n - (intOf i).toNat)
  case atStart => exact ⟨0, by omega, rfl, rfl, rfl⟩
  case round =>
    obtain ⟨k, hk, rfl, rfl, rfl⟩ := hrel
    by_cases hlt : k < n
    · obtain ⟨b, off, rfl, hc⟩ := HA.out k hlt
      have i1 : (0 : Int) ≤ k := by omega
      have i2 : (k : Int) < n := by omega
      have hp := M.en_bd hx k
      have hxk := M.fits_getD hx k
      have hsq := M.sq_bd hxk
      have hs : Hid (M.en xs (k + 1) = M.en xs k + xs.getD k 0 * xs.getD k 0) := rfl
      obtain ⟨q, hq⟩ : ∃ q, M.en xs (k + 1) = q := ⟨_, rfl⟩
      have HQ : Hid (M.en xs (k + 1) = q) := hq
      rw [hq] at hs
      clear hq
      generalize M.en xs k = p at hp hs ⊢
      generalize xs.getD k 0 = x at hxk hc hs hsq
      have p1 := hp.1
      have p2 : p ≤ 1073741824000000 := by omega
      have x1 := hxk.1
      have x2 := hxk.2
      have y1 := hsq.1
      have y2 := hsq.2
      clear hp hxk hsq
      go_wp2
      go_roundw
      case rel => exact ⟨k + 1, by omega, by go_num, by rw [HQ.out, hs.out], by first | rfl | trivial⟩
      case measure => simp [intOf]; omega
    · obtain rfl : k = n := by omega
      go_wp2
      go_ret
      exact ⟨rfl, rfl⟩

set_option maxRecDepth 100000 in
theorem rEnergy_any (lo hi : Nat) (v : Value) (xs : List Int) (w : World) (h : Reads .i16 lo hi w v xs) (hl : xs.length ≤ 1000000) :
    Calls Try.prog 12 #[v] w fun e w' => e = .returned (.int .u64 (M.en xs xs.length)) ∧ ∃ m, w' = w.drewN m := by
  obtain ⟨a, c, rfl⟩ := h.form
  have hx : M.fits16 xs := fit16.1 (by obtain ⟨_, _, _, _, hw, _⟩ := h; exact hw)
  have hA : At w a xs := at_of h
  obtain ⟨n, hn⟩ : ∃ n, xs.length = n := ⟨_, rfl⟩
  unfold At at hA
  rw [hn] at hA ⊢
  have HA : Hid _ := hA
  have n1 : (n : Int) ≤ 1000000 := by omega
  clear hA h hl hn
  go_enter Try.func12, Try.ntmps12
  go_wp2
  go_loopw [4, 3] (fun i p wr => ∃ k : Nat, k ≤ n ∧ i = .int .i64 k ∧ p = .int .u64 (M.en xs k) ∧ ∃ m, wr = w.drewN m) (fun i _ _ => n - (intOf i).toNat)
  case atStart => exact ⟨0, by omega, rfl, rfl, 0, rfl⟩
  case round =>
    obtain ⟨k, hk, rfl, rfl, m, rfl⟩ := hrel
    by_cases hlt : k < n
    · obtain ⟨b, off, rfl, hc⟩ := HA.out k hlt
      have i1 : (0 : Int) ≤ k := by omega
      have i2 : (k : Int) < n := by omega
      have hp := M.en_bd hx k
      have hxk := M.fits_getD hx k
      have hsq := M.sq_bd hxk
      have hs : Hid (M.en xs (k + 1) = M.en xs k + xs.getD k 0 * xs.getD k 0) := rfl
      obtain ⟨q, hq⟩ : ∃ q, M.en xs (k + 1) = q := ⟨_, rfl⟩
      have HQ : Hid (M.en xs (k + 1) = q) := hq
      rw [hq] at hs
      clear hq
      generalize M.en xs k = p at hp hs ⊢
      generalize xs.getD k 0 = x at hxk hc hs hsq
      have p1 := hp.1
      have p2 : p ≤ 1073741824000000 := by omega
      have x1 := hxk.1
      have x2 := hxk.2
      have y1 := hsq.1
      have y2 := hsq.2
      clear hp hxk hsq
      go_wp2
      go_quiet (fail)
      go_wp2
      go_roundw
      case rel => exact ⟨k + 1, by omega, by go_num, by rw [HQ.out, hs.out], _, rfl⟩
      case measure => simp [intOf]; omega
    · obtain rfl : k = n := by omega
      go_wp2
      go_ret
      exact ⟨rfl, _, rfl⟩

end Pcm
end Go.Proofs.Ytnnljamkomlglaa
