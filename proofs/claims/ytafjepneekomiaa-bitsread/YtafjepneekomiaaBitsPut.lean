/-
  Contracts of the document's Put (psalteryref05). Conditions: the object stands in memory as New makes it.
-/
import Derived.Test.YtafjepneekomiaaBitsRef
import Derived.BigRegion
import Derived.BigQuiet
namespace Go.Proofs.Ytafjepneekomiaa
set_option linter.unusedVariables false
open Go.RowKit
namespace Bits

theorem wrapu_id (n : Int) (h0 : 0 ≤ n) (h1 : n < 18446744073709551616) : IntKind.u64.wrap n = n := by rw [IntKind.wrap_u64]; omega
theorem may_of_mayv {N h t v : Nat} {k : Int} (h0 : ¬ k < 0) (h1 : ¬ 32 < k) (h2 : v < 2 ^ k.toNat) : M.mayv N h t v k = M.may N h t k := by
  unfold M.mayv M.may
  rw [if_neg (show ¬ (k < 0 ∨ 32 < k ∨ 2 ^ k.toNat ≤ v) by omega), if_neg (show ¬ (k < 0 ∨ 32 < k) by omega)]

set_option maxRecDepth 100000 in
theorem Put_err (r d n h t v : Nat) (k : Int) (f : Bool) (B : Nat → Bool) (w : World) (ho : Ref w r d n B h t) (hn : n ≤ 512) (hl : h + t ≤ 8 * n) (hv : v < 4294967296) (he : M.mayv (8 * n) h t v k ≠ 0) :
    Calls Try.prog 12 #[.pointer (some ⟨r, 0, none⟩), .int .u32 v, .int .i64 k, .bool f] w fun e w' => e = .returned (.int .i64 (M.mayv (8 * n) h t v k)) ∧ ∃ m, w' = w.drewN m := by
  rcases (by omega : k < 0 ∨ 32 < k ∨ (¬ k < 0 ∧ ¬ 32 < k)) with h0 | h0 | ⟨h0, h1⟩
  · have e1 : M.mayv (8 * n) h t v k = 1 := by unfold M.mayv; rw [if_pos (by omega)]
    rw [e1]
    go_enter Try.func12, Try.ntmps12
    go_wp2
    go_ret
    exact ⟨rfl, 0, rfl⟩
  · have e1 : M.mayv (8 * n) h t v k = 1 := by unfold M.mayv; rw [if_pos (by omega)]
    have h1 : ¬ k < 0 := by omega
    rw [e1]
    go_enter Try.func12, Try.ntmps12
    go_wp2
    go_ret
    exact ⟨rfl, 0, rfl⟩
  · obtain ⟨κ, rfl⟩ := Int.eq_ofNat_of_zero_le (Int.not_lt.1 h0)
    have hp : 2 ^ κ ≤ 2 ^ 32 := Nat.pow_le_pow_right (by decide) (by omega)
    obtain ⟨z, e1, hze⟩ : ∃ z : Nat, (2 : Int) ^ κ = z ∧ z = 2 ^ κ := ⟨_, by simp, rfl⟩
    have w1 : IntKind.u64.wrap (z : Int) = z := wrapu_id _ (by omega) (by rw [hze]; omega)
    have w2 : IntKind.u64.wrap (κ : Int) = κ := wrapu_id _ (by omega) (by omega)
    have w3 : IntKind.u64.wrap (v : Int) = v := wrapu_id _ (by omega) (by omega)
    by_cases hz : z ≤ v
    · have e2 : M.mayv (8 * n) h t v κ = 1 := by unfold M.mayv; rw [if_pos (.inr (.inr (by show 2 ^ κ ≤ v; omega)))]
      rw [e2]
      clear hze hp
      go_enter Try.func12, Try.ntmps12
      go_wp2
      go_ret
      exact ⟨rfl, 0, rfl⟩
    · have e2 : M.mayv (8 * n) h t v κ = M.may (8 * n) h t κ := may_of_mayv h0 h1 (by show v < 2 ^ κ; omega)
      rw [e2] at he ⊢
      clear hze hp
      obtain ⟨x, hx⟩ : ∃ x, x = M.may (8 * n) h t κ := ⟨_, rfl⟩
      have hM := RMay r d n h t κ B w ho hn hl
      rw [← hx] at he hM ⊢
      clear hx
      go_enter Try.func12, Try.ntmps12
      go_wp2_with (go_at_call 28; refine hM.mono ?_; rintro e w' ⟨rfl, m, rfl⟩)
      go_ret
      exact ⟨rfl, _, rfl⟩

set_option maxRecDepth 100000 in
set_option maxHeartbeats 1000000 in
theorem PutF_ok (r d n h t v k : Nat) (B : Nat → Bool) (w : World) (ho : Ref w r d n B h t) (hn : n ≤ 512) (hl : h + t + k ≤ 8 * n) (hv : v < 4294967296) (hk : k ≤ 32) (hvk : v < 2 ^ k) :
    Calls Try.prog 12 #[.pointer (some ⟨r, 0, none⟩), .int .u32 v, .int .i64 k, .bool true] w fun e w' => e = .returned (.int .i64 0) ∧ But r d w w' ∧ Ref w' r d n (M.pf B h v k k) (h + k) t := by
  have hp : 2 ^ k ≤ 2 ^ 32 := Nat.pow_le_pow_right (by decide) (by omega)
  obtain ⟨z, e1, hze⟩ : ∃ z : Nat, (2 : Int) ^ k = z ∧ z = 2 ^ k := ⟨_, by simp, rfl⟩
  have w1 : IntKind.u64.wrap (z : Int) = z := wrapu_id _ (by omega) (by rw [hze]; omega)
  have w2 : IntKind.u64.wrap (k : Int) = k := wrapu_id _ (by omega) (by omega)
  have w3 : IntKind.u64.wrap (v : Int) = v := wrapu_id _ (by omega) (by omega)
  have hz : v < z := by omega
  have k0 : ¬ (k : Int) < 0 := by omega
  have k1 : ¬ (32 : Int) < k := by omega
  have hM := RMay r d n h t k B w ho hn (by omega)
  rw [show M.may (8 * n) h t k = 0 by unfold M.may; rw [if_neg (by omega), if_neg (by omega)]] at hM
  clear hze hp hvk
  go_enter Try.func12, Try.ntmps12
  go_wp2_with (go_at_call 28; refine hM.mono ?_; rintro e w' ⟨rfl, m, rfl⟩)
  go_loopw [10] (fun j wr => ∃ m : Nat, m ≤ k ∧ j = .int .i64 m ∧ But r d w wr ∧ Ref wr r d n (M.pf B h v k m) (h + m) t) (fun j _ => k - (intOf j).toNat)
  case atStart => exact ⟨0, by omega, rfl, (But.refl r d w).drewN _, ho.drewN _⟩
  case round =>
    obtain ⟨m, hm, rfl, hbut, hO⟩ := hrel
    by_cases hlt : m < k
    · obtain ⟨cap, c0, cd, fd, hrd⟩ := hO.cell (i := h + m) (by omega)
      have c1 : wr.cell? ⟨r, 1, none⟩ = some (.int .i64 (h + m : Nat)) := by obtain ⟨s, q, _⟩ := hO; exact q.cell rfl
      have f1 : wr.frozen? ⟨r, 1, none⟩ = false := by obtain ⟨s, q, _⟩ := hO; exact q.free 1
      have hj : ((k : Int) - 1 - m).toNat = k - 1 - m := by omega
      have j0 : 0 ≤ (k : Int) - 1 - m := by omega
      have j1 : (k : Int) - 1 - m ≤ 32 := by omega
      have v1 : IntKind.i64.wrap ((k : Int) - 1) = (k : Int) - 1 := wrap_id _ (by omega) (by omega)
      have v2 : IntKind.i64.wrap ((k : Int) - 1 - m) = (k : Int) - 1 - m := wrap_id _ (by omega) (by omega)
      have v3 : IntKind.u64.wrap ((k : Int) - 1 - m) = (k : Int) - 1 - m := wrapu_id _ (by omega) (by omega)
      obtain ⟨y, e2, hye⟩ : ∃ y : Nat, (v : Int) / 2 ^ (k - 1 - m) = y ∧ y = v / 2 ^ (k - 1 - m) := ⟨_, by simp, rfl⟩
      have yb : y % 2 = (v.testBit (k - 1 - m)).toNat := by
        rw [Nat.testBit_eq_decide_div_mod_eq, ← hye]
        rcases Nat.mod_two_eq_zero_or_one y with e | e <;> rw [e] <;> rfl
      have yl : y < 4294967296 := by rw [hye]; exact shr_lt hv _
      clear hye
      have i0 : (0 : Int) ≤ ((h + m : Nat) : Int) := by omega
      have i1 : ((h + m : Nat) : Int) < ((8 * n : Nat) : Int) := by omega
      have v4 : IntKind.i64.wrap ((y : Int) % 2) = ((y % 2 : Nat) : Int) := by rw [wrap_id _ (by omega) (by omega)]; omega
      go_wp2
      go_region
      go_wp2
      go_roundw
      case rel => exact ⟨m + 1, by omega, by go_num, ((hbut.set (.inr (.inl rfl)) _).set (.inl rfl) _).drew, Ref.drewN ((hO.put (by omega) (v.testBit (k - 1 - m)) _ rfl).head _ (by omega)) 1⟩
      case measure => simp [intOf]; omega
    · obtain rfl : m = k := by omega
      go_wp2
      go_ret
      exact ⟨rfl, hbut, hO⟩

set_option maxRecDepth 100000 in
set_option maxHeartbeats 1000000 in
theorem PutB_ok (r d n h t v k : Nat) (B : Nat → Bool) (w : World) (ho : Ref w r d n B h t) (hn : n ≤ 512) (hl : h + t + k ≤ 8 * n) (hv : v < 4294967296) (hk : k ≤ 32) (hvk : v < 2 ^ k) :
    Calls Try.prog 12 #[.pointer (some ⟨r, 0, none⟩), .int .u32 v, .int .i64 k, .bool false] w fun e w' => e = .returned (.int .i64 0) ∧ But r d w w' ∧ Ref w' r d n (M.pb B (8 * n) t v k) h (t + k) := by
  have hp : 2 ^ k ≤ 2 ^ 32 := Nat.pow_le_pow_right (by decide) (by omega)
  obtain ⟨z, e1, hze⟩ : ∃ z : Nat, (2 : Int) ^ k = z ∧ z = 2 ^ k := ⟨_, by simp, rfl⟩
  have w1 : IntKind.u64.wrap (z : Int) = z := wrapu_id _ (by omega) (by rw [hze]; omega)
  have w2 : IntKind.u64.wrap (k : Int) = k := wrapu_id _ (by omega) (by omega)
  have w3 : IntKind.u64.wrap (v : Int) = v := wrapu_id _ (by omega) (by omega)
  have hz : v < z := by omega
  have k0 : ¬ (k : Int) < 0 := by omega
  have k1 : ¬ (32 : Int) < k := by omega
  have hM := RMay r d n h t k B w ho hn (by omega)
  rw [show M.may (8 * n) h t k = 0 by unfold M.may; rw [if_neg (by omega), if_neg (by omega)]] at hM
  clear hze hp hvk
  go_enter Try.func12, Try.ntmps12
  go_wp2_with (go_at_call 28; refine hM.mono ?_; rintro e w' ⟨rfl, m, rfl⟩)
  go_loopw [10] (fun j wr => ∃ m : Nat, m ≤ k ∧ j = .int .i64 m ∧ But r d w wr ∧ Ref wr r d n (M.pb B (8 * n) t v m) h (t + m)) (fun j _ => k - (intOf j).toNat)
  case atStart => exact ⟨0, by omega, rfl, (But.refl r d w).drewN _, ho.drewN _⟩
  case round =>
    obtain ⟨m, hm, rfl, hbut, hO⟩ := hrel
    by_cases hlt : m < k
    · obtain ⟨cap, c0, cd, fd, hrd⟩ := hO.cell (i := 8 * n - (t + m + 1)) (by omega)
      have c1 : wr.cell? ⟨r, 2, none⟩ = some (.int .i64 (t + m : Nat)) := by obtain ⟨s, q, _⟩ := hO; exact q.cell rfl
      have f1 : wr.frozen? ⟨r, 2, none⟩ = false := by obtain ⟨s, q, _⟩ := hO; exact q.free 2
      have j1 : (m : Int) ≤ 32 := by omega
      have v3 : IntKind.u64.wrap (m : Int) = m := wrapu_id _ (by omega) (by omega)
      obtain ⟨y, e2, hye⟩ : ∃ y : Nat, (v : Int) / 2 ^ m = y ∧ y = v / 2 ^ m := ⟨_, by simp, rfl⟩
      have yb : y % 2 = (v.testBit m).toNat := by
        rw [Nat.testBit_eq_decide_div_mod_eq, ← hye]
        rcases Nat.mod_two_eq_zero_or_one y with e | e <;> rw [e] <;> rfl
      have yl : y < 4294967296 := by rw [hye]; exact shr_lt hv _
      clear hye
      obtain ⟨q, hq⟩ : ∃ q, q = 8 * n - (t + m + 1) := ⟨_, rfl⟩
      have hB := Rback r d n h (t + m) (t + m) _ wr.drew hO hn (by omega)
      rw [show 8 * n - (t + m + 1) = q from hq.symm] at cd fd hB
      have i0 : (0 : Int) ≤ (q : Int) := by omega
      have i1 : (q : Int) < ((8 * n : Nat) : Int) := by omega
      have i2 : (q : Int) < 8 * (n : Int) := by omega
      have kS : ∀ (v : Value) (i : Nat), (wr.setCell ⟨d, q, none⟩ v).cell? ⟨r, i, none⟩ = wr.cell? ⟨r, i, none⟩ := fun v i => World.cell?_of_block (w := wr) (Below.heap_setCell _ _ _ _ hrd)
      replace hq : Hid (q = 8 * n - (t + m + 1)) := hq
      have v4 : IntKind.i64.wrap ((y : Int) % 2) = ((y % 2 : Nat) : Int) := by rw [wrap_id _ (by omega) (by omega)]; omega
      go_wp2
      go_region_held3 (fun w' => w'.cell? ⟨r, 0, none⟩ = some (.slice (some ⟨d, 0, none⟩) (8 * n) cap) ∧ w'.cell? ⟨r, 2, none⟩ = some (.int .i64 (t + m : Nat)))
        (first | exact ⟨c0, c1⟩ | go_keep)
        (first | (go_at_call 29; refine hB.mono ?_; rintro e w' ⟨rfl, rfl⟩))
      go_wp2
      go_roundw
      case rel =>
        obtain rfl : q = 8 * n - (t + m + 1) := hq
        exact ⟨m + 1, by omega, by go_num, ((hbut.set (.inr (.inl rfl)) _).set (.inl rfl) _).drew, Ref.drewN ((hO.put (by omega) (v.testBit m) _ (by omega)).tail _ (by omega)) 1⟩
      case measure => simp [intOf]; omega
    · obtain rfl : m = k := by omega
      go_wp2
      go_ret
      exact ⟨rfl, hbut, hO⟩

theorem Put_any (r d n h t v : Nat) (k : Int) (f : Bool) (B : Nat → Bool) (w : World) (ho : Ref w r d n B h t) (hn : n ≤ 512) (hl : h + t ≤ 8 * n) (hv : v < 4294967296) :
    Calls Try.prog 12 #[.pointer (some ⟨r, 0, none⟩), .int .u32 v, .int .i64 k, .bool f] w fun e w' => e = .returned (.int .i64 (M.mayv (8 * n) h t v k)) ∧ But r d w w' ∧
      Ref w' r d n (M.nB f (8 * n) B h t v k) (M.nh f (8 * n) h t v k) (M.nt f (8 * n) h t v k) := by
  unfold M.nB M.nh M.nt
  by_cases he : M.mayv (8 * n) h t v k = 0
  · obtain ⟨κ, rfl, h1, h2, h3⟩ := mayv_ok he
    cases f
    · refine (PutB_ok r d n h t v κ B w ho hn h3 hv h1 h2).mono ?_
      rintro e w' ⟨rfl, q1, q2⟩
      rw [he, if_pos rfl, if_neg (by decide), if_neg (fun h => by cases h.2), if_pos ⟨rfl, rfl⟩]
      exact ⟨rfl, q1, q2⟩
    · refine (PutF_ok r d n h t v κ B w ho hn h3 hv h1 h2).mono ?_
      rintro e w' ⟨rfl, q1, q2⟩
      rw [he, if_pos rfl, if_pos rfl, if_pos ⟨rfl, rfl⟩, if_neg (fun h => by cases h.2)]
      exact ⟨rfl, q1, q2⟩
  · refine (Put_err r d n h t v k f B w ho hn hl hv he).mono ?_
    rintro e w' ⟨rfl, m, rfl⟩
    rw [if_neg he, if_neg (fun h => he h.1), if_neg (fun h => he h.1)]
    exact ⟨rfl, (But.refl r d w).drewN m, ho.drewN m⟩

end Bits
end Go.Proofs.Ytafjepneekomiaa
