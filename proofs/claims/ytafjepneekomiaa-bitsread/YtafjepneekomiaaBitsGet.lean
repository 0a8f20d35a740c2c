/-
  Contracts of the document's Get (psalteryref05). Conditions: the object stands in memory as Of makes it.
-/
import Derived.Test.YtafjepneekomiaaBitsPut
namespace Go.Proofs.Ytafjepneekomiaa
set_option linter.unusedVariables false
open Go.RowKit
namespace Bits

theorem wrap32_id (n : Int) (h0 : 0 ≤ n) (h1 : n < 4294967296) : IntKind.u32.wrap n = n := by rw [IntKind.wrap_u32']; omega

set_option maxRecDepth 100000 in
theorem Get_err (r d n h t : Nat) (k : Int) (f : Bool) (B : Nat → Bool) (w : World) (ho : Ref w r d n B h t) (hn : n ≤ 512) (hl : h + t ≤ 8 * n) (he : M.may (8 * n) h t k ≠ 0) :
    Calls Try.prog 21 #[.pointer (some ⟨r, 0, none⟩), .int .i64 k, .bool f] w fun e w' => e = .returned (.tuple #[.int .u32 0, .int .i64 (M.may (8 * n) h t k)]) ∧ ∃ m, w' = w.drewN m := by
  obtain ⟨x, hx⟩ : ∃ x, x = M.may (8 * n) h t k := ⟨_, rfl⟩
  have hM := RMay r d n h t k B w ho hn hl
  rw [← hx] at he hM ⊢
  clear hx
  go_enter Try.func21, Try.ntmps21
  go_wp2_with (go_at_call 28; refine hM.mono ?_; rintro e w' ⟨rfl, m, rfl⟩)
  go_ret2
  exact ⟨rfl, _, rfl⟩

set_option maxRecDepth 100000 in
set_option maxHeartbeats 1000000 in
theorem GetF_ok (r d n h t k : Nat) (B : Nat → Bool) (w : World) (ho : Ref w r d n B h t) (hn : n ≤ 512) (hl : h + t + k ≤ 8 * n) (hk : k ≤ 32) :
    Calls Try.prog 21 #[.pointer (some ⟨r, 0, none⟩), .int .i64 k, .bool true] w fun e w' => e = .returned (.tuple #[.int .u32 (M.fv B h k), .int .i64 0]) ∧ But r r w w' ∧ Ref w' r d n B (h + k) t := by
  have hM := RMay r d n h t k B w ho hn (by omega)
  rw [show M.may (8 * n) h t k = 0 by unfold M.may; rw [if_neg (by omega), if_neg (by omega)]] at hM
  go_enter Try.func21, Try.ntmps21
  go_wp2_with (go_at_call 28; refine hM.mono ?_; rintro e w' ⟨rfl, m, rfl⟩)
  go_loopw [9, 10] (fun x j wr => ∃ m : Nat, m ≤ k ∧ x = .int .u32 (M.fv B h m) ∧ j = .int .i64 m ∧ But r r w wr ∧ Ref wr r d n B (h + m) t) (fun _ j _ => k - (intOf j).toNat)
  case atStart => exact ⟨0, by omega, rfl, rfl, (But.refl r r w).drewN _, ho.drewN _⟩
  case round =>
    obtain ⟨m, hm, rfl, rfl, hbut, hO⟩ := hrel
    by_cases hlt : m < k
    · obtain ⟨cap, c0, cd, fd, hrd⟩ := hO.cell (i := h + m) (by omega)
      have c1 : wr.cell? ⟨r, 1, none⟩ = some (.int .i64 (h + m : Nat)) := by obtain ⟨s, q, _⟩ := hO; exact q.cell rfl
      have f1 : wr.frozen? ⟨r, 1, none⟩ = false := by obtain ⟨s, q, _⟩ := hO; exact q.free 1
      have hl0 : M.fv B h m < 2147483648 := Nat.lt_of_lt_of_le (M.fv_lt B h m) (Nat.pow_le_pow_right (i := m) (j := 31) (by decide) (by omega))
      have hst : M.fv B h (m + 1) = 2 * M.fv B h m + (B (h + m)).toNat := rfl
      have hy1 : (B (h + m)).toNat ≤ 1 := Bool.toNat_le _
      obtain ⟨x, hx⟩ : ∃ x, x = M.fv B h m := ⟨_, rfl⟩
      obtain ⟨y, hy⟩ : ∃ y, y = (B (h + m)).toNat := ⟨_, rfl⟩
      rw [← hx] at hst hl0
      rw [← hy] at cd hst hy1
      rw [← hx]
      clear hx hy
      have g1 : IntKind.u32.wrap ((x : Int) * 2) = (x : Int) * 2 := wrap32_id _ (by omega) (by omega)
      have g2 : IntKind.u32.wrap (y : Int) = (y : Int) := wrap32_id _ (by omega) (by omega)
      have g3 : IntKind.u32.wrap ((x : Int) * 2 + y) = (x : Int) * 2 + y := wrap32_id _ (by omega) (by omega)
      have i0 : (0 : Int) ≤ ((h + m : Nat) : Int) := by omega
      have i1 : ((h + m : Nat) : Int) < ((8 * n : Nat) : Int) := by omega
      replace hst : Hid (M.fv B h (m + 1) = 2 * x + y) := hst
      go_wp2
      go_quiet (fail)
      go_wp2
      go_roundw
      case rel =>
        refine ⟨m + 1, by omega, ?_, by go_num, (hbut.drewN _).set (.inl rfl) _, (Ref.head (hO.drewN _) _ (by omega))⟩
        rw [show M.fv B h (m + 1) = _ from hst]
        go_num
      case measure => simp [intOf]; omega
    · obtain rfl : m = k := by omega
      go_wp2
      go_ret2
      exact ⟨rfl, hbut, hO⟩

set_option maxRecDepth 100000 in
set_option maxHeartbeats 1000000 in
theorem GetB_ok (r d n h t k : Nat) (B : Nat → Bool) (w : World) (ho : Ref w r d n B h t) (hn : n ≤ 512) (hl : h + t + k ≤ 8 * n) (hk : k ≤ 32) :
    Calls Try.prog 21 #[.pointer (some ⟨r, 0, none⟩), .int .i64 k, .bool false] w fun e w' => e = .returned (.tuple #[.int .u32 (M.bv B (8 * n) t k), .int .i64 0]) ∧ But r r w w' ∧ Ref w' r d n B h (t + k) := by
  have hM := RMay r d n h t k B w ho hn (by omega)
  rw [show M.may (8 * n) h t k = 0 by unfold M.may; rw [if_neg (by omega), if_neg (by omega)]] at hM
  go_enter Try.func21, Try.ntmps21
  go_wp2_with (go_at_call 28; refine hM.mono ?_; rintro e w' ⟨rfl, m, rfl⟩)
  go_loopw [9, 10] (fun x j wr => ∃ m : Nat, m ≤ k ∧ x = .int .u32 (M.bv B (8 * n) t m) ∧ j = .int .i64 m ∧ But r r w wr ∧ Ref wr r d n B h (t + m)) (fun _ j _ => k - (intOf j).toNat)
  case atStart => exact ⟨0, by omega, rfl, rfl, (But.refl r r w).drewN _, ho.drewN _⟩
  case round =>
    obtain ⟨m, hm, rfl, rfl, hbut, hO⟩ := hrel
    by_cases hlt : m < k
    · obtain ⟨cap, c0, cd, fd, hrd⟩ := hO.cell (i := 8 * n - (t + m + 1)) (by omega)
      have c1 : wr.cell? ⟨r, 2, none⟩ = some (.int .i64 (t + m : Nat)) := by obtain ⟨s, q, _⟩ := hO; exact q.cell rfl
      have f1 : wr.frozen? ⟨r, 2, none⟩ = false := by obtain ⟨s, q, _⟩ := hO; exact q.free 2
      have hl0 : M.bv B (8 * n) t (m + 1) < 4294967296 := Nat.lt_of_lt_of_le (M.bv_lt B _ t (m + 1)) (Nat.pow_le_pow_right (i := m + 1) (j := 32) (by decide) (by omega))
      have hst : M.bv B (8 * n) t (m + 1) = M.bv B (8 * n) t m + (B (8 * n - (t + m + 1))).toNat * 2 ^ m := rfl
      obtain ⟨x, hx⟩ : ∃ x, x = M.bv B (8 * n) t m := ⟨_, rfl⟩
      obtain ⟨y, hy⟩ : ∃ y, y = (B (8 * n - (t + m + 1))).toNat := ⟨_, rfl⟩
      have hy1 : y ≤ 1 := by rw [hy]; exact Bool.toNat_le _
      obtain ⟨s, es, hs⟩ : ∃ s : Nat, (y : Int) * 2 ^ m = s ∧ s = y * 2 ^ m := ⟨_, by simp, rfl⟩
      rw [hst] at hl0
      rw [← hx, ← hy, ← hs] at hst hl0
      rw [← hy] at cd
      rw [← hx]
      obtain ⟨q, hq⟩ : ∃ q, q = 8 * n - (t + m + 1) := ⟨_, rfl⟩
      have hB := fun z => Rback r d n h (t + m) (t + m) B (wr.drewN z) (hO.drewN z) hn (by omega)
      rw [show 8 * n - (t + m + 1) = q from hq.symm] at cd hB
      clear hx hy hs fd
      have i0 : (0 : Int) ≤ (q : Int) := by omega
      have i1 : (q : Int) < ((8 * n : Nat) : Int) := by omega
      have i2 : (q : Int) < 8 * (n : Int) := by omega
      clear hq
      have g0 : IntKind.u64.wrap (m : Int) = m := wrapu_id _ (by omega) (by omega)
      have g1 : IntKind.u32.wrap (s : Int) = (s : Int) := wrap32_id _ (by omega) (by omega)
      have g2 : IntKind.u32.wrap (y : Int) = (y : Int) := wrap32_id _ (by omega) (by omega)
      have g3 : IntKind.u32.wrap ((x : Int) + s) = (x : Int) + s := wrap32_id _ (by omega) (by omega)
      have j1 : (m : Int) ≤ 32 := by omega
      replace hst : Hid (M.bv B (8 * n) t (m + 1) = x + s) := hst
      go_wp2
      go_quiet (first | (go_at_call 29; refine Calls.quiet_of_same (by exact hB _)))
      go_wp2
      go_roundw
      case rel =>
        refine ⟨m + 1, by omega, ?_, by go_num, (hbut.drewN _).set (.inl rfl) _, (Ref.tail (hO.drewN _) _ (by omega))⟩
        rw [show M.bv B (8 * n) t (m + 1) = _ from hst]
        go_num
      case measure => simp [intOf]; omega
    · obtain rfl : m = k := by omega
      go_wp2
      go_ret2
      exact ⟨rfl, hbut, hO⟩

theorem Get_any (r d n h t : Nat) (k : Int) (f : Bool) (B : Nat → Bool) (w : World) (ho : Ref w r d n B h t) (hn : n ≤ 512) (hl : h + t ≤ 8 * n) :
    Calls Try.prog 21 #[.pointer (some ⟨r, 0, none⟩), .int .i64 k, .bool f] w fun e w' => e = .returned (.tuple #[.int .u32 (M.ev f (8 * n) B h t k), .int .i64 (M.may (8 * n) h t k)]) ∧ But r r w w' ∧
      Ref w' r d n B (M.eh f (8 * n) h t k) (M.et f (8 * n) h t k) := by
  unfold M.ev M.eh M.et
  by_cases he : M.may (8 * n) h t k = 0
  · obtain ⟨κ, rfl, h1, h3⟩ := may_ok he
    cases f
    · refine (GetB_ok r d n h t κ B w ho hn h3 h1).mono ?_
      rintro e w' ⟨rfl, q1, q2⟩
      rw [he, if_pos rfl, if_neg (by decide), if_neg (fun h => by cases h.2), if_pos ⟨rfl, rfl⟩]
      exact ⟨rfl, q1, q2⟩
    · refine (GetF_ok r d n h t κ B w ho hn h3 h1).mono ?_
      rintro e w' ⟨rfl, q1, q2⟩
      rw [he, if_pos rfl, if_pos rfl, if_pos ⟨rfl, rfl⟩, if_neg (fun h => by cases h.2)]
      exact ⟨rfl, q1, q2⟩
  · refine (Get_err r d n h t k f B w ho hn hl he).mono ?_
    rintro e w' ⟨rfl, m, rfl⟩
    rw [if_neg he, if_neg (fun h => he h.1), if_neg (fun h => he h.1)]
    exact ⟨rfl, (But.refl r r w).drewN m, ho.drewN m⟩

end Bits
end Go.Proofs.Ytafjepneekomiaa
