/-
  Contracts of an eye's reading calls (package bits). Conditions: the object stands in memory as Open makes it.
-/
import Derived.Test.YtafjepneekomiaaBitsPad
namespace Go.Proofs.Ytafjepneekomiaa
set_option linter.unusedVariables false
open Go.RowKit
namespace Bits

set_option maxRecDepth 100000 in
theorem FrontE_err (p b c d n h t : Nat) (k : Int) (B : Nat → Bool) (w : World) (ho : Own 67 w p b c d n B h t) (hn : n ≤ 512) (hl : h + t ≤ 8 * n) (he : M.may (8 * n) h t k ≠ 0) :
    Calls Try.prog 20 #[.pointer (some ⟨p, 0, none⟩), .int .i64 k] w fun e w' => e = .returned (.tuple #[.int .u32 0, .int .i64 (M.may (8 * n) h t k)]) ∧ ∃ m, w' = w.drewN m := by
  go_enter Try.func20, Try.ntmps20
  go_wp2_with (go_at_call 32; refine (refusalE p b c d n h t k B _ ho hn hl).mono ?_; rintro e w' ⟨rfl, m, rfl⟩)
  go_ret2
  exact ⟨rfl, _, rfl⟩

set_option maxRecDepth 100000 in
theorem BackE_err (p b c d n h t : Nat) (k : Int) (B : Nat → Bool) (w : World) (ho : Own 67 w p b c d n B h t) (hn : n ≤ 512) (hl : h + t ≤ 8 * n) (he : M.may (8 * n) h t k ≠ 0) :
    Calls Try.prog 19 #[.pointer (some ⟨p, 0, none⟩), .int .i64 k] w fun e w' => e = .returned (.tuple #[.int .u32 0, .int .i64 (M.may (8 * n) h t k)]) ∧ ∃ m, w' = w.drewN m := by
  go_enter Try.func19, Try.ntmps19
  go_wp2_with (go_at_call 32; refine (refusalE p b c d n h t k B _ ho hn hl).mono ?_; rintro e w' ⟨rfl, m, rfl⟩)
  go_ret2
  exact ⟨rfl, _, rfl⟩

set_option maxRecDepth 100000 in
theorem FrontE_ok (p b c d n h t k : Nat) (B : Nat → Bool) (w : World) (ho : Own 67 w p b c d n B h t) (hn : n ≤ 512) (hl : h + t + k ≤ 8 * n) (he : M.may (8 * n) h t k = 0) (hk : k ≤ 32) :
    Calls Try.prog 20 #[.pointer (some ⟨p, 0, none⟩), .int .i64 k] w fun e w' => e = .returned (.tuple #[.int .u32 (M.fv B h k), .int .i64 0]) ∧ But b b w w' ∧ Own 67 w' p b c d n B (h + k) t := by
  go_enter Try.func20, Try.ntmps20
  go_wp2_with (go_at_call 32; refine (refusalE p b c d n h t k B _ ho hn (by omega)).mono ?_; rintro e w' ⟨rfl, m, rfl⟩; rw [he])
  go_loopw [7, 15] (fun x j wr => ∃ m : Nat, m ≤ k ∧ x = .int .u32 (M.fv B h m) ∧ j = .int .i64 m ∧ But b b w wr ∧ Own 67 wr p b c d n B (h + m) t) (fun _ j _ => k - (intOf j).toNat)
  case atStart => exact ⟨0, by omega, rfl, rfl, (But.refl b b w).drewN _, ho.drewN _⟩
  case round =>
    obtain ⟨m, hm, rfl, rfl, hbut, hO⟩ := hrel
    by_cases hlt : m < k
    · obtain ⟨g1, g2, g3⟩ := hO
      obtain ⟨pb, cb, _⟩ := Own.ne (ty := 67) ⟨g1, g2, g3⟩ (by decide) (by decide)
      have k0 : wr.cell? ⟨p, 0, none⟩ = some (.pointer (some ⟨b, 0, none⟩)) := g1.cell rfl
      have k1 : wr.cell? ⟨p, 1, none⟩ = some (.func (.func 35) #[] #[.pointer (some ⟨c, 0, none⟩)]) := g1.cell rfl
      have hst := M.step_front (M.fv B h m) (B (h + m)).toNat (Nat.lt_of_lt_of_le (M.fv_lt B h m) (Nat.pow_le_pow_right (i := m) (j := 31) (by decide) (by omega))) (Bool.toNat_le _)
      obtain ⟨x, hx⟩ : ∃ x, x = M.fv B h m := ⟨_, rfl⟩
      obtain ⟨y, hy⟩ : ∃ y, y = (B (h + m)).toNat := ⟨_, rfl⟩
      rw [← hx, ← hy] at hst
      rw [← hx]
      go_wp2
      go_region_held3 (fun w' => w'.cell? ⟨p, 0, none⟩ = some (.pointer (some ⟨b, 0, none⟩)) ∧ w'.cell? ⟨p, 1, none⟩ = some (.func (.func 35) #[] #[.pointer (some ⟨c, 0, none⟩)]))
        (first | exact ⟨k0, k1⟩ | exact ⟨k0', k1'⟩ | exact ⟨k0'', k1''⟩)
        (first
          | (go_at_call 35; refine (front_any b c d n (h + m) t _ _ (by exact g2) (by exact g3) hn (by omega)).mono ?_; rintro e w1 ⟨rfl, hb1, hc1⟩
             have k0' : w1.cell? ⟨p, 0, none⟩ = some (.pointer (some ⟨b, 0, none⟩)) := (hb1.blk g1 pb pb).cell rfl
             have k1' : w1.cell? ⟨p, 1, none⟩ = some (.func (.func 35) #[] #[.pointer (some ⟨c, 0, none⟩)]) := (hb1.blk g1 pb pb).cell rfl)
          | (go_at_call 33; refine (at_any b d n (h + m + 1) t (h + m) _ _ hc1 hn (by omega)).mono ?_; rw [← hy]; rintro e w2 ⟨rfl, m2, hw2⟩
             have k0'' : w2.cell? ⟨p, 0, none⟩ = some (.pointer (some ⟨b, 0, none⟩)) := by rw [hw2]; exact k0'
             have k1'' : w2.cell? ⟨p, 1, none⟩ = some (.func (.func 35) #[] #[.pointer (some ⟨c, 0, none⟩)]) := by rw [hw2]; exact k1'))
      go_wp2
      go_roundw
      case rel =>
        subst hw2
        refine ⟨m + 1, by omega, ?_, by go_num, (hbut.drew.trans hb1).drewN _, hb1.blk g1 pb pb, hb1.blk g2 cb cb, hc1⟩
        rw [hx, hy] at hst; rw [hst]; rfl
      case measure => simp [intOf]; omega
    · obtain rfl : m = k := by omega
      go_wp2
      go_ret2
      exact ⟨rfl, hbut, hO⟩

set_option maxRecDepth 100000 in
theorem BackE_ok (p b c d n h t k : Nat) (B : Nat → Bool) (w : World) (ho : Own 67 w p b c d n B h t) (hn : n ≤ 512) (hl : h + t + k ≤ 8 * n) (he : M.may (8 * n) h t k = 0) (hk : k ≤ 32) :
    Calls Try.prog 19 #[.pointer (some ⟨p, 0, none⟩), .int .i64 k] w fun e w' => e = .returned (.tuple #[.int .u32 (M.bv B (8 * n) t k), .int .i64 0]) ∧ But b b w w' ∧ Own 67 w' p b c d n B h (t + k) := by
  go_enter Try.func19, Try.ntmps19
  go_wp2_with (go_at_call 32; refine (refusalE p b c d n h t k B _ ho hn (by omega)).mono ?_; rintro e w' ⟨rfl, m, rfl⟩; rw [he])
  go_loopw [7, 16] (fun x j wr => ∃ m : Nat, m ≤ k ∧ x = .int .u32 (M.bv B (8 * n) t m) ∧ j = .int .i64 m ∧ But b b w wr ∧ Own 67 wr p b c d n B h (t + m)) (fun _ j _ => k - (intOf j).toNat)
  case atStart => exact ⟨0, by omega, rfl, rfl, (But.refl b b w).drewN _, ho.drewN _⟩
  case round =>
    obtain ⟨m, hm, rfl, rfl, hbut, hO⟩ := hrel
    by_cases hlt : m < k
    · obtain ⟨g1, g2, g3⟩ := hO
      obtain ⟨pb, cb, _⟩ := Own.ne (ty := 67) ⟨g1, g2, g3⟩ (by decide) (by decide)
      have k0 : wr.cell? ⟨p, 0, none⟩ = some (.pointer (some ⟨b, 0, none⟩)) := g1.cell rfl
      have k1 : wr.cell? ⟨p, 2, none⟩ = some (.func (.func 36) #[] #[.pointer (some ⟨c, 0, none⟩)]) := g1.cell rfl
      have hst := M.step_back (M.bv B (8 * n) t m) (B (8 * n - (t + m + 1))).toNat m (M.bv_lt B _ t m) (Bool.toNat_le _) (by omega)
      obtain ⟨x, hx⟩ : ∃ x, x = M.bv B (8 * n) t m := ⟨_, rfl⟩
      obtain ⟨y, hy⟩ : ∃ y, y = (B (8 * n - (t + m + 1))).toNat := ⟨_, rfl⟩
      rw [← hx, ← hy] at hst
      rw [← hx]
      have j1 : (m : Int) ≤ 32 := by omega
      go_wp2
      go_region_held3 (fun w' => w'.cell? ⟨p, 0, none⟩ = some (.pointer (some ⟨b, 0, none⟩)) ∧ w'.cell? ⟨p, 2, none⟩ = some (.func (.func 36) #[] #[.pointer (some ⟨c, 0, none⟩)]))
        (first | exact ⟨k0, k1⟩ | exact ⟨k0', k1'⟩ | exact ⟨k0'', k1''⟩)
        (first
          | (go_at_call 36; refine (back_any b c d n h (t + m) _ _ (by exact g2) (by exact g3) hn (by omega)).mono ?_; rintro e w1 ⟨rfl, hb1, hc1⟩
             have k0' : w1.cell? ⟨p, 0, none⟩ = some (.pointer (some ⟨b, 0, none⟩)) := (hb1.blk g1 pb pb).cell rfl
             have k1' : w1.cell? ⟨p, 2, none⟩ = some (.func (.func 36) #[] #[.pointer (some ⟨c, 0, none⟩)]) := (hb1.blk g1 pb pb).cell rfl)
          | (go_at_call 33; refine (at_any b d n h (t + m + 1) (8 * n - (t + m + 1)) _ _ hc1 hn (by omega)).mono ?_; rw [← hy]; rintro e w2 ⟨rfl, m2, hw2⟩
             have k0'' : w2.cell? ⟨p, 0, none⟩ = some (.pointer (some ⟨b, 0, none⟩)) := by rw [hw2]; exact k0'
             have k1'' : w2.cell? ⟨p, 2, none⟩ = some (.func (.func 36) #[] #[.pointer (some ⟨c, 0, none⟩)]) := by rw [hw2]; exact k1'))
      go_wp2
      go_roundw
      case rel =>
        subst hw2
        refine ⟨m + 1, by omega, ?_, by go_num, (hbut.drew.trans hb1).drewN _, hb1.blk g1 pb pb, hb1.blk g2 cb cb, hc1⟩
        rw [hx, hy] at hst; rw [hst]; rfl
      case measure => simp [intOf]; omega
    · obtain rfl : m = k := by omega
      go_wp2
      go_ret2
      exact ⟨rfl, hbut, hO⟩

end Bits
end Go.Proofs.Ytafjepneekomiaa
