/-
  Contracts of package quant and of the document's answer, for any scale and any bits; the chapter's examples; the law of levels. Conditions: as told at each.
-/
import Derived.Test.YtbfanglillndnaaQuantTell
import Derived.Test.YtbfanglillndnaaQuantBack
namespace Go.Proofs.Ytbfanglillndnaa
set_option linter.unusedVariables false
open Go.RowKit
namespace Qnt

def qa (x s b : Int) : Int × Int := if 0 ≤ s ∧ s ≤ 15 ∧ (b = 0 ∨ (2 ≤ b ∧ b ≤ 16)) then (if b = 0 then (0, 0) else (M.qz x (M.rch s.toNat) (M.lvl b.toNat), 0)) else (0, 1)
def la (q s b : Int) : Int × Int :=
  if 0 ≤ s ∧ s ≤ 15 ∧ (b = 0 ∨ (2 ≤ b ∧ b ≤ 16)) then
    (if b = 0 then (if q = 0 then (0, 0) else (0, 1)) else if 0 ≤ q ∧ q < M.lvl b.toNat then (M.lz q (M.rch s.toNat) (M.lvl b.toNat), 0) else (0, 1))
  else (0, 1)
theorem qa_no {x s b : Int} (h : ¬ M.mayQ s b) : qa x s b = (0, 1) := if_neg h
theorem qa_zero {x s : Int} (h : M.mayQ s 0) : qa x s 0 = (0, 0) := by
  unfold qa
  rw [if_pos (show 0 ≤ s ∧ s ≤ 15 ∧ ((0 : Int) = 0 ∨ (2 : Int) ≤ 0 ∧ (0 : Int) ≤ 16) from h), if_pos rfl]
theorem qa_some {x : Int} {s b : Nat} (hs : s ≤ 15) (hb2 : 2 ≤ b) (hb16 : b ≤ 16) : qa x s b = (M.qz x (M.rch s) (M.lvl b), 0) := by
  unfold qa; rw [if_pos (by omega), if_neg (by omega)]; simp
theorem la_no {q s b : Int} (h : noL q s b) : la q s b = (0, 1) := by
  unfold la
  split
  · rename_i h'
    rcases h with h | h | ⟨rfl, h⟩ | ⟨h2, h⟩
    · exact absurd h' h
    · split
      · rw [if_neg (by omega)]
      · rw [if_neg (by omega)]
    · rw [if_pos rfl, if_neg (by omega)]
    · have h3 : M.lvl b.toNat ≤ q := h
      rw [if_neg (by omega), if_neg (by omega)]
  · rfl
theorem la_zero {s : Int} (h : M.mayQ s 0) : la 0 s 0 = (0, 0) := by
  unfold la
  rw [if_pos (show 0 ≤ s ∧ s ≤ 15 ∧ ((0 : Int) = 0 ∨ (2 : Int) ≤ 0 ∧ (0 : Int) ≤ 16) from h), if_pos rfl, if_pos rfl]
theorem la_some {q : Int} {s b : Nat} (hs : s ≤ 15) (hb2 : 2 ≤ b) (hb16 : b ≤ 16) (q0 : 0 ≤ q) (q1 : q < M.lvl b) : la q s b = (M.lz q (M.rch s) (M.lvl b), 0) := by
  unfold la; rw [if_pos (by omega), if_neg (by omega), if_pos (by simpa using ⟨q0, q1⟩)]; simp

theorem Quant_any (x s b : Int) (w : World) (hx : -2147483648 ≤ x ∧ x ≤ 2147483647) : Calls Try.prog 9 #[.int .i32 x, .int .i64 s, .int .i64 b] w fun e w' => e = .returned (.tuple #[.int .i64 (qa x s b).1, .int .i64 (qa x s b).2]) ∧ ∃ m, w' = w.drewN m := by
  by_cases h : M.mayQ s b
  · by_cases hb : b = 0
    · subst hb
      rw [qa_zero h]
      exact (Quant_zero x s w h).mono (by rintro e w' ⟨rfl, rfl⟩; exact ⟨rfl, 0, rfl⟩)
    · obtain ⟨h0, h1, h2⟩ := h
      obtain ⟨n, rfl⟩ : ∃ n : Nat, s = n := ⟨s.toNat, by omega⟩
      obtain ⟨k, rfl⟩ : ∃ k : Nat, b = k := ⟨b.toNat, by omega⟩
      rw [qa_some (by omega) (by omega) (by omega)]
      exact Quant_some x n k w hx (by omega) (by omega) (by omega)
  · rw [qa_no h]
    exact (Quant_no x s b w h).mono (by rintro e w' ⟨rfl, rfl⟩; exact ⟨rfl, 0, rfl⟩)

theorem rQuant_any (x s b : Int) (w : World) (hx : -2147483648 ≤ x ∧ x ≤ 2147483647) : Calls Try.prog 10 #[.int .i32 x, .int .i64 s, .int .i64 b] w fun e w' => e = .returned (.tuple #[.int .i64 (qa x s b).1, .int .i64 (qa x s b).2]) ∧ w' = w := by
  by_cases h : M.mayQ s b
  · by_cases hb : b = 0
    · subst hb
      rw [qa_zero h]
      exact rQuant_zero x s w h
    · obtain ⟨h0, h1, h2⟩ := h
      obtain ⟨n, rfl⟩ : ∃ n : Nat, s = n := ⟨s.toNat, by omega⟩
      obtain ⟨k, rfl⟩ : ∃ k : Nat, b = k := ⟨b.toNat, by omega⟩
      rw [qa_some (by omega) (by omega) (by omega)]
      exact rQuant_some x n k w hx (by omega) (by omega) (by omega)
  · rw [qa_no h]
    exact rQuant_no x s b w h

theorem la_cases (q s b : Int) : noL q s b ∨ (M.mayQ s 0 ∧ q = 0 ∧ b = 0) ∨ ∃ n k : Nat, s = n ∧ b = k ∧ n ≤ 15 ∧ 2 ≤ k ∧ k ≤ 16 ∧ 0 ≤ q ∧ q < M.lvl k := by
  by_cases h : M.mayQ s b
  · obtain ⟨h0, h1, h2⟩ := id h
    by_cases hq : q < 0
    · exact .inl (.inr (.inl hq))
    · by_cases hb : b = 0
      · subst hb
        by_cases hq1 : 1 ≤ q
        · exact .inl (.inr (.inr (.inl ⟨rfl, hq1⟩)))
        · exact .inr (.inl ⟨h, by omega, rfl⟩)
      · by_cases hl : M.lvl b.toNat ≤ q
        · exact .inl (.inr (.inr (.inr ⟨by omega, hl⟩)))
        · exact .inr (.inr ⟨s.toNat, b.toNat, by omega, by omega, by omega, by omega, by omega, by omega, by omega⟩)
  · exact .inl (.inl h)

theorem Level_any (q s b : Int) (w : World) : Calls Try.prog 11 #[.int .i64 q, .int .i64 s, .int .i64 b] w fun e w' => e = .returned (.tuple #[.int .i32 (la q s b).1, .int .i64 (la q s b).2]) ∧ ∃ m, w' = w.drewN m := by
  rcases la_cases q s b with h | ⟨h, rfl, rfl⟩ | ⟨n, k, rfl, rfl, h1, h2, h3, h4, h5⟩
  · rw [la_no h]
    exact (Level_no q s b w h).mono (by rintro e w' ⟨rfl, rfl⟩; exact ⟨rfl, 0, rfl⟩)
  · rw [la_zero h]
    exact (Level_zero s w h).mono (by rintro e w' ⟨rfl, rfl⟩; exact ⟨rfl, 0, rfl⟩)
  · rw [la_some h1 h2 h3 h4 h5]
    exact Level_some q n k w h1 h2 h3 h4 h5

theorem rLevel_any (q s b : Int) (w : World) : Calls Try.prog 12 #[.int .i64 q, .int .i64 s, .int .i64 b] w fun e w' => e = .returned (.tuple #[.int .i32 (la q s b).1, .int .i64 (la q s b).2]) ∧ w' = w := by
  rcases la_cases q s b with h | ⟨h, rfl, rfl⟩ | ⟨n, k, rfl, rfl, h1, h2, h3, h4, h5⟩
  · rw [la_no h]
    exact rLevel_no q s b w h
  · rw [la_zero h]
    exact rLevel_zero s w h
  · rw [la_some h1 h2 h3 h4 h5]
    exact rLevel_some q n k w h1 h2 h3 h4 h5

theorem bel_drewN (w : World) (m : Nat) : Below w.heap.size w (w.drewN m) := ⟨rfl, rfl, rfl, Nat.le_refl _, fun _ _ => rfl⟩

theorem one_qz : M.qz 0 (M.rch 0) (M.lvl 2) = 1 := by decide
theorem one_la : la 1 0 2 = (0, 0) := by decide
theorem three_la : la 3 0 2 = (0, 1) := by decide
theorem one_sc : M.sc 1 = 0 := by decide
theorem two_sc : M.sc 2 = 1 := by decide
theorem alive_any (w : World) : Calls Try.prog 8 #[] w fun e w' => e = .returned (.bool true) ∧ ∃ m, w' = w.drewN m := by
  have h1 : ∀ w, Calls Try.prog 9 #[.int .i32 0, .int .i64 0, .int .i64 2] w fun e w' => e = .returned (.tuple #[.int .i64 1, .int .i64 0]) ∧ ∃ m, w' = w.drewN m := fun w => by
    have := Quant_some 0 0 2 w (by omega) (by omega) (by omega) (by omega)
    rw [one_qz] at this
    exact this
  have hl : ∀ q w, Calls Try.prog 11 #[.int .i64 q, .int .i64 0, .int .i64 2] w fun e w' => e = .returned (.tuple #[.int .i32 (la q 0 2).1, .int .i64 (la q 0 2).2]) ∧ ∃ m, w' = w.drewN m := fun q w => Level_any q 0 2 w
  go_enter Try.func8, Try.ntmps8
  go_wp2_with (first
    | (go_at_call 9; refine (h1 _).mono ?_; rintro e w' ⟨rfl, m1, rfl⟩)
    | (go_at_call 11; refine (hl _ _).mono ?_; rintro e w' ⟨rfl, m2, rfl⟩; first | rw [one_la] | rw [three_la])
    | (go_at_call 13; refine (Scale_any _ _).mono ?_; rintro e w' ⟨rfl, rfl⟩; first | rw [one_sc] | rw [two_sc]))
  go_ret
  exact ⟨rfl, _, rfl⟩

theorem QuantLevels_walk (most x q s b : Int) (w : World) (hx : -2147483648 ≤ x ∧ x ≤ 2147483647) : Calls Try.prog 3 #[.int .i64 most, .int .i32 x, .int .i64 q, .int .i64 s, .int .i64 b] w fun e w' => e = .returned (.bool true) ∧ Below w.heap.size w w' := by
  have h1 := fun w => Quant_any x s b w hx
  have h2 := fun w => rQuant_any x s b w hx
  have h3 := fun w => Level_any q s b w
  have h4 := fun w => rLevel_any q s b w
  have h5 := fun w => Scale_any most w
  have h6 := fun w => rScale_any most w
  generalize (M.sc most : Int) = z at *
  generalize qa x s b = N at *
  generalize la q s b = L at *
  obtain ⟨n1, n2⟩ := N
  obtain ⟨l1, l2⟩ := L
  dsimp only at h1 h2 h3 h4
  go_enter Try.func3, Try.ntmps3
  go_wp2_with (first
    | (go_at_call 8; refine (alive_any _).mono ?_; rintro e w' ⟨rfl, m0, rfl⟩)
    | (go_at_call 9; refine (h1 _).mono ?_; rintro e w' ⟨rfl, m1, rfl⟩)
    | (go_at_call 10; refine (h2 _).mono ?_; rintro e w' ⟨rfl, rfl⟩)
    | (go_at_call 11; refine (h3 _).mono ?_; rintro e w' ⟨rfl, m3, rfl⟩)
    | (go_at_call 12; refine (h4 _).mono ?_; rintro e w' ⟨rfl, rfl⟩)
    | (go_at_call 13; refine (h5 _).mono ?_; rintro e w' ⟨rfl, rfl⟩)
    | (go_at_call 14; refine (h6 _).mono ?_; rintro e w' ⟨rfl, rfl⟩))
  go_ret
  exact ⟨rfl, ⟨rfl, rfl, rfl, Nat.le_refl _, fun _ _ => rfl⟩⟩

end Qnt
end Go.Proofs.Ytbfanglillndnaa
