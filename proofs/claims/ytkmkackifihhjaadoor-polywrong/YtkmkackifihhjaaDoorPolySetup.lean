/-
  How the laws of layer 8 begin. Conditions: the polynomial's numbers stand as their initialiser lays them; one goroutine.
-/
import Derived.Test.YtkmkackifihhjaaDoorPolySteps
namespace Go.Proofs.YtkmkackifihhjaaDoor
set_option linter.unusedVariables false
open Go.RowKit
namespace M
theorem cutL_rows {m : Nat} {l : List Int} (i : Nat) (hi : i < (cutL m l).length) : ((cutL m l).getD i []).length = m := by
  rw [cutL_length] at hi
  rw [cutL_get hi]
  refine blk_length ?_
  have : (i + 1) * m ≤ l.length := Nat.le_trans (Nat.mul_le_mul_right m (by omega : i + 1 ≤ l.length / m)) (Nat.div_mul_le_self _ _)
  rw [Nat.add_mul, Nat.one_mul] at this
  exact this
theorem cutL_few {m : Nat} {l : List Int} (hm : m = 4 ∨ m = 8) (hl : l.length ≤ 300) : (cutL m l).length ≤ 75 := by
  rw [cutL_length]
  rcases hm with rfl | rfl <;> omega
end M
namespace Poly
open Bank (Blk But)

theorem newS {m : Nat} (hm : m = 4 ∨ m = 8) {b N : Nat} {w : World} (hT : Wave.Tab w) (hB : Bank.Bank b [] 0 N w) :
    Calls Tryd.prog 9 #[.pointer (some ⟨b, 0, none⟩), .int .i64 m] w fun e w' => ∃ gl, e = .returned (.tuple #[.pointer (some ⟨gl + 1, 0, none⟩), .int .i64 0]) ∧ Spl w.heap.size gl m (List.replicate (10 * m) 0) w' ∧ w'.heap.size = gl + 2 ∧ But b w w' := by
  rcases hm with rfl | rfl
  · exact newSplitter_ok 4 8 32 40 b N w (.inl ⟨rfl, rfl, rfl, rfl⟩) hT hB
  · exact newSplitter_ok 8 16 64 80 b N w (.inr ⟨rfl, rfl, rfl, rfl⟩) hT hB
theorem newJ {m : Nat} (hm : m = 4 ∨ m = 8) {b N : Nat} {w : World} (hT : Wave.Tab w) (hB : Bank.Bank b [] 0 N w) :
    Calls Tryd.prog 15 #[.pointer (some ⟨b, 0, none⟩), .int .i64 m] w fun e w' => ∃ gl, e = .returned (.tuple #[.pointer (some ⟨gl + 1, 0, none⟩), .int .i64 0]) ∧ Joi w.heap.size gl m (List.replicate (20 * m) 0) w' ∧ w'.heap.size = gl + 2 ∧ But b w w' := by
  rcases hm with rfl | rfl
  · exact newJoiner_ok 4 8 32 80 b N w (.inl ⟨rfl, rfl, rfl, rfl⟩) hT hB
  · exact newJoiner_ok 8 16 64 160 b N w (.inr ⟨rfl, rfl, rfl, rfl⟩) hT hB

/-- a new bank, and a splitter on it -/
theorem madeS {m : Nat} (hm : m = 4 ∨ m = 8) {w : World} (hT : Wave.Tab w) :
    Calls Tryd.prog 10 #[] w fun e w1 => ∃ bp, e = .returned (.pointer bp) ∧ Calls Tryd.prog 9 #[.pointer bp, .int .i64 m] w1 fun e w2 => ∃ gl, e = .returned (.tuple #[.pointer (some ⟨gl + 1, 0, none⟩), .int .i64 0]) ∧ Spl w.heap.size gl m (List.replicate (10 * m) 0) w2 ∧ w2.heap.size = gl + 2 ∧ Below w.heap.size w w2 ∧ Wave.Tab w2 := by
  refine (Bank.new_any w).mono ?_
  rintro e w1 ⟨rfl, s1, hB1, bel1⟩
  refine ⟨_, rfl, (newS hm (tab_b bel1 (Nat.le_refl _) hT) hB1).mono ?_⟩
  rintro e w2 ⟨gl, rfl, hS, s2, bt⟩
  obtain ⟨hS2, bel2⟩ := fresh bel1 s1 hS bt
  exact ⟨gl, rfl, hS2, s2, bel2, tab_b bel2 (Nat.le_refl _) hT⟩
theorem madeJ {m : Nat} (hm : m = 4 ∨ m = 8) {w : World} (hT : Wave.Tab w) :
    Calls Tryd.prog 10 #[] w fun e w1 => ∃ bp, e = .returned (.pointer bp) ∧ Calls Tryd.prog 15 #[.pointer bp, .int .i64 m] w1 fun e w2 => ∃ gl, e = .returned (.tuple #[.pointer (some ⟨gl + 1, 0, none⟩), .int .i64 0]) ∧ Joi w.heap.size gl m (List.replicate (20 * m) 0) w2 ∧ w2.heap.size = gl + 2 ∧ Below w.heap.size w w2 ∧ Wave.Tab w2 := by
  refine (Bank.new_any w).mono ?_
  rintro e w1 ⟨rfl, s1, hB1, bel1⟩
  refine ⟨_, rfl, (newJ hm (tab_b bel1 (Nat.le_refl _) hT) hB1).mono ?_⟩
  rintro e w2 ⟨gl, rfl, hS, s2, bt⟩
  obtain ⟨hS2, bel2⟩ := freshJ bel1 s1 hS bt
  exact ⟨gl, rfl, hS2, s2, bel2, tab_b bel2 (Nat.le_refl _) hT⟩

theorem setupS {m : Nat} (hm : m = 4 ∨ m = 8) {l : List Int} {vl : Value} {w wa : World} (hT : Wave.Tab w) (bela : Below w.heap.size w wa) (hr : Reads .i16 0 w.heap.size w vl l) (hl : l.length ≤ 300) :
    Calls Tryd.prog 10 #[] wa fun e w1 => ∃ bp, e = .returned (.pointer bp) ∧ Calls Tryd.prog 9 #[.pointer bp, .int .i64 m] w1 fun e w2 => ∃ gl, e = .returned (.tuple #[.pointer (some ⟨gl + 1, 0, none⟩), .int .i64 0]) ∧
      Calls Tryd.prog 11 #[vl, .int .i64 m] w2 fun e w3 => ∃ va vc, e = .returned (.slice va (M.cutL m l).length vc) ∧ (M.cutL m l).length ≤ vc ∧ ∃ lo r0 r1, InvS m lo gl r0 r1 0 (.slice va (M.cutL m l).length vc) (M.cutL m l) w w3 := by
  refine (madeS hm (tab_b bela (Nat.le_refl _) hT)).mono ?_
  rintro e w1 ⟨bp, rfl, h1⟩
  refine ⟨bp, rfl, h1.mono ?_⟩
  rintro e w2 ⟨gl, rfl, hS, s2, bel2, -⟩
  have sa := bela.size
  have b02 : Below w.heap.size w w2 := bela.trans (bel2.mono sa)
  refine ⟨gl, rfl, (cut16 m 0 w.heap.size l vl w2 hm (hr.below b02 (Nat.le_refl _)) b02.size (by omega)).mono ?_⟩
  rintro e w3 ⟨vb, rfl, hR, bel3⟩
  obtain ⟨va, vc, rfl, hvc⟩ := hR.form
  exact ⟨va, vc, rfl, hvc, wa.heap.size, w2.heap.size, w3.heap.size, hS.below bel3 (by omega), hR, by omega, Nat.le_refl _, sa, b02.trans (bel3.mono b02.size)⟩
theorem setupJ {m : Nat} (hm : m = 4 ∨ m = 8) {l : List Int} {vl : Value} {w wa : World} (hT : Wave.Tab w) (bela : Below w.heap.size w wa) (hr : Reads .i32 0 w.heap.size w vl l) (hl : l.length ≤ 300) :
    Calls Tryd.prog 10 #[] wa fun e w1 => ∃ bp, e = .returned (.pointer bp) ∧ Calls Tryd.prog 15 #[.pointer bp, .int .i64 m] w1 fun e w2 => ∃ gl, e = .returned (.tuple #[.pointer (some ⟨gl + 1, 0, none⟩), .int .i64 0]) ∧
      Calls Tryd.prog 16 #[vl, .int .i64 m] w2 fun e w3 => ∃ va vc, e = .returned (.slice va (M.cutL m l).length vc) ∧ (M.cutL m l).length ≤ vc ∧ ∃ lo r0 r1, InvJ m lo gl r0 r1 0 (.slice va (M.cutL m l).length vc) (M.cutL m l) w w3 := by
  refine (madeJ hm (tab_b bela (Nat.le_refl _) hT)).mono ?_
  rintro e w1 ⟨bp, rfl, h1⟩
  refine ⟨bp, rfl, h1.mono ?_⟩
  rintro e w2 ⟨gl, rfl, hS, s2, bel2, -⟩
  have sa := bela.size
  have b02 : Below w.heap.size w w2 := bela.trans (bel2.mono sa)
  refine ⟨gl, rfl, (cut32 m 0 w.heap.size l vl w2 hm (hr.below b02 (Nat.le_refl _)) b02.size (by omega)).mono ?_⟩
  rintro e w3 ⟨vb, rfl, hR, bel3⟩
  obtain ⟨va, vc, rfl, hvc⟩ := hR.form
  exact ⟨va, vc, rfl, hvc, wa.heap.size, w2.heap.size, w3.heap.size, hS.below bel3 (by omega), hR, by omega, Nat.le_refl _, sa, b02.trans (bel3.mono b02.size)⟩

end Poly
end Go.Proofs.YtkmkackifihhjaaDoor
