/-
  Contracts of a pad's writing calls (package bits). Conditions: the object stands in memory as New and Open make it.
-/
import Derived.Test.YtknolfpjhfpfaaaBitsWalks
namespace Go.Proofs.Ytknolfpjhfpfaaa
set_option linter.unusedVariables false
open Go.RowKit
namespace Bits

/-- an object in block p: a pad or an eye (by its type ty) -/
def Own (ty : TypeId) (w : World) (p b c d n : Nat) (B : Nat → Bool) (h t : Nat) : Prop :=
  Blk w p #[.pointer (some ⟨b, 0, none⟩), .func (.func 47) #[] #[.pointer (some ⟨c, 0, none⟩)], .func (.func 48) #[] #[.pointer (some ⟨c, 0, none⟩)]] ty ∧
  Blk w c #[.pointer (some ⟨b, 0, none⟩)] 75 ∧ Core w b d n B h t

theorem Own.drewN {ty : TypeId} {w : World} {p b c d n : Nat} {B : Nat → Bool} {h t : Nat} (k : Own ty w p b c d n B h t) (m : Nat) : Own ty (w.drewN m) p b c d n B h t := k
theorem Own.ne {ty : TypeId} {w : World} {p b c d n : Nat} {B : Nat → Bool} {h t : Nat} (k : Own ty w p b c d n B h t) (h1 : ty ≠ 77) (h2 : ty ≠ 5) : p ≠ b ∧ c ≠ b ∧ (0 < n → p ≠ d ∧ c ≠ d ∧ b ≠ d) := by
  obtain ⟨h3, h4, s, h5, a, cap, _, hd, _⟩ := k
  refine ⟨h3.ne h5 h1, h4.ne h5 (by decide), fun hn => ?_⟩
  obtain ⟨_, cur, hb, _⟩ := hd hn
  exact ⟨h3.ne hb h2, h4.ne hb (by decide), h5.ne hb (by decide)⟩
theorem Own.but {ty : TypeId} {w w' : World} {p b c d n x y : Nat} {B : Nat → Bool} {h t : Nat} (k : Own ty w p b c d n B h t) (u : But x y w w') (hx : p ≠ x ∧ b ≠ x ∧ c ≠ x ∧ d ≠ x) (hy : p ≠ y ∧ b ≠ y ∧ c ≠ y ∧ d ≠ y) : Own ty w' p b c d n B h t :=
  ⟨u.blk k.1 hx.1 hy.1, u.blk k.2.1 hx.2.2.1 hy.2.2.1, k.2.2.but u hx.2.1 hy.2.1 hx.2.2.2 hy.2.2.2⟩

theorem mayv_ok {N h t v : Nat} {k : Int} (e : M.mayv N h t v k = 0) : ∃ κ : Nat, k = κ ∧ κ ≤ 32 ∧ v < 2 ^ κ ∧ h + t + κ ≤ N := by
  unfold M.mayv at e
  split at e
  · cases e
  · split at e
    · cases e
    · next h1 h2 =>
      refine ⟨k.toNat, by omega, by omega, ?_, by omega⟩
      simp only [not_or] at h1
      omega
theorem may_ok {N h t : Nat} {k : Int} (e : M.may N h t k = 0) : ∃ κ : Nat, k = κ ∧ κ ≤ 32 ∧ h + t + κ ≤ N := by
  unfold M.may at e
  split at e
  · cases e
  · split at e
    · cases e
    · exact ⟨k.toNat, by omega, by omega, by omega⟩
theorem shr_lt {v : Nat} (hv : v < 4294967296) (j : Nat) : v / 2 ^ j < 4294967296 := Nat.lt_of_le_of_lt (Nat.div_le_self _ _) hv
theorem shr_bit (v j : Nat) : (v / 2 ^ j).testBit 0 = v.testBit j := by rw [Nat.testBit_div_two_pow, Nat.zero_add]

end Bits
end Go.Proofs.Ytknolfpjhfpfaaa
