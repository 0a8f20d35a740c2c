/-
  The powers of two never fall, and the log of a power is near: checked at each of the 256th parts by the kernel. No program in this text.
-/
import Derived.Test.YthfligbkgoonoaaDoorLogsMath
namespace Go.Proofs.YthfligbkgoonoaaDoor
namespace M

theorem expN_step : ∀ e < 47, ∀ f < 256, expN (256 * e + f) ≤ expN (256 * e + f + 1) := by decide +kernel
theorem expN_mono {a b : Nat} (h : a ≤ b) (hb : b ≤ 11776) : expN a ≤ expN b := by
  induction b with
  | zero => obtain rfl : a = 0 := by omega
            exact Nat.le_refl _
  | succ b ih =>
    rcases Nat.eq_or_lt_of_le h with h' | h'
    · rw [h']; exact Nat.le_refl _
    · have g := expN_step (b / 256) (by omega) (b % 256) (by omega)
      rw [show 256 * (b / 256) + b % 256 = b from by omega] at g
      exact Nat.le_trans (ih (by omega) (by omega)) g
theorem exp_mono {p q : Int} (_h0 : -4096 ≤ p) (h : p ≤ q) (hq : q ≤ 7680) : exp p ≤ exp q := by
  unfold exp; exact expN_mono (by omega) (by omega)
theorem near_all : ∀ e < 46, ∀ f < 256, expN (256 * e + f) < 65536 ∨ (256 * e + f ≤ log (expN (256 * e + f)) + 2 ∧ log (expN (256 * e + f)) ≤ 256 * e + f + 2) := by decide +kernel
theorem near_last : 11776 ≤ log (expN 11776) + 2 ∧ log (expN 11776) ≤ 11776 + 2 := by decide +kernel
theorem exp_near {q : Int} (h0 : -4096 ≤ q) (hq : q ≤ 7680) (h : 65536 ≤ exp q) : q + 4096 - 2 ≤ log (exp q) ∧ (log (exp q) : Int) ≤ q + 4096 + 2 := by
  unfold exp at h ⊢
  obtain ⟨t, ht⟩ : ∃ t : Nat, q + 4096 = t := ⟨(q + 4096).toNat, by omega⟩
  rw [ht] at h ⊢
  have et : ((t : Nat) : Int).toNat = t := by omega
  rw [et] at h ⊢
  rcases Nat.lt_or_ge t 11776 with h' | h'
  · have g := near_all (t / 256) (by omega) (t % 256) (by omega)
    rw [show 256 * (t / 256) + t % 256 = t from by omega] at g
    omega
  · obtain rfl : t = 11776 := by omega
    have := near_last
    omega

end M
end Go.Proofs.YthfligbkgoonoaaDoor
