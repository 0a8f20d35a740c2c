/-
  Contracts of fix.Dot and of the document's answer for it, over any two lists of numbers. Conditions: each number fits its kind; the lists lie in memory as Go lays them.
-/
import Derived.Test.YtjfhlaahgfdmnaaDoorFixRef
import Derived.OpenShut
namespace Go.Proofs.YtjfhlaahgfdmnaaDoor
open Go.RowKit
namespace Dot

/-- A list of numbers of one kind, as it lies in memory behind a slice's header. -/
def Row (k : IntKind) (w : World) (a : Option Addr) (len : Nat) (zs : List Int) : Prop :=
  zs.length = len ∧ (len = 0 ∨ ∃ b off, a = some ⟨b, off, none⟩ ∧ ∀ i, i < len → w.cell? ⟨b, off + i, none⟩ = some (.int k (zs.getD i 0))) ∧ ∀ n ∈ zs, (Lit.int k n).wf = true

theorem Row.drewN {k : IntKind} {w : World} {a : Option Addr} {len : Nat} {zs : List Int} (h : Row k w a len zs) (n : Nat) : Row k (w.drewN n) a len zs := h

/-- the sum of the first k products -/
def dotTo (xs ys : List Int) : Nat → Int
  | 0 => 0
  | k + 1 => dotTo xs ys k + xs.getD k 0 * ys.getD k 0

def errOf (l0 l1 : Nat) (s : Int) : Int := if l0 ≠ l1 ∨ s < 0 ∨ 62 < s then 1 else if 65536 < l0 then 2 else 0
def resOf (z0 z1 : List Int) (l0 l1 : Nat) (s : Int) : Int := if errOf l0 l1 s = 0 then M.sat32 (M.rnd (dotTo z0 z1 l0) s) else 0

theorem bd32 {n : Int} (h : (Lit.int .i32 n).wf = true) : -2147483648 ≤ n ∧ n ≤ 2147483647 := by
  simpa [Lit.wf, IntKind.min, IntKind.max, IntKind.signed, IntKind.bits] using h
theorem bd16 {n : Int} (h : (Lit.int .i16 n).wf = true) : -32768 ≤ n ∧ n ≤ 32767 := by
  simpa [Lit.wf, IntKind.min, IntKind.max, IntKind.signed, IntKind.bits] using h

theorem get32 {zs : List Int} (h : ∀ n ∈ zs, (Lit.int .i32 n).wf = true) (i : Nat) : -2147483648 ≤ zs.getD i 0 ∧ zs.getD i 0 ≤ 2147483647 := by
  rcases Nat.lt_or_ge i zs.length with hi | hi
  · have e : zs.getD i 0 = zs[i] := by simp [List.getD, hi]
    rw [e]; exact bd32 (h _ (List.getElem_mem hi))
  · have e : zs.getD i 0 = 0 := by simp [List.getD, hi]
    rw [e]; omega
theorem get16 {zs : List Int} (h : ∀ n ∈ zs, (Lit.int .i16 n).wf = true) (i : Nat) : -32768 ≤ zs.getD i 0 ∧ zs.getD i 0 ≤ 32767 := by
  rcases Nat.lt_or_ge i zs.length with hi | hi
  · have e : zs.getD i 0 = zs[i] := by simp [List.getD, hi]
    rw [e]; exact bd16 (h _ (List.getElem_mem hi))
  · have e : zs.getD i 0 = 0 := by simp [List.getD, hi]
    rw [e]; omega

theorem dotTo_bd {xs ys : List Int} (hx : ∀ n ∈ xs, (Lit.int .i32 n).wf = true) (hy : ∀ n ∈ ys, (Lit.int .i16 n).wf = true) (k : Nat) :
    -(70368744177664 * (k : Int)) ≤ dotTo xs ys k ∧ dotTo xs ys k ≤ 70368744177664 * (k : Int) := by
  induction k with
  | zero => simp [dotTo]
  | succ k ih =>
    have a := get32 hx k
    have b := get16 hy k
    have m := M.mul_bd (xs.getD k 0) (ys.getD k 0) 2147483648 32768 (by omega) (by omega) (by omega) (by omega)
    simp only [dotTo]
    omega

theorem ret_two {a b c d : Value} (h1 : a = b) (h2 : c = d) : Ending.returned (.tuple #[a, c]) = .returned (.tuple #[b, d]) := by rw [h1, h2]

theorem errOf_zero {l0 l1 : Nat} {s : Int} (h : errOf l0 l1 s = 0) : l0 = l1 ∧ 0 ≤ s ∧ s ≤ 62 ∧ l0 ≤ 65536 := by
  unfold errOf at h
  split at h
  · omega
  · split at h
    · omega
    · rename_i h1 h2
      refine ⟨?_, ?_, ?_, ?_⟩
      · rcases Nat.lt_trichotomy l0 l1 with h | h | h
        · exact absurd (.inl (by omega)) h1
        · exact h
        · exact absurd (.inl (by omega)) h1
      · rcases Int.lt_or_le s 0 with h | h
        · exact absurd (.inr (.inl h)) h1
        · exact h
      · rcases Int.lt_or_le 62 s with h | h
        · exact absurd (.inr (.inr h)) h1
        · exact h
      · omega

/-- the round's facts -/
theorem step_bd {xs ys : List Int} (hx : ∀ n ∈ xs, (Lit.int .i32 n).wf = true) (hy : ∀ n ∈ ys, (Lit.int .i16 n).wf = true) (k : Nat) (hk : k ≤ 65535) :
    (-4611686018427387904 ≤ dotTo xs ys k ∧ dotTo xs ys k ≤ 4611686018427387904) ∧ (-70368744177664 ≤ xs.getD k 0 * ys.getD k 0 ∧ xs.getD k 0 * ys.getD k 0 ≤ 70368744177664) := by
  have h := dotTo_bd hx hy k
  have a := get32 hx k
  have b := get16 hy k
  have m := M.mul_bd (xs.getD k 0) (ys.getD k 0) 2147483648 32768 (by omega) (by omega) (by omega) (by omega)
  omega

end Dot
end Go.Proofs.YtjfhlaahgfdmnaaDoor
