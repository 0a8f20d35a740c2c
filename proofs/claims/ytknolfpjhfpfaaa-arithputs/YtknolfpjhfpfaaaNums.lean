/-
  Lists of ints in memory that are only read, slices of them, and their opening as arguments. Conditions: as told at each. No function of the program is in it.
-/
import Derived.Test.YtknolfpjhfpfaaaBlk
import Derived.Test.YtknolfpjhfpfaaaProg
import Derived.OwnWalk
import Derived.Laws.OwnMore
import Derived.Lib.SliceRun
import Derived.ChangeSlices
import Derived.ProofKit
namespace Go.Proofs.Ytknolfpjhfpfaaa
set_option linter.unusedVariables false
open Go.RowKit
namespace Num
open Bits (Blk But add_at wrap_id)

/-- ints that lie somewhere, and are only read -/
def Ints (w : World) (v : Value) (xs : List Int) : Prop :=
  ∃ a c, v = .slice a xs.length c ∧ xs.length ≤ c ∧ (∀ x ∈ xs, -9223372036854775808 ≤ x ∧ x ≤ 9223372036854775807) ∧ (a = none → c = 0) ∧ (xs = [] ∨ ∃ b off, a = some ⟨b, off, none⟩ ∧ b < w.heap.size ∧ ∀ (i : Nat) (x : Int), xs[i]? = some x → w.cell? ⟨b, off + i, none⟩ = some (.int .i64 x))
theorem Ints.below {N : Nat} {w w' : World} {v : Value} {xs : List Int} (h : Ints w v xs) (u : Below N w w') (hN : w.heap.size ≤ N) : Ints w' v xs := by
  obtain ⟨a, c, rfl, hl, hv, hnil, h | ⟨b, off, ha, hb, hx⟩⟩ := h
  · exact ⟨a, c, rfl, hl, hv, hnil, .inl h⟩
  · refine ⟨a, c, rfl, hl, hv, hnil, .inr ⟨b, off, ha, by have := u.size; omega, fun i x hi => ?_⟩⟩
    rw [u.cell (show b < N by omega)]
    exact hx i x hi
theorem Ints.drewN {w : World} {v : Value} {xs : List Int} (h : Ints w v xs) (m : Nat) : Ints (w.drewN m) v xs := h
theorem Ints.drew {w : World} {v : Value} {xs : List Int} (h : Ints w v xs) : Ints w.drew v xs := h
theorem Ints.nil (w : World) : Ints w (.slice none 0 0) [] := ⟨none, 0, rfl, Nat.le_refl _, fun x hx => absurd hx (by simp), fun _ => rfl, .inl rfl⟩
theorem Ints.fits {w : World} {v : Value} {xs : List Int} (h : Ints w v xs) : ∀ x ∈ xs, -9223372036854775808 ≤ x ∧ x ≤ 9223372036854775807 := by
  obtain ⟨_, _, _, _, hv, _⟩ := h; exact hv
theorem Ints.form {w : World} {v : Value} {xs : List Int} (h : Ints w v xs) : ∃ a c, v = .slice a xs.length c ∧ xs.length ≤ c := by
  obtain ⟨a, c, hv, hl, _⟩ := h; exact ⟨a, c, hv, hl⟩
theorem Ints.cell {w : World} {a : Option Addr} {c l : Nat} {xs : List Int} (h : Ints w (.slice a l c) xs) {i : Nat} {x : Int} (hi : xs[i]? = some x) : ∃ b off, a = some ⟨b, off, none⟩ ∧ b < w.heap.size ∧ w.cell? ⟨b, off + i, none⟩ = some (.int .i64 x) := by
  obtain ⟨a', c', he, hl, hv, hnil, h | ⟨b, off, ha, hb, hx⟩⟩ := h
  · rw [h] at hi; simp at hi
  · cases he
    exact ⟨b, off, ha, hb, hx i x hi⟩

theorem elem64 : Try.prog.elem 29 = 3 := by simp [Program.elem, Try.underlying29]
theorem info64 : (Try.prog.info? 3).map (fun i => (i.zero, i.size, i.bytes)) = some (some (.int .i64 0), 1, 8) := by kernel_rfl
theorem size64 (w : World) : (Go.sizeOf 3).run Try.prog w = .ok 1 w := by kernel_rfl
/-- where 't[:m]' begins -/
def head_ (a : Option Addr) (c : Nat) : Option Addr := if c = 0 then a else a.map (·.add (0 * 1))
/-- 't[:m]' -/
theorem run_head (a : Option Addr) (l c m : Nat) (hm : m ≤ c) (hc : m ≤ 9223372036854775807) (w : World) : (Instr.slice 29 (.slice a l c) none (some (.int .i64 (m : Int))) none).run Try.prog w = .ok (.slice (head_ a c) m c) w := by
  rw [run_slice_h (P := Try.prog) w 29 a l c (by rw [elem64]; exact Try.underlying29) .i64 m (by omega) (by omega), elem64, size64]
  show Result.ok (Go.sliced a 0 (m : Int).toNat c 1) w = _
  unfold Go.sliced head_
  simp
theorem Ints.head {w : World} {a : Option Addr} {c : Nat} {xs : List Int} {l : Nat} (h : Ints w (.slice a l c) xs) (m : Nat) (hm : m ≤ xs.length) : Ints w (.slice (head_ a c) m c) (xs.take m) := by
  obtain ⟨a', c', he, hl, hv, hnil, h⟩ := h
  cases he
  refine ⟨head_ a c, c, by simp [Nat.min_eq_left hm], by simp; omega, fun x hx => hv x (List.mem_of_mem_take hx), fun hn => ?_, ?_⟩
  · unfold head_ at hn
    split at hn
    · exact hnil hn
    · exact hnil (by simpa using hn)
  · rcases h with h | ⟨b, off, ha, hb, hx⟩
    · exact .inl (by rw [h]; simp)
    · refine .inr ⟨b, off, ?_, hb, fun i x hi => hx i x ?_⟩
      · unfold head_
        subst ha
        split
        · rfl
        · show some (Addr.add _ _) = _
          rw [Go.WideShapes.add_plain]
          simp
      · rw [List.getElem?_take] at hi
        split at hi
        · exact hi
        · cases hi
/-- ints that a call made, as ints that are given -/
theorem ints_own {w : World} {base : Nat} {v : Value} {xs : List Int} (h : w.ownsRow base 3 1 v xs.length (xs.map fun x : Int => Value.int .i64 x)) (hx : ∀ x ∈ xs, -9223372036854775808 ≤ x ∧ x ≤ 9223372036854775807) : Ints w v xs := by
  obtain ⟨_, ⟨rfl, h0⟩ | ⟨g, cap, cur, rfl, hg, hh, h1, h2, h3, h4⟩⟩ := h
  · have : xs = [] := List.eq_nil_of_length_eq_zero h0
    subst this
    exact Ints.nil w
  · refine ⟨_, cap, rfl, by omega, hx, (fun h => by cases h), Or.inr ⟨g, 0, rfl, (Array.getElem?_eq_some_iff.1 hh).1, fun i x hi => ?_⟩⟩
    have hlt := (List.getElem?_eq_some_iff.1 hi).1
    have : (cur.toList.take (xs.length * 1))[i]? = (xs.map fun x : Int => Value.int .i64 x)[i]? := by rw [h4]
    rw [List.getElem?_take_of_lt (by omega), Array.getElem?_toList, List.getElem?_map, hi] at this
    simp [World.cell?, hh, this]

theorem open_ints {H : Type} {enc : TypeId × Value → H} {w : World} {base : Nat} {spare : Nat → Bool} {held : Bool} {fuel : Nat} {a : Option Addr} {len cap : Nat} {x : DataW H × List MemPlace}
    (h : DataW.trod enc Try.prog w base spare held fuel 29 [.slice a len cap] = some x) : ∃ xs, Ints w (.slice a len cap) xs := by
  rcases Go.ChangeShapes.open_ints Try.underlying29 Try.underlying3 (by kernel_rfl) h with ⟨hcs, _⟩ | ⟨a', len', cap', zs, hcs, hb, hl, hm, hzl, _, hc, hw⟩
  · simp at hcs
    obtain ⟨rfl, rfl, rfl⟩ := hcs
    exact ⟨[], Ints.nil w⟩
  · simp at hcs
    obtain ⟨rfl, rfl, rfl⟩ := hcs
    have hlm : len ≤ zs.length := by rw [hzl]; split <;> omega
    have hr : ∀ z ∈ zs, -9223372036854775808 ≤ z ∧ z ≤ 9223372036854775807 := fun z hz => by
      have u1 := hw z hz
      simpa [Lit.wf, IntKind.min, IntKind.max, IntKind.bits, IntKind.signed] using u1
    refine ⟨zs.take len, some a', cap, by simp; omega, by simp; omega, fun z hz => hr z (List.mem_of_mem_take hz), (fun h => by cases h), ?_⟩
    rcases Nat.eq_zero_or_pos len with h0 | h0
    · exact .inl (by rw [h0]; rfl)
    · obtain ⟨b, off, spot⟩ := a'
      have hspot : spot = none := by simpa [Addr.add] using World.cell?_spot (hc 0 (by omega))
      subst hspot
      refine .inr ⟨b, off, rfl, ?_, fun i x hi => ?_⟩
      · have := World.block_lt_of_cell? w _ (hc 0 (by omega))
        simpa [Addr.add] using this
      · have hlt : i < len := by have := (List.getElem?_eq_some_iff.1 hi).1; simp at this; omega
        rw [List.getElem?_take_of_lt hlt] at hi
        have k := hc i (by omega)
        rw [Go.WideShapes.add_plain] at k
        rw [k]
        simp [List.getD, hi]

theorem open_any {H : Type} {enc : TypeId × Value → H} {w : World} {base : Nat} {spare : Nat → Bool} {held : Bool} {fuel : Nat} {v : Value} {x : DataW H × List MemPlace}
    (h : DataW.trod enc Try.prog w base spare held fuel 29 [v] = some x) : ∃ xs, Ints w v xs := by
  rcases Go.ChangeShapes.open_ints Try.underlying29 Try.underlying3 (by kernel_rfl) h with ⟨hcs, _⟩ | ⟨a', len', cap', zs, hcs, _⟩
  · obtain rfl := List.singleton_inj.1 hcs
    exact open_ints h
  · obtain rfl := List.singleton_inj.1 hcs
    exact open_ints h

end Num
end Go.Proofs.Ytknolfpjhfpfaaa
