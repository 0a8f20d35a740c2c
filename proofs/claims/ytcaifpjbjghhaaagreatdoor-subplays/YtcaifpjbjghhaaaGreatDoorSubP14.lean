import Derived.Deep.Slices
import Derived.Test.YtcaifpjbjghhaaaGreatDoorSubP12
/-
  Planes of int32 that are handed in. Plain facts, no walk; no function of the program is in it.
-/
namespace Go.Proofs.YtcaifpjbjghhaaaGreatDoor
set_option linter.unusedVariables false
open Go.RowKit
namespace Qnt

theorem open_any {H : Type} {enc' : TypeId × Value → H} {w : World} {base : Nat} {spare : Nat → Bool} {held : Bool} {fuel : Nat} {v : Value} {x : DataW H × List MemPlace}
    (h : DataW.trod enc' Tryz.prog w base spare held fuel 97 [v] = some x) : ∃ xs, Poly.Reads .i32 0 w.heap.size w v xs := by
  rcases Go.ChangeShapes.open_ints Tryz.underlying97 Tryz.underlying21 (by kernel_rfl) h with ⟨hcs, _⟩ | ⟨a', len', cap', zs, hcs, hb, hl, hm, hzl, hx, _, _⟩
  · obtain rfl := List.singleton_inj.1 hcs
    exact Poly.open32 h
  · obtain rfl := List.singleton_inj.1 hcs
    exact Poly.open32 h

theorem open_rows {H : Type} {enc' : TypeId × Value → H} {w : World} {base : Nat} {spare : Nat → Bool} {held : Bool} {fuel : Nat} {a : Option Addr} {len cap : Nat} {x : DataW H × List MemPlace}
    (h : DataW.trod enc' Tryz.prog w base spare held fuel 82 [.slice a len cap] = some x) : ∃ zss, Poly.Rows .i32 0 w.heap.size w (.slice a len cap) zss := by
  rcases Deep.open_slice1 Tryz.underlying82 (by kernel_rfl) h with ⟨hcs, _⟩ | ⟨a', len', cap', m, n, V, D, Pl, hcs, hb, hl, hm, hmm, hx, hV⟩
  · simp at hcs
    obtain ⟨rfl, rfl, rfl⟩ := hcs
    exact ⟨[], ⟨none, _, rfl, Nat.zero_le _, .inl rfl⟩⟩
  · simp at hcs
    obtain ⟨rfl, rfl, rfl⟩ := hcs
    have hlm : len ≤ m := by rw [hmm]; split <;> omega
    have each : ∀ i, i < len → ∃ xs, w.cell? (a'.add i) = some (V i) ∧ Poly.Reads .i32 0 w.heap.size w (V i) xs := fun i hi => by
      obtain ⟨h1, h2⟩ := hV i (by omega)
      obtain ⟨xs, hr⟩ := open_any h2
      exact ⟨xs, h1, hr⟩
    obtain ⟨q, hq⟩ := Deep.choose_lt each
    refine ⟨(List.range len).map q, ⟨some a', cap, by simp, by simpa using hl, ?_⟩⟩
    rcases Nat.eq_zero_or_pos len with h0 | h0
    · exact .inl (by rw [h0]; rfl)
    · obtain ⟨b, off, spot⟩ := a'
      have hspot : spot = none := by simpa [Addr.add] using World.cell?_spot (hq 0 h0).1
      subst hspot
      refine .inr ⟨b, off, rfl, Nat.zero_le _, ?_, fun i hi => ?_⟩
      · have := World.block_lt_of_cell? w _ (hq 0 h0).1
        simpa [Addr.add] using this
      · simp at hi
        obtain ⟨h1, h2⟩ := hq i hi
        rw [Go.WideShapes.add_plain] at h1
        refine ⟨V i, h1, ?_⟩
        have e : ((List.range len).map q).getD i [] = q i := by simp [List.getD, hi]
        rw [e]; exact h2

end Qnt
end Go.Proofs.YtcaifpjbjghhaaaGreatDoor

