/-
  The chapter's example, and what no pad and no eye answer. No conditions.
-/
import Derived.Test.YtknolfpjhfpfaaaBitsTell
namespace Go.Proofs.Ytknolfpjhfpfaaa
set_option linter.unusedVariables false
open Go.RowKit
namespace Bits

theorem Own.below {ty : TypeId} {w w' : World} {p b c d n N : Nat} {B : Nat → Bool} {h t : Nat} (k : Own ty w p b c d n B h t) (u : Below N w w') (hp : p < N) (hb : b < N) (hc : c < N) (hd : d < N) : Own ty w' p b c d n B h t := by
  obtain ⟨h1, h2, s, h3, a, cap, hs, hd', hnil⟩ := k
  refine ⟨Below.blk u h1 hp, Below.blk u h2 hc, s, Below.blk u h3 hb, a, cap, hs, fun hn => ?_, hnil⟩
  obtain ⟨ha, cur, hb', hc'⟩ := hd' hn
  exact ⟨ha, cur, Below.blk u hb' hd, hc'⟩

theorem owns_cell {w : World} {base n cap : Nat} {a : Option Addr} {xs : List Nat} (h : w.ownsRow base 5 1 (.slice a n cap) n (xs.map fun x : Nat => Value.int .u8 x)) {i : Nat} (hi : i < n) :
    ∃ g, a = some ⟨g, 0, none⟩ ∧ base ≤ g ∧ w.cell? ⟨g, i, none⟩ = some (.int .u8 (xs.getD i 0 : Nat)) := by
  obtain ⟨hx, ⟨_, h0⟩ | ⟨g, cap', cur, he, hg, hh, h1, h2, h3, h4⟩⟩ := h
  · omega
  · cases he
    have hl : xs.length = n := by simpa using hx
    have : (cur.toList.take (n * 1))[i]? = (xs.map fun x : Nat => Value.int .u8 x)[i]? := by rw [h4]
    rw [List.getElem?_take_of_lt (by omega), Array.getElem?_toList] at this
    refine ⟨g, rfl, hg, ?_⟩
    simp [World.cell?, hh, this, List.getD, List.getElem?_eq_getElem (show i < xs.length by omega)]

end Bits
end Go.Proofs.Ytknolfpjhfpfaaa
