/-
  Contracts of the document's answer for layer 5 (psalteryref05): New, Left, May, back, Put, Get. Conditions: the object stands in memory as New and Of make it.
-/
import Derived.Test.YtknolfpjhfpfaaaBitsActs
namespace Go.Proofs.Ytknolfpjhfpfaaa
set_option linter.unusedVariables false
open Go.RowKit
namespace Bits

/-- bits in memory, one a cell -/
def RData (w : World) (s : Value) (d L : Nat) (B : Nat → Bool) : Prop :=
  ∃ (a : Option Addr) (cap : Nat), s = .slice a L cap ∧ (0 < L → a = some ⟨d, 0, none⟩ ∧ ∃ cur, Blk w d cur 3 ∧ ∀ i, i < L → cur[i]? = some (.int .i64 ((B i).toNat : Nat)))
/-- the document's pad of n bytes -/
def Ref (w : World) (r d n : Nat) (B : Nat → Bool) (h t : Nat) : Prop :=
  ∃ s, Blk w r #[s, .int .i64 h, .int .i64 t] 53 ∧ RData w s d (8 * n) B

theorem Ref.drewN {w : World} {r d n : Nat} {B : Nat → Bool} {h t : Nat} (k : Ref w r d n B h t) (m : Nat) : Ref (w.drewN m) r d n B h t := k
theorem Ref.below {w w' : World} {r d n N : Nat} {B : Nat → Bool} {h t : Nat} (k : Ref w r d n B h t) (u : Below N w w') (hr : r < N) (hd : d < N) : Ref w' r d n B h t := by
  obtain ⟨s, h1, a, cap, hs, h2⟩ := k
  refine ⟨s, Below.blk u h1 hr, a, cap, hs, fun hL => ?_⟩
  obtain ⟨ha, cur, hb, hc⟩ := h2 hL
  exact ⟨ha, cur, Below.blk u hb hd, hc⟩
theorem Ref.but {w w' : World} {r d n x y : Nat} {B : Nat → Bool} {h t : Nat} (k : Ref w r d n B h t) (u : But x y w w') (h1 : r ≠ x) (h2 : r ≠ y) (h3 : d ≠ x) (h4 : d ≠ y) : Ref w' r d n B h t := by
  obtain ⟨s, q1, a, cap, hs, q2⟩ := k
  refine ⟨s, u.blk q1 h1 h2, a, cap, hs, fun hL => ?_⟩
  obtain ⟨ha, cur, hb, hc⟩ := q2 hL
  exact ⟨ha, cur, u.blk hb h3 h4, hc⟩
theorem Ref.cell {w : World} {r d n : Nat} {B : Nat → Bool} {h t : Nat} (k : Ref w r d n B h t) {i : Nat} (hi : i < 8 * n) :
    ∃ cap, w.cell? ⟨r, 0, none⟩ = some (.slice (some ⟨d, 0, none⟩) (8 * n) cap) ∧ w.cell? ⟨d, i, none⟩ = some (.int .i64 ((B i).toNat : Nat)) ∧ w.frozen? ⟨d, i, none⟩ = false ∧ r ≠ d := by
  obtain ⟨s, h1, a, cap, rfl, h2⟩ := k
  obtain ⟨rfl, cur, hb, hc⟩ := h2 (by omega)
  exact ⟨cap, h1.cell rfl, hb.cell (hc i hi), hb.free _, h1.ne hb (by decide)⟩
theorem Ref.head {w : World} {r d n : Nat} {B : Nat → Bool} {h t : Nat} (k : Ref w r d n B h t) (x : Int) (hx : x = ((h + 1 : Nat) : Int)) : Ref (w.setCell ⟨r, 1, none⟩ (.int .i64 x)) r d n B (h + 1) t := by
  subst hx
  obtain ⟨s, h1, a, cap, hs, h2⟩ := k
  refine ⟨s, h1.set 1 _, a, cap, hs, fun hL => ?_⟩
  obtain ⟨ha, cur, hb, hc⟩ := h2 hL
  exact ⟨ha, cur, hb.set_ne (hb.ne h1 (by decide)) _, hc⟩
theorem Ref.tail {w : World} {r d n : Nat} {B : Nat → Bool} {h t : Nat} (k : Ref w r d n B h t) (x : Int) (hx : x = ((t + 1 : Nat) : Int)) : Ref (w.setCell ⟨r, 2, none⟩ (.int .i64 x)) r d n B h (t + 1) := by
  subst hx
  obtain ⟨s, h1, a, cap, hs, h2⟩ := k
  refine ⟨s, h1.set 2 _, a, cap, hs, fun hL => ?_⟩
  obtain ⟨ha, cur, hb, hc⟩ := h2 hL
  exact ⟨ha, cur, hb.set_ne (hb.ne h1 (by decide)) _, hc⟩
theorem Ref.put {w : World} {r d n : Nat} {B : Nat → Bool} {h t i : Nat} (k : Ref w r d n B h t) (hi : i < 8 * n) (b : Bool) (x : Int) (hx : x = (b.toNat : Nat)) : Ref (w.setCell ⟨d, i, none⟩ (.int .i64 x)) r d n (M.upd B i b) h t := by
  subst hx
  obtain ⟨s, h1, a, cap, hs, h2⟩ := k
  obtain ⟨ha, cur, hb, hc⟩ := h2 (by omega)
  refine ⟨s, h1.set_ne (h1.ne hb (by decide)) _, a, cap, hs, fun hL => ⟨ha, _, hb.set _ _, fun j hj => ?_⟩⟩
  have hsz : j < cur.size := (Array.getElem?_eq_some_iff.1 (hc j hj)).1
  rw [Array.getElem?_setIfInBounds]
  unfold M.upd
  split
  · next e => subst e; rw [if_pos hsz, if_pos rfl]
  · next e => rw [hc j hj, if_neg (Ne.symm e)]

theorem info64 : (Try.prog.info? 3).map (fun i => (i.zero, i.size, i.bytes)) = some (some (.int .i64 0), 1, 8) := by kernel_rfl

theorem made_i64 (w : World) (n : Nat) (hn : n ≤ 65536) :
    ∃ cs : Array Value, (∀ i, i < n → cs[i]? = some (.int .i64 0)) ∧ (Instr.makeSlice 29 (.int .i64 n) (.int .i64 n)).run Try.prog w = .ok (.slice (some ⟨w.heap.size, 0, none⟩) n n) (w.alloc (.cells cs 3)) := by
  obtain ⟨i0, hi, hz0, hz1, hz2⟩ := info_parts info64
  have := run_make (P := Try.prog) w 29 3 i0 (.int .i64 0) Try.underlying29 hi hz0 .i64 .i64 n n (by omega) (by omega) (by rw [hz2]; omega) (by omega)
  refine ⟨_, ?_, by simpa using this⟩
  rw [hz1]
  intro i hi
  have hl : (madeCells #[Value.int .i64 0] n).toList[i]? = some (.int .i64 0) := by rw [toList_madeCells_one]; simp [hi]
  simpa [Value.cells] using hl

/-- a document's pad that a call made in block r -/
def RMade (w w' : World) (r n : Nat) (B : Nat → Bool) : Prop :=
  ∃ d, w.heap.size ≤ r ∧ w.heap.size ≤ d ∧ r < w'.heap.size ∧ d < w'.heap.size ∧ Below w.heap.size w w' ∧ Ref w' r d n B 0 0

end Bits
end Go.Proofs.Ytknolfpjhfpfaaa
