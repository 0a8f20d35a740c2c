import Derived.Test.YtcaifpjbjghhaaaGreatDoorProg
import Derived.Below
import Derived.WalkKit
import Derived.OpenShut
import Derived.Deep.Quiet
import Derived.Deep.QuietTactic
import Derived.Laws.Rows
import Derived.Laws.CopyOwn
import Derived.Lib.SliceRun
import Derived.OwnWalk
import Derived.Laws.OwnMore
import Derived.ChangeSlices
import Derived.ProofKit
import Derived.Test.YtcaifpjbjghhaaaGreatDoorSubA00
import Derived.Test.YtcaifpjbjghhaaaGreatDoorSubA01
import Derived.Test.YtcaifpjbjghhaaaGreatDoorSubA02
import Derived.Test.YtcaifpjbjghhaaaGreatDoorSubA03
import Derived.Test.YtcaifpjbjghhaaaGreatDoorSubA04
import Derived.Test.YtcaifpjbjghhaaaGreatDoorSubA05
import Derived.Test.YtcaifpjbjghhaaaGreatDoorSubA06
import Derived.Test.YtcaifpjbjghhaaaGreatDoorSubA07
import Derived.Test.YtcaifpjbjghhaaaGreatDoorSubA08
import Derived.Test.YtcaifpjbjghhaaaGreatDoorSubA09
import Derived.Test.YtcaifpjbjghhaaaGreatDoorSubA10
import Derived.Test.YtcaifpjbjghhaaaGreatDoorSubA11
import Derived.Test.YtcaifpjbjghhaaaGreatDoorSubA12
import Derived.Test.YtcaifpjbjghhaaaGreatDoorSubA13
import Derived.Test.YtcaifpjbjghhaaaGreatDoorSubA14
import Derived.Test.YtcaifpjbjghhaaaGreatDoorSubA15
import Derived.Test.YtcaifpjbjghhaaaGreatDoorSubA16
import Derived.Test.YtcaifpjbjghhaaaGreatDoorSubA17
import Derived.Test.YtcaifpjbjghhaaaGreatDoorSubA18
import Derived.Test.YtcaifpjbjghhaaaGreatDoorSubA19
import Derived.Test.YtcaifpjbjghhaaaGreatDoorSubA20
import Derived.Test.YtcaifpjbjghhaaaGreatDoorSubA21
import Derived.Test.YtcaifpjbjghhaaaGreatDoorSubA22
import Derived.Test.YtcaifpjbjghhaaaGreatDoorSubA23
import Derived.Test.YtcaifpjbjghhaaaGreatDoorSubA24
import Derived.Test.YtcaifpjbjghhaaaGreatDoorSubA25
import Derived.Test.YtcaifpjbjghhaaaGreatDoorSubA26
import Derived.Test.YtcaifpjbjghhaaaGreatDoorSubA27
import Derived.Test.YtcaifpjbjghhaaaGreatDoorSubA28
import Derived.Test.YtcaifpjbjghhaaaGreatDoorSubA29
import Derived.Test.YtcaifpjbjghhaaaGreatDoorSubA30
import Derived.Test.YtcaifpjbjghhaaaGreatDoorSubA31
import Derived.Test.YtcaifpjbjghhaaaGreatDoorSubA32
import Derived.Test.YtcaifpjbjghhaaaGreatDoorSubA33
import Derived.Test.YtcaifpjbjghhaaaGreatDoorSubA34
import Derived.Test.YtcaifpjbjghhaaaGreatDoorSubA35
import Derived.Test.YtcaifpjbjghhaaaGreatDoorSubA36
import Derived.Test.YtcaifpjbjghhaaaGreatDoorSubA37
import Derived.Test.YtcaifpjbjghhaaaGreatDoorSubA38
import Derived.Test.YtcaifpjbjghhaaaGreatDoorSubA39
import Derived.Test.YtcaifpjbjghhaaaGreatDoorSubA40
import Derived.Test.YtcaifpjbjghhaaaGreatDoorSubA41
import Derived.Test.YtcaifpjbjghhaaaGreatDoorSubA42
import Derived.Test.YtcaifpjbjghhaaaGreatDoorSubA43
import Derived.Test.YtcaifpjbjghhaaaGreatDoorSubA44
import Derived.Test.YtcaifpjbjghhaaaGreatDoorSubAnyB01
/-
  Lists in memory: whole blocks, what a call may turn, lists that are read, made, filled, gathered, given. Plain facts, no walk; no function of the program is in it. Conditions: as told at each.
-/
namespace Go.Proofs.YtcaifpjbjghhaaaGreatDoor
set_option linter.unusedVariables false
open Go.RowKit
namespace Bank

end Bank
namespace M
theorem getD_append (A B : List Int) (i : Nat) : (A ++ B).getD i 0 = if i < A.length then A.getD i 0 else B.getD (i - A.length) 0 := by
  simp only [List.getD]
  split
  · rename_i h; rw [List.getElem?_append_left h]
  · rename_i h; rw [List.getElem?_append_right (by omega)]
theorem getD_take {A : List Int} {n i : Nat} (h : i < n) : (A.take n).getD i 0 = A.getD i 0 := by
  simp only [List.getD]
  rw [List.getElem?_take, if_pos h]
theorem getD_rep (n i : Nat) : (List.replicate n (0 : Int)).getD i 0 = 0 := by
  simp only [List.getD]
  rw [List.getElem?_replicate]
  split <;> rfl
end M
namespace Poly
open Bank (Blk But)

theorem elem32 : Tryz.prog.elem 97 = 21 := by simp [Program.elem, Tryz.underlying97]

theorem size32 (w : World) : (Go.sizeOf 21).run Tryz.prog w = .ok 1 w := by kernel_rfl

theorem rest32 (g l n : Nat) (hn : n < l) (w : World) : (Instr.slice 97 (.slice (some ⟨g, 0, none⟩) l l) (some (.int .i64 (n : Int))) none none).run Tryz.prog w = .ok (.slice (some ⟨g, n, none⟩) (l - n) (l - n)) w := by
  rw [run_slice_l (P := Tryz.prog) w 97 _ l l (by rw [elem32]; exact Tryz.underlying97) .i64 n (by omega) (by omega), elem32, size32]
  show Result.ok (Go.sliced _ (n : Int).toNat l l 1) w = _
  unfold Go.sliced
  rw [if_neg (by omega)]
  simp [add_at]

/-- 'clear(s)', s a whole row -/
theorem run_clear_row {P : Program} (w : World) (t e ty : TypeId) (z : Value) (ht : P.underlying t = some (.slice e)) (hv : ∀ w, (zeroValue e).run P w = .ok z w) (hz : z.cells = #[z]) (h1 : z.oneCell' = true) (g n c : Nat) (cur : Array Value) (tt : TypeId)
    (hg : w.heap[g]? = some (.cells cur tt (0, 0))) (hs : cur.size = n) (hn : 0 < n) :
    (Builtin.clear_ #[t] ty #[.slice (some ⟨g, 0, none⟩) n c]).run P w = .ok (.tuple #[]) (w.setRow g (List.replicate n z).toArray) := by
  have hzc : (Builtin.zeroCells z.cells n).toList = List.replicate n z := by
    rw [hz]
    simp [Builtin.zeroCells]
    apply List.ext_getElem
    · simp
    · intro i h1 h2
      simp [Nat.mod_one]
  have hst := run_storeCells_at (P := P) g 0 tt (List.replicate n z) 0 cur w hg (by simp; omega) (by intro v hv'; rw [List.eq_of_mem_replicate hv']; exact h1)
  have hX : cur.toList.take (0 + 0) ++ List.replicate n z ++ cur.toList.drop (0 + 0 + (List.replicate n z).length) = List.replicate n z := by
    rw [List.drop_eq_nil_of_le (by simp; omega)]; simp
  rw [hX] at hst
  obtain ⟨m, rfl⟩ : ∃ m, n = m + 1 := ⟨n - 1, by omega⟩
  simp [Builtin.clear_, run_underlying ht, hv, hzc, hst]

theorem open16 {H : Type} {enc' : TypeId × Value → H} {w : World} {base : Nat} {spare : Nat → Bool} {held : Bool} {fuel : Nat} {a : Option Addr} {len cap : Nat} {x : DataW H × List MemPlace}
    (h : DataW.trod enc' Tryz.prog w base spare held fuel 55 [.slice a len cap] = some x) : ∃ xs, Reads .i16 0 w.heap.size w (.slice a len cap) xs := by
  rcases Go.ChangeShapes.open_ints Tryz.underlying55 Tryz.underlying182 (by kernel_rfl) h with ⟨hcs, _⟩ | ⟨a', len', cap', zs, hcs, hb, hl, hm, hzl, _, hc, hw⟩
  · simp at hcs
    obtain ⟨rfl, rfl, rfl⟩ := hcs
    exact ⟨[], none, 0, rfl, Nat.le_refl _, fun z hz => by simp at hz, .inl rfl⟩
  · simp at hcs
    obtain ⟨rfl, rfl, rfl⟩ := hcs
    have hlm : len ≤ zs.length := by rw [hzl]; split <;> omega
    refine ⟨zs.take len, some a', cap, by rw [List.length_take, Nat.min_eq_left hlm], by rw [List.length_take]; omega, fun z hz => hw z (List.mem_of_mem_take hz), ?_⟩
    rcases Nat.eq_zero_or_pos len with h0 | h0
    · exact .inl (by rw [h0]; rfl)
    · obtain ⟨b, off, spot⟩ := a'
      have hspot : spot = none := by simpa [Addr.add] using World.cell?_spot (hc 0 (by omega))
      subst hspot
      refine .inr ⟨b, off, rfl, Nat.zero_le _, ?_, fun i hi => ?_⟩
      · have := World.block_lt_of_cell? w _ (hc 0 (by omega))
        simpa [Addr.add] using this
      · rw [List.length_take] at hi
        have k := hc i (by omega)
        rw [Go.WideShapes.add_plain] at k
        rw [k, M.getD_take (by omega)]

end Poly
end Go.Proofs.YtcaifpjbjghhaaaGreatDoor

/-
  Layer 10 in plain lists: channels, woven samples, the greatest, the sum of squares, what is taken. No walk.
-/
namespace Go.Proofs.YtcaifpjbjghhaaaGreatDoor
set_option linter.unusedVariables false
namespace M

/-- c channels of n samples each, woven -/
def wov (c n : Nat) (l : List (List Int)) : List Int := (List.range (c * n)).map fun i => (l.getD (i % c) []).getD (i / c) 0
theorem wov_length (c n : Nat) (l : List (List Int)) : (wov c n l).length = c * n := by simp [wov]
theorem eq_of_getD {A B : List Int} (hl : A.length = B.length) (h : ∀ i, i < A.length → A.getD i 0 = B.getD i 0) : A = B := by
  apply List.ext_getElem hl
  intro i h1 h2
  have := h i h1
  simpa [List.getD, h1, h2] using this
theorem wov_fits {c n : Nat} {l : List (List Int)} (h : ∀ k, fits16 (l.getD k [])) : fits16 (wov c n l) := fits_map fun i => fits_getD (h _) _

/-- the first n, and 0 where there are fewer -/
def tk (n : Nat) (q : List Int) : List Int := (List.range n).map fun i => q.getD i 0
theorem tk_length (n : Nat) (q : List Int) : (tk n q).length = n := by simp [tk]
theorem tk_get {n : Nat} {q : List Int} {i : Nat} (h : i < n) : (tk n q).getD i 0 = q.getD i 0 := getD_map_range _ _ _ _ h
theorem getD_out {q : List Int} {i : Nat} (h : q.length ≤ i) : q.getD i 0 = 0 := by simp [List.getD, h]
end M
end Go.Proofs.YtcaifpjbjghhaaaGreatDoor

