import Derived.Test.YtcaifpjbjghhaaaGreatDoorProg
import Derived.Below
import Derived.WalkKit
import Derived.OpenShut
import Derived.Deep.Quiet
import Derived.Deep.QuietTactic
import Derived.Laws.Rows
import Derived.Laws.CopyOwn
import Derived.Lib.SliceRun
import Derived.OwnWalk
import Derived.Laws.OwnMore
import Derived.ChangeSlices
import Derived.ProofKit
import Derived.KernelRfl
import Derived.Maps.AppendAt
import Derived.Deep.RegionHeld3
import Derived.Laws.MakeOwn
import Derived.Test.YtcaifpjbjghhaaaGreatDoorSubA00
import Derived.Test.YtcaifpjbjghhaaaGreatDoorSubA01
import Derived.Test.YtcaifpjbjghhaaaGreatDoorSubA02
import Derived.Test.YtcaifpjbjghhaaaGreatDoorSubA03
import Derived.Test.YtcaifpjbjghhaaaGreatDoorSubA04
import Derived.Test.YtcaifpjbjghhaaaGreatDoorSubA05
import Derived.Test.YtcaifpjbjghhaaaGreatDoorSubA06
import Derived.Test.YtcaifpjbjghhaaaGreatDoorSubA07
import Derived.Test.YtcaifpjbjghhaaaGreatDoorSubA08
import Derived.Test.YtcaifpjbjghhaaaGreatDoorSubA09
import Derived.Test.YtcaifpjbjghhaaaGreatDoorSubA10
import Derived.Test.YtcaifpjbjghhaaaGreatDoorSubA11
import Derived.Test.YtcaifpjbjghhaaaGreatDoorSubA12
import Derived.Test.YtcaifpjbjghhaaaGreatDoorSubA13
import Derived.Test.YtcaifpjbjghhaaaGreatDoorSubA14
import Derived.Test.YtcaifpjbjghhaaaGreatDoorSubA15
import Derived.Test.YtcaifpjbjghhaaaGreatDoorSubA16
import Derived.Test.YtcaifpjbjghhaaaGreatDoorSubA17
import Derived.Test.YtcaifpjbjghhaaaGreatDoorSubA18
import Derived.Test.YtcaifpjbjghhaaaGreatDoorSubA19
import Derived.Test.YtcaifpjbjghhaaaGreatDoorSubA20
import Derived.Test.YtcaifpjbjghhaaaGreatDoorSubA21
import Derived.Test.YtcaifpjbjghhaaaGreatDoorSubA22
import Derived.Test.YtcaifpjbjghhaaaGreatDoorSubA23
import Derived.Test.YtcaifpjbjghhaaaGreatDoorSubA24
import Derived.Test.YtcaifpjbjghhaaaGreatDoorSubA25
import Derived.Test.YtcaifpjbjghhaaaGreatDoorSubA26
import Derived.Test.YtcaifpjbjghhaaaGreatDoorSubA27
import Derived.Test.YtcaifpjbjghhaaaGreatDoorSubA28
import Derived.Test.YtcaifpjbjghhaaaGreatDoorSubA29
import Derived.Test.YtcaifpjbjghhaaaGreatDoorSubA30
import Derived.Test.YtcaifpjbjghhaaaGreatDoorSubA31
import Derived.Test.YtcaifpjbjghhaaaGreatDoorSubA32
import Derived.Test.YtcaifpjbjghhaaaGreatDoorSubA33
import Derived.Test.YtcaifpjbjghhaaaGreatDoorSubA34
import Derived.Test.YtcaifpjbjghhaaaGreatDoorSubA35
import Derived.Test.YtcaifpjbjghhaaaGreatDoorSubA36
import Derived.Test.YtcaifpjbjghhaaaGreatDoorSubA37
import Derived.Test.YtcaifpjbjghhaaaGreatDoorSubA38
import Derived.Test.YtcaifpjbjghhaaaGreatDoorSubA39
import Derived.Test.YtcaifpjbjghhaaaGreatDoorSubA40
import Derived.Test.YtcaifpjbjghhaaaGreatDoorSubA41
import Derived.Test.YtcaifpjbjghhaaaGreatDoorSubA42
import Derived.Test.YtcaifpjbjghhaaaGreatDoorSubA43
import Derived.Test.YtcaifpjbjghhaaaGreatDoorSubA44
/-
  Lists in memory: whole blocks, what a call may turn, lists that are read, made, filled, gathered, given. Plain facts, no walk; no function of the program is in it. Conditions: as told at each.
-/
namespace Go.Proofs.YtcaifpjbjghhaaaGreatDoor
set_option linter.unusedVariables false
open Go.RowKit
namespace Bank

end Bank
namespace M
theorem getD_append (A B : List Int) (i : Nat) : (A ++ B).getD i 0 = if i < A.length then A.getD i 0 else B.getD (i - A.length) 0 := by
  simp only [List.getD]
  split
  · rename_i h; rw [List.getElem?_append_left h]
  · rename_i h; rw [List.getElem?_append_right (by omega)]
theorem getD_take {A : List Int} {n i : Nat} (h : i < n) : (A.take n).getD i 0 = A.getD i 0 := by
  simp only [List.getD]
  rw [List.getElem?_take, if_pos h]
theorem getD_rep (n i : Nat) : (List.replicate n (0 : Int)).getD i 0 = 0 := by
  simp only [List.getD]
  rw [List.getElem?_replicate]
  split <;> rfl
end M
namespace Poly
open Bank (Blk But)

theorem info64 : (Tryz.prog.info? 2).map (fun i => (i.zero, i.size, i.bytes)) = some (some (.int .i64 0), 1, 8) := by kernel_rfl

theorem elem32 : Tryz.prog.elem 97 = 21 := by simp [Program.elem, Tryz.underlying97]

theorem size32 (w : World) : (Go.sizeOf 21).run Tryz.prog w = .ok 1 w := by kernel_rfl

theorem rest32 (g l n : Nat) (hn : n < l) (w : World) : (Instr.slice 97 (.slice (some ⟨g, 0, none⟩) l l) (some (.int .i64 (n : Int))) none none).run Tryz.prog w = .ok (.slice (some ⟨g, n, none⟩) (l - n) (l - n)) w := by
  rw [run_slice_l (P := Tryz.prog) w 97 _ l l (by rw [elem32]; exact Tryz.underlying97) .i64 n (by omega) (by omega), elem32, size32]
  show Result.ok (Go.sliced _ (n : Int).toNat l l 1) w = _
  unfold Go.sliced
  rw [if_neg (by omega)]
  simp [add_at]

theorem own_apart {w : World} {b1 b2 e1 e2 s1 s2 n1 n2 : Nat} {v1 v2 : Value} {x1 x2 : List Value} (h1 : w.ownsRow b1 e1 s1 v1 n1 x1) (h2 : w.ownsRow b2 e2 s2 v2 n2 x2) (hne : e1 ≠ e2) : v1.ownBlock = none ∨ v1.ownBlock ≠ v2.ownBlock := by
  rcases h1.2 with ⟨rfl, _⟩ | ⟨g, c, cur, rfl, _, hg, _⟩
  · exact .inl rfl
  · rcases h2.2 with ⟨rfl, _⟩ | ⟨g2, c2, cur2, rfl, _, hg2, _⟩
    · right; simp [Value.ownBlock]
    · right
      simp only [Value.ownBlock, ne_eq, Option.some.injEq]
      rintro rfl
      rw [hg] at hg2
      simp at hg2
      exact hne hg2.2
/-- 'clear(s)', s a whole row -/
theorem run_clear_row {P : Program} (w : World) (t e ty : TypeId) (z : Value) (ht : P.underlying t = some (.slice e)) (hv : ∀ w, (zeroValue e).run P w = .ok z w) (hz : z.cells = #[z]) (h1 : z.oneCell' = true) (g n c : Nat) (cur : Array Value) (tt : TypeId)
    (hg : w.heap[g]? = some (.cells cur tt (0, 0))) (hs : cur.size = n) (hn : 0 < n) :
    (Builtin.clear_ #[t] ty #[.slice (some ⟨g, 0, none⟩) n c]).run P w = .ok (.tuple #[]) (w.setRow g (List.replicate n z).toArray) := by
  have hzc : (Builtin.zeroCells z.cells n).toList = List.replicate n z := by
    rw [hz]
    simp [Builtin.zeroCells]
    apply List.ext_getElem
    · simp
    · intro i h1 h2
      simp [Nat.mod_one]
  have hst := run_storeCells_at (P := P) g 0 tt (List.replicate n z) 0 cur w hg (by simp; omega) (by intro v hv'; rw [List.eq_of_mem_replicate hv']; exact h1)
  have hX : cur.toList.take (0 + 0) ++ List.replicate n z ++ cur.toList.drop (0 + 0 + (List.replicate n z).length) = List.replicate n z := by
    rw [List.drop_eq_nil_of_le (by simp; omega)]; simp
  rw [hX] at hst
  obtain ⟨m, rfl⟩ : ∃ m, n = m + 1 := ⟨n - 1, by omega⟩
  simp [Builtin.clear_, run_underlying ht, hv, hzc, hst]

theorem open16 {H : Type} {enc' : TypeId × Value → H} {w : World} {base : Nat} {spare : Nat → Bool} {held : Bool} {fuel : Nat} {a : Option Addr} {len cap : Nat} {x : DataW H × List MemPlace}
    (h : DataW.trod enc' Tryz.prog w base spare held fuel 55 [.slice a len cap] = some x) : ∃ xs, Reads .i16 0 w.heap.size w (.slice a len cap) xs := by
  rcases Go.ChangeShapes.open_ints Tryz.underlying55 Tryz.underlying182 (by kernel_rfl) h with ⟨hcs, _⟩ | ⟨a', len', cap', zs, hcs, hb, hl, hm, hzl, _, hc, hw⟩
  · simp at hcs
    obtain ⟨rfl, rfl, rfl⟩ := hcs
    exact ⟨[], none, 0, rfl, Nat.le_refl _, fun z hz => by simp at hz, .inl rfl⟩
  · simp at hcs
    obtain ⟨rfl, rfl, rfl⟩ := hcs
    have hlm : len ≤ zs.length := by rw [hzl]; split <;> omega
    refine ⟨zs.take len, some a', cap, by rw [List.length_take, Nat.min_eq_left hlm], by rw [List.length_take]; omega, fun z hz => hw z (List.mem_of_mem_take hz), ?_⟩
    rcases Nat.eq_zero_or_pos len with h0 | h0
    · exact .inl (by rw [h0]; rfl)
    · obtain ⟨b, off, spot⟩ := a'
      have hspot : spot = none := by simpa [Addr.add] using World.cell?_spot (hc 0 (by omega))
      subst hspot
      refine .inr ⟨b, off, rfl, Nat.zero_le _, ?_, fun i hi => ?_⟩
      · have := World.block_lt_of_cell? w _ (hc 0 (by omega))
        simpa [Addr.add] using this
      · rw [List.length_take] at hi
        have k := hc i (by omega)
        rw [Go.WideShapes.add_plain] at k
        rw [k, M.getD_take (by omega)]

theorem open32 {H : Type} {enc' : TypeId × Value → H} {w : World} {base : Nat} {spare : Nat → Bool} {held : Bool} {fuel : Nat} {a : Option Addr} {len cap : Nat} {x : DataW H × List MemPlace}
    (h : DataW.trod enc' Tryz.prog w base spare held fuel 97 [.slice a len cap] = some x) : ∃ xs, Reads .i32 0 w.heap.size w (.slice a len cap) xs := by
  rcases Go.ChangeShapes.open_ints Tryz.underlying97 Tryz.underlying21 (by kernel_rfl) h with ⟨hcs, _⟩ | ⟨a', len', cap', zs, hcs, hb, hl, hm, hzl, _, hc, hw⟩
  · simp at hcs
    obtain ⟨rfl, rfl, rfl⟩ := hcs
    exact ⟨[], none, 0, rfl, Nat.le_refl _, fun z hz => by simp at hz, .inl rfl⟩
  · simp at hcs
    obtain ⟨rfl, rfl, rfl⟩ := hcs
    have hlm : len ≤ zs.length := by rw [hzl]; split <;> omega
    refine ⟨zs.take len, some a', cap, by rw [List.length_take, Nat.min_eq_left hlm], by rw [List.length_take]; omega, fun z hz => hw z (List.mem_of_mem_take hz), ?_⟩
    rcases Nat.eq_zero_or_pos len with h0 | h0
    · exact .inl (by rw [h0]; rfl)
    · obtain ⟨b, off, spot⟩ := a'
      have hspot : spot = none := by simpa [Addr.add] using World.cell?_spot (hc 0 (by omega))
      subst hspot
      refine .inr ⟨b, off, rfl, Nat.zero_le _, ?_, fun i hi => ?_⟩
      · have := World.block_lt_of_cell? w _ (hc 0 (by omega))
        simpa [Addr.add] using this
      · rw [List.length_take] at hi
        have k := hc i (by omega)
        rw [Go.WideShapes.add_plain] at k
        rw [k, M.getD_take (by omega)]

end Poly
end Go.Proofs.YtcaifpjbjghhaaaGreatDoor

/-
  The plain arithmetic of layer 1 (fix): clipping, rounding by bits, how often a number may be doubled. No program in this text.
-/
namespace Go.Proofs.YtcaifpjbjghhaaaGreatDoor
namespace M

/-- how many bits a number has -/
def blen (m : Nat) : Nat := if m = 0 then 0 else m.log2 + 1
/-- what a number is beyond -1, or the number -/
def fold (a : Int) : Int := if a < 0 then -a - 1 else a
/-- how often a may be doubled and stay an int32 -/
def spare (a : Int) : Int := 31 - (blen (fold a).toNat : Int)

end M
end Go.Proofs.YtcaifpjbjghhaaaGreatDoor

/-
  Planes in memory: what heads tell, what numbers tell, a plane that is being filled. Plain facts, no walk; no function of the program is in it.
-/
namespace Go.Proofs.YtcaifpjbjghhaaaGreatDoor
set_option linter.unusedVariables false
open Go.RowKit
namespace Qnt
open Bank (Blk But)
open Poly (Reads cell_keep alloc_size enc enc_get)

def el (zss : List (List Int)) (i b : Nat) : Int := (zss.getD i []).getD b 0

/-- rows that are handed in -/
theorem rows_hd {hi : Nat} {v : Value} {zss : List (List Int)} {w : World} (h : Poly.Rows .i32 0 hi w v zss) : Hd hi v zss.length (len zss) w := by
  obtain ⟨a, cp, rfl, _, h⟩ := h
  refine ⟨a, cp, rfl, ?_⟩
  rcases h with rfl | ⟨b0, o0, rfl, _, h0, hx⟩
  · exact .inl rfl
  · refine .inr ⟨b0, o0, rfl, h0, fun i hi => ?_⟩
    obtain ⟨u, hu, hr⟩ := hx i hi
    obtain ⟨a1, c1, rfl⟩ := hr.form
    exact ⟨a1, c1, hu⟩
theorem rows_fit {hi : Nat} {v : Value} {zss : List (List Int)} {w : World} (h : Poly.Rows .i32 0 hi w v zss) : F32 (el zss) := by
  intro i b
  unfold el
  by_cases hi' : i < zss.length
  · obtain ⟨a, cp, rfl, _, h⟩ := h
    rcases h with rfl | ⟨b0, o0, rfl, _, h0, hx⟩
    · simp at hi'
    · obtain ⟨u, hu, hr⟩ := hx i hi'
      obtain ⟨_, _, _, _, hw, _⟩ := hr
      by_cases hb : b < (zss.getD i []).length
      · have e : (zss.getD i []).getD b 0 = (zss.getD i [])[b] := by rw [List.getD_eq_getElem?_getD, List.getElem?_eq_getElem hb]; rfl
        rw [e]
        exact Poly.wf32.1 (hw _ (List.getElem_mem hb))
      · have e : (zss.getD i []).getD b 0 = 0 := by rw [List.getD_eq_getElem?_getD, List.getElem?_eq_none (by omega)]; rfl
        rw [e]; decide
  · have e : zss.getD i [] = [] := by rw [List.getD_eq_getElem?_getD, List.getElem?_eq_none (by omega)]; rfl
    rw [e]; simp

theorem Yes.no {C : Prop} {w w' : World} {e : Ending} (h : Yes C w e w') (c : ¬ C) : e = .returned (.bool false) ∧ w' = w := by
  obtain ⟨hw, ⟨_, h⟩ | ⟨h, _⟩⟩ := h
  · exact absurd h c
  · exact ⟨h, hw⟩

end Qnt
end Go.Proofs.YtcaifpjbjghhaaaGreatDoor

/-
  Two planes that are gathered side by side, block by block and number by number: what each append leaves. Plain facts, no walk; no function of the program is in it.
-/
namespace Go.Proofs.YtcaifpjbjghhaaaGreatDoor
set_option linter.unusedVariables false
open Go.RowKit
namespace M
end M
namespace Qnt
open Bank (Blk But)
open Poly (cell_keep alloc_size enc enc_get enc_length)

theorem alloc_grown (w : World) (o : Obj) (row : Option Nat) : w.grownBy (w.alloc o) row := ⟨rfl, rfl, rfl, by simp, fun k hk _ => Below.heap_alloc _ _ _ hk⟩
theorem below_grown {B : Nat} {a w w' : World} {row : Option Nat} (h : Below B a w) (hB : B ≤ w.heap.size) (hg : w.grownBy w' row) (hr : ∀ k, row = some k → B ≤ k) : Below B a w' :=
  ⟨hg.os.trans h.os, hg.tape.trans h.tape, hg.output.trans h.output, Nat.le_trans h.size hg.size, fun k hk => (hg.block k (by omega) (fun e => by have := hr k e.symm; omega)).trans (h.block k hk)⟩

end Qnt
end Go.Proofs.YtcaifpjbjghhaaaGreatDoor

/-
  Lists of values that are gathered, whatever the values are: numbers, lists, lists of lists. Plain facts, no walk; no function of the program is in it.
-/
namespace Go.Proofs.YtcaifpjbjghhaaaGreatDoor
set_option linter.unusedVariables false
open Go.RowKit
namespace Sub
open Bank (Blk But)
open Poly (cell_keep enc enc_get enc_length Reads)
open Qnt (alloc_grown below_grown)

theorem wrapI (n : Int) (h0 : -9223372036854775808 ≤ n) (h1 : n ≤ 9223372036854775807) : IntKind.i64.wrap n = n := by rw [IntKind.wrap_i64]; omega
/-- what stood stands, but for blocks of one type from B on -/
structure Bar (t : TypeId) (B : Nat) (w w' : World) : Prop where
  size : w.heap.size ≤ w'.heap.size
  block : ∀ k, k < w.heap.size → (k < B ∨ ∀ cur, ¬ Blk w k cur t) → w'.heap[k]? = w.heap[k]?
theorem Bar.of_below {t : TypeId} {B : Nat} {w w' : World} (h : Below w.heap.size w w') : Bar t B w w' := ⟨h.size, fun k hk _ => h.block k hk⟩
theorem Bar.drewN {t : TypeId} {B : Nat} (w : World) (m : Nat) : Bar t B w (w.drewN m) := ⟨Nat.le_refl _, fun _ _ _ => rfl⟩
theorem Bar.of_grown {t : TypeId} {B n : Nat} {w w' : World} {v : Value} {xs : List Value} (h : w.ownsRow B t 1 v n xs) (hg : w.grownBy w' v.ownBlock) : Bar t B w w' :=
  ⟨hg.size, fun k hk hor => hg.block k hk fun e => by
    obtain ⟨hb, cur, hc⟩ := Qnt.own_blk h e.symm
    rcases hor with h1 | h1
    · omega
    · exact h1 cur hc⟩
/-- what the values are is kept -/
def KeepE (t : TypeId) (B : Nat) (E : Nat → Value → World → Prop) : Prop := ∀ i u w w', E i u w → Bar t B w w' → E i u w'

/-- a list of values that is gathered, in blocks from B on: what each value is tells E -/
structure Gn (t : TypeId) (B n : Nat) (E : Nat → Value → World → Prop) (v : Value) (W w : World) : Prop where
  own : ∃ us, w.ownsRow B t 1 v n us ∧ ∀ i u, us[i]? = some u → E i u w
  bel : Below B W w
  base : W.heap.size = B
section
variable {t : TypeId} {B n : Nat} {E : Nat → Value → World → Prop} {v v' : Value} {W w w' w1 w2 : World}
theorem Gn.nil (t : TypeId) (E : Nat → Value → World → Prop) (W : World) : Gn t W.heap.size 0 E (.slice none 0 0) W W := ⟨⟨[], World.ownsRow_nil _ _ _ _, fun i u h => by simp at h⟩, Below.refl _ _, rfl⟩
theorem Gn.size (h : Gn t B n E v W w) : B ≤ w.heap.size := by have := h.bel.size; have := h.base; omega
theorem Gn.form (h : Gn t B n E v W w) : ∃ a c, v = .slice a n c := by
  obtain ⟨us, h1, _⟩ := h.own
  exact Poly.own_form h1
theorem Gn.below (h : Gn t B n E v W w) (hk : KeepE t B E) (hb : Below w.heap.size w w') : Gn t B n E v W w' := by
  obtain ⟨⟨us, h1, h2⟩, h3, h4⟩ := h
  have hs : B ≤ w.heap.size := by have := h3.size; omega
  refine ⟨⟨us, h1.kept (row := none) ⟨hb.os, hb.tape, hb.output, hb.size, fun k hk _ => hb.block k hk⟩ ?_, fun i u hu => hk i u w w' (h2 i u hu) (.of_below hb)⟩, h3.trans (hb.mono hs), h4⟩
  cases hv : v.ownBlock <;> simp
theorem Gn.drewN (h : Gn t B n E v W w) (hk : KeepE t B E) (m : Nat) : Gn t B n E v W (w.drewN m) := by
  obtain ⟨⟨us, h1, h2⟩, h3, h4⟩ := h
  exact ⟨⟨us, h1, fun i u hu => hk i u w _ (h2 i u hu) (.drewN w m)⟩, Poly.below_drewN h3 m, h4⟩
theorem Gn.more {us ys : List Value} {m : Nat} (h1 : w.ownsRow B t 1 v n us) (h2 : ∀ i u, us[i]? = some u → E i u w) (h3 : Below B W w) (h4 : W.heap.size = B) (hk : KeepE t B E)
    (hy : ∀ j y, ys[j]? = some y → E (n + j) y w) (hw2 : Below w.heap.size w w2) (h5 : w1.ownsRow B t 1 v' (n + m) (us ++ ys)) (h6 : w2.grownBy w1 v.ownBlock) : Gn t B (n + m) E v' W w1 := by
  have hl : us.length = n := by have := h1.1; omega
  have hs : B ≤ w.heap.size := by have := h3.size; omega
  have k1 : w2.ownsRow B t 1 v n us := h1.kept (row := none) ⟨hw2.os, hw2.tape, hw2.output, hw2.size, fun k hk _ => hw2.block k hk⟩ (by cases hv : v.ownBlock <;> simp)
  have bar : ∀ i u, E i u w → E i u w1 := fun i u hu => hk i u w2 w1 (hk i u w w2 hu (.of_below hw2)) (.of_grown k1 h6)
  refine ⟨⟨us ++ ys, h5, fun i u hu => ?_⟩, ?_, h4⟩
  · rcases Nat.lt_or_ge i us.length with hi | hi
    · rw [List.getElem?_append_left hi] at hu
      exact bar i u (h2 i u hu)
    · rw [List.getElem?_append_right hi] at hu
      have := bar _ u (hy _ u hu)
      rwa [show n + (i - us.length) = i by omega] at this
  · have := hw2.size
    exact below_grown (h3.trans (hw2.mono hs)) (by omega) h6 (fun k hk' => (k1.lt k hk').1)
theorem Gn.step {us : List Value} {c : Array Value} {ty : TypeId} {x : Value} (h1 : w.ownsRow B t 1 v n us) (h2 : ∀ i u, us[i]? = some u → E i u w) (h3 : Below B W w) (h4 : W.heap.size = B) (hk : KeepE t B E)
    (hx : E n x w) (h5 : w1.ownsRow B t 1 v' (n + 1) (us ++ [x])) (h6 : (w.alloc (.cells c ty)).grownBy w1 v.ownBlock) : Gn t B (n + 1) E v' W w1 :=
  Gn.more h1 h2 h3 h4 hk (fun j y hy => by
    match j, hy with
    | 0, hy => simp at hy; subst hy; exact hx) ((Below.refl _ _).alloc (Nat.le_refl _) _) h5 h6
/-- the values, one by one -/
theorem Gn.at (h : Gn t B n E v W w) (hn : 1 ≤ n) : ∃ g c cur, v = .slice (some ⟨g, 0, none⟩) n c ∧ n ≤ c ∧ B ≤ g ∧ Blk w g cur t ∧ ∀ i, i < n → ∃ u, cur[i]? = some u ∧ E i u w := by
  obtain ⟨us, h1, h2⟩ := h.own
  have hl : us.length = n := by have := h1.1; omega
  rcases id h1.2 with ⟨_, h0⟩ | ⟨g, cap, cur, rfl, hb, hh, hc, _, _, ht⟩
  · omega
  · refine ⟨g, cap, cur, rfl, hc, hb, hh, fun i hi => ?_⟩
    obtain ⟨x, hu⟩ : ∃ x, us[i]? = some x := ⟨_, List.getElem?_eq_getElem (by omega)⟩
    refine ⟨x, ?_, h2 i _ hu⟩
    rw [← ht, List.getElem?_take, if_pos (by omega)] at hu
    simpa using hu
end

/-- a list of C numbers in a block of its type -/
def E1 (k : IntKind) (t : TypeId) (C : Nat) (F : Nat → Nat → Int) (i : Nat) (u : Value) (w : World) : Prop :=
  ∃ g c cur, u = .slice (some ⟨g, 0, none⟩) C c ∧ C ≤ c ∧ Blk w g cur t ∧ ∀ j, j < C → cur[j]? = some (.int k (F i j))
/-- n such lists -/
def E2 (k : IntKind) (t tR : TypeId) (n C : Nat) (F : Nat → Nat → Nat → Int) (i : Nat) (u : Value) (w : World) : Prop :=
  ∃ g c cur, u = .slice (some ⟨g, 0, none⟩) n c ∧ n ≤ c ∧ Blk w g cur tR ∧ ∀ j, j < n → ∃ u', cur[j]? = some u' ∧ E1 k t C (F i) j u' w
/-- a list that stood below B ahead -/
def ER (k : IntKind) (B : Nat) (zs : Nat → List Int) (i : Nat) (u : Value) (w : World) : Prop := Reads k 0 B w u (zs i)
section
variable {k : IntKind} {t tR tM : TypeId} {B n N C i : Nat} {u v : Value} {W w w' : World}
theorem keepE1 {F : Nat → Nat → Int} (h : t ≠ tM) : KeepE tM B (E1 k t C F) := fun i u w w' ⟨g, c, cur, hu, hc, hb, hx⟩ hbar =>
  ⟨g, c, cur, hu, hc, (hbar.block g hb.lt (.inr fun cur' hb' => h (hb.same hb').2)).trans hb, hx⟩
theorem keepE2 {F : Nat → Nat → Nat → Int} (h : t ≠ tM) (h' : tR ≠ tM) : KeepE tM B (E2 k t tR n C F) := fun i u w w' ⟨g, c, cur, hu, hc, hb, hx⟩ hbar =>
  ⟨g, c, cur, hu, hc, (hbar.block g hb.lt (.inr fun cur' hb' => h' (hb.same hb').2)).trans hb, fun j hj => by
    obtain ⟨u', h1, h2⟩ := hx j hj
    exact ⟨u', h1, keepE1 h j u' w w' h2 hbar⟩⟩
theorem keepER {zs : Nat → List Int} : KeepE tM B (ER k B zs) := fun i u w w' ⟨a, c, hu, hl, hw, hx⟩ hbar => by
  refine ⟨a, c, hu, hl, hw, ?_⟩
  rcases hx with hx | ⟨b, off, ha, h0, h1, hx⟩
  · exact .inl hx
  · by_cases hz : zs i = []
    · exact .inl hz
    · have hpos : 0 < (zs i).length := List.length_pos_iff.2 hz
      have hlt : b < w.heap.size := World.block_lt_of_cell? w _ (hx 0 hpos)
      exact .inr ⟨b, off, ha, h0, h1, fun i hi => (cell_keep (hbar.block b hlt (.inl h1))).trans (hx i hi)⟩
theorem E1.of_own {F : Nat → Nat → Int} {zs : List Int} (h : w.ownsRow B t 1 u C (enc k zs)) (c1 : 1 ≤ C) (hz : ∀ j, j < C → zs.getD j 0 = F i j) : E1 k t C F i u w := by
  have hl : zs.length = C := by have := h.1; rw [enc_length] at this; omega
  rcases id h.2 with ⟨_, h0⟩ | ⟨g, cap, cur, rfl, hb, hh, hc, _, _, ht⟩
  · omega
  · refine ⟨g, cap, cur, rfl, hc, hh, fun j hj => ?_⟩
    have hu : (enc k zs)[j]? = some (.int k (F i j)) := by rw [enc_get (by omega), hz j hj]
    rw [← ht, List.getElem?_take, if_pos (by omega)] at hu
    simpa using hu
theorem E1.v1 {F : Nat → Nat → Int} (h : E1 k t C F i u w) : V1 k w.heap.size u C (F i) w := by
  obtain ⟨g, c, cur, rfl, hc, hb, hx⟩ := h
  exact ⟨g, 0, c, rfl, hc, hb.lt, fun j hj => by rw [Nat.zero_add]; exact hb.cell (hx j hj)⟩
theorem E1.ext {F G : Nat → Nat → Int} {i' : Nat} (h : E1 k t C F i u w) (e : ∀ j, j < C → F i j = G i' j) : E1 k t C G i' u w := by
  obtain ⟨g, c, cur, rfl, hc, hb, hx⟩ := h
  exact ⟨g, c, cur, rfl, hc, hb, fun j hj => by rw [← e j hj]; exact hx j hj⟩
theorem Gn.e2 {F : Nat → Nat → Nat → Int} (h : Gn tR B n (E1 k t C (F i)) v W w) (hn : 1 ≤ n) : E2 k t tR n C F i v w := by
  obtain ⟨g, c, cur, rfl, hc, _, hb, hx⟩ := h.at hn
  exact ⟨g, c, cur, rfl, hc, hb, hx⟩
theorem E2.v2 {F : Nat → Nat → Nat → Int} (h : E2 k t tR n C F i u w) : V2 k w.heap.size u n C (F i) w := by
  obtain ⟨g, c, cur, rfl, hc, hb, hx⟩ := h
  exact ⟨g, 0, c, rfl, hc, hb.lt, fun j hj => by
    obtain ⟨u', h1, h2⟩ := hx j hj
    exact ⟨u', by rw [Nat.zero_add]; exact hb.cell h1, h2.v1⟩⟩
theorem Gn.v2 {F : Nat → Nat → Int} (h : Gn tR B n (E1 k t C F) v W w) (hn : 1 ≤ n) : V2 k w.heap.size v n C F w := by
  obtain ⟨g, c, cur, rfl, hc, _, hb, hx⟩ := h.at hn
  exact ⟨g, 0, c, rfl, hc, hb.lt, fun j hj => by
    obtain ⟨u', h1, h2⟩ := hx j hj
    exact ⟨u', by rw [Nat.zero_add]; exact hb.cell h1, h2.v1⟩⟩
theorem Gn.v3 {F : Nat → Nat → Nat → Int} (h : Gn tM B N (E2 k t tR n C F) v W w) (hn : 1 ≤ N) : V3 k w.heap.size v N n C F w := by
  obtain ⟨g, c, cur, rfl, hc, _, hb, hx⟩ := h.at hn
  exact ⟨g, 0, c, rfl, hc, hb.lt, fun j hj => by
    obtain ⟨u', h1, h2⟩ := hx j hj
    exact ⟨u', by rw [Nat.zero_add]; exact hb.cell h1, h2.v2⟩⟩
/-- a part of the lists, as rows -/
theorem Gn.rows {zs : Nat → List Int} {g c c' hi : Nat} (h : Gn tM B n (ER k hi zs) (.slice (some ⟨g, 0, none⟩) n c) W w) (o m : Nat) (hm : o + m ≤ n) (hc : m ≤ c') (hh : hi ≤ w.heap.size) : Poly.Rows k 0 w.heap.size w (.slice (some ⟨g, o, none⟩) m c') ((List.range m).map fun i => zs (o + i)) := by
  refine ⟨some ⟨g, o, none⟩, c', by simp, by simpa using hc, ?_⟩
  by_cases hn : 1 ≤ n
  · obtain ⟨g', c'', cur, e, _, _, hb, hx⟩ := h.at hn
    cases e
    refine .inr ⟨g, o, rfl, Nat.zero_le _, hb.lt, fun i hi => ?_⟩
    simp at hi
    obtain ⟨u, h1, h2⟩ := hx (o + i) (by omega)
    refine ⟨u, hb.cell h1, ?_⟩
    have e : ((List.range m).map fun i => zs (o + i)).getD i [] = zs (o + i) := by simp [List.getD, hi]
    rw [e]
    exact h2.mono (Nat.le_refl _) hh
  · have : m = 0 := by omega
    subst this
    exact .inl rfl
end

end Sub
end Go.Proofs.YtcaifpjbjghhaaaGreatDoor

/-
  Formats in plain numbers: which there are, their samples, bits and bytes. No walk. Conditions: none.
-/
namespace Go.Proofs.YtcaifpjbjghhaaaGreatDoor
set_option linter.unusedVariables false
open Go.RowKit
namespace M

/-- with more pool, with more bytes -/
def more (f : Fmt) : Fmt := { f with p := if f.c = 1 then f.p + 1 else 0, y := if f.c = 1 then 0 else f.y + 1 }
end M
end Go.Proofs.YtcaifpjbjghhaaaGreatDoor

/-
  Contracts of the document's answers for layer 1 (package psalteryref01). Conditions: each number fits its kind; products fit 64 bits.
-/
namespace Go.Proofs.YtcaifpjbjghhaaaGreatDoor
open Go.RowKit
namespace Ref

theorem Sat_any (n : Int) (w : World) (hn : -9223372036854775808 ≤ n) (hm : n ≤ 9223372036854775807) :
    Calls Tryz.prog 127 #[.int .i64 n, .int .i64 32] w fun e w' => e = .returned (.int .i64 (M.sat32 n)) ∧ w' = w := by
  go_enter Tryz.func127, Tryz.ntmps127
  go_wp2
  all_goals (go_ret; exact ⟨ret_int (by unfold M.sat32 M.clip; (repeat' split) <;> omega), rfl⟩)

end Ref
end Go.Proofs.YtcaifpjbjghhaaaGreatDoor

/-
  Contracts of package check: sum, sumOf, laid, Bits, Of. Conditions: the bytes stand in memory.
-/
namespace Go.Proofs.YtcaifpjbjghhaaaGreatDoor
set_option linter.unusedVariables false
open Go.RowKit
namespace Chk
open Bits (Blk But add_at wrap_id)
open Byt (Given)

theorem of_drewN {N m : Nat} {w w' : World} (h : Below N (w.drewN m) w') : Below N w w' := ⟨h.os, h.tape, h.output, h.size, h.block⟩
end Chk
end Go.Proofs.YtcaifpjbjghhaaaGreatDoor

/-
  Contracts: which planes there are, by the program and by the document's answer; which are more than are looked at. Conditions: as told at each.
-/
namespace Go.Proofs.YtcaifpjbjghhaaaGreatDoor
set_option linter.unusedVariables false
open Go.RowKit
namespace Qnt

set_option maxHeartbeats 1000000 in
theorem Far_any (hi : Nat) (v : Value) (n : Nat) (l : Nat → Nat) (w : World) (h : Hd hi v n l w) :
    Calls Tryz.prog 41 #[v] w fun e w' => Yes (FarL n l) w e w' := by
  obtain ⟨ax, cx, rfl⟩ := h.form
  have HZ : Hid (Hd hi (.slice ax n cx) n l w) := h
  clear h
  by_cases h10 : 40 < n
  · have h10' : (40 : Int) < n := by omega
    go_enter Tryz.func41, Tryz.ntmps41
    go_wp2
    go_ret
    exact ⟨rfl, .inl ⟨rfl, .inl h10⟩⟩
  · have h10' : ¬ (40 : Int) < n := by omega
    have h11 : (n : Int) ≤ 40 := by omega
    go_enter Tryz.func41, Tryz.ntmps41
    go_wp2
    go_loopw [3] (fun i wr => ∃ q : Nat, q ≤ n ∧ i = .int .i64 q ∧ wr = w ∧ ∀ k, k < q → l k ≤ 40) (fun i _ => n - (intOf i).toNat)
    case atStart => exact ⟨0, by omega, rfl, rfl, fun k hk => absurd hk (by omega)⟩
    case round =>
      obtain ⟨q, hq, rfl, hw, hall⟩ := hrel
      subst hw
      have HA : Hid _ := hall
      clear hall
      by_cases hlt : q < n
      · have hlt' : (q : Int) < n := by omega
        obtain ⟨b, off, rfl, _, hx⟩ := HZ.out.at (by omega)
        obtain ⟨a3, c3, hu⟩ := hx q hlt
        clear hx
        by_cases hf : 40 < l q
        · have HF : Hid (40 < l q) := hf
          clear hf
          have hf' : (40 : Int) < (l q : Int) := by have := HF.out; omega
          obtain ⟨z, hz⟩ : ∃ z, l q = z := ⟨_, rfl⟩
          rw [hz] at hu hf'
          clear hz
          go_wp2
          go_ret
          exact ⟨rfl, .inl ⟨rfl, .inr ⟨q, hlt, HF.out⟩⟩⟩
        · have HF : Hid (¬ 40 < l q) := hf
          clear hf
          have hf' : ¬ (40 : Int) < (l q : Int) := by have := HF.out; omega
          obtain ⟨z, hz⟩ : ∃ z, l q = z := ⟨_, rfl⟩
          rw [hz] at hu hf'
          clear hz
          go_wp2
          go_roundw
          case rel =>
            refine ⟨q + 1, by omega, by go_num, by first | rfl | trivial, fun j hj => ?_⟩
            rcases (by omega : j < q ∨ j = q) with h | rfl
            · exact HA.out j h
            · have := HF.out; omega
          case measure => simp [intOf]; omega
      · obtain rfl : q = n := by omega
        go_wp2
        go_ret
        refine ⟨rfl, .inr ⟨rfl, fun h => ?_⟩⟩
        rcases h with h | ⟨j, hj, hl⟩
        · omega
        · have := HA.out j hj
          omega

end Qnt
end Go.Proofs.YtcaifpjbjghhaaaGreatDoor

/-
  Plain arithmetic of layer 3 (wave): the sine of a part of a turn, in whole numbers, and the laws of its turns.
-/
namespace Go.Proofs.YtcaifpjbjghhaaaGreatDoor
namespace M

/-- whole turns change nothing -/
theorem sine_turns (n k : Int) {d : Int} : sine (n + k * d) d = sine n d := by
  unfold sine
  rw [Int.add_mul_emod_self_right]
/-- finer parts change nothing -/
theorem sn_finer (m : Int) {d k : Int} (hk : 1 ≤ k) : sn (d * k) (m * k) = sn d m := by
  have hq : 4 * (m * k) / (d * k) = 4 * m / d := by
    rw [← Int.mul_assoc, Int.mul_ediv_mul_of_pos_left _ _ (by omega)]
  have hr : 4 * (m * k) % (d * k) = 4 * m % d * k := by
    rw [← Int.mul_assoc, Int.mul_comm _ k, Int.mul_comm d k, Int.mul_emod_mul_of_pos _ _ (by omega), Int.mul_comm]
  have hh : hgt (d * k) (m * k) = hgt d m := by
    unfold hgt
    rw [hq, hr]
    have : rest (d * k) (4 * m / d) (4 * m % d * k) = rest d (4 * m / d) (4 * m % d) * k := by
      unfold rest; split
      · rw [Int.sub_mul]
      · rfl
    rw [this, Int.mul_right_comm, Int.mul_ediv_mul_of_pos_left _ _ (by omega)]
  unfold sn
  rw [hq, hh]
/-- the quarters one by one -/
theorem sn_q0 {d m : Int} (_hd : 1 ≤ d) (m0 : 0 ≤ m) (h : 4 * m < d) : sn d m = qs (4 * m * 1073741824 / d) := by
  have := quo_of (a := 4 * m) (d := d) (q := 0) (r := 4 * m) (by omega) (by omega) h
  unfold sn hgt rest
  rw [this.1, this.2]; simp
theorem sn_q1 {d m : Int} (_hd : 1 ≤ d) (h0 : d ≤ 4 * m) (h : 4 * m < 2 * d) : sn d m = qs ((2 * d - 4 * m) * 1073741824 / d) := by
  have := quo_of (a := 4 * m) (d := d) (q := 1) (r := 4 * m - d) (by omega) (by omega) (by omega)
  unfold sn hgt rest
  rw [this.1, this.2]; simp
  congr 3; omega
theorem sn_q2 {d m : Int} (_hd : 1 ≤ d) (h0 : 2 * d ≤ 4 * m) (h : 4 * m < 3 * d) : sn d m = -qs ((4 * m - 2 * d) * 1073741824 / d) := by
  have := quo_of (a := 4 * m) (d := d) (q := 2) (r := 4 * m - 2 * d) (by omega) (by omega) (by omega)
  unfold sn hgt rest
  rw [this.1, this.2]; simp
theorem sn_q3 {d m : Int} (_hd : 1 ≤ d) (h0 : 3 * d ≤ 4 * m) (h : 4 * m < 4 * d) : sn d m = -qs ((4 * d - 4 * m) * 1073741824 / d) := by
  have := quo_of (a := 4 * m) (d := d) (q := 3) (r := 4 * m - 3 * d) (by omega) (by omega) (by omega)
  unfold sn hgt rest
  rw [this.1, this.2]; simp
  congr 3; omega
end M
end Go.Proofs.YtcaifpjbjghhaaaGreatDoor

/-
  Contracts of the document's own answer for layer 3 (wave). Conditions: each number fits its kind.
-/
namespace Go.Proofs.YtcaifpjbjghhaaaGreatDoor
open Go.RowKit
namespace Wave

theorem part_any (a b : Int) (w : World) (h0 : 0 ≤ a * b) (h1 : a * b ≤ 9223372036854775807) :
    Calls Tryz.prog 252 #[.int .i64 a, .int .i64 b] w fun e w' => e = .returned (.int .i64 (M.part a b)) ∧ w' = w := by
  go_enter Tryz.func252, Tryz.ntmps252
  go_wp2
  go_ret
  exact ⟨rfl, rfl⟩

set_option maxRecDepth 100000 in
theorem signed_any (n d : Int) (b : Bool) (w : World) (n0 : 0 ≤ n) (n1 : 2 * n ≤ d) (d0 : 1 ≤ d) (d1 : d ≤ 8388608) :
    Calls Tryz.prog 222 #[.int .i64 n, .int .i64 d, .bool b] w fun e w' => e = .returned (.int .i16 (if b then -sg n d else sg n d)) ∧ w' = w := by
  have hd0 : ¬ d = 0 := by omega
  obtain ⟨x, hx⟩ : ∃ x : Int, (if d ≤ 4 * n then 2 * d - 4 * n else 4 * n) = x := ⟨_, rfl⟩
  have hx0 : 0 ≤ x := by rw [← hx]; split <;> omega
  have hx1 : x ≤ d := by rw [← hx]; split <;> omega
  obtain ⟨t, ht⟩ : ∃ t : Int, x * 1073741824 / d = t := ⟨_, rfl⟩
  have hh := M.hgt_of d0 hx0 hx1
  rw [ht] at hh
  obtain ⟨t0, t1⟩ := hh
  have hs : sg n d = M.qs t := by unfold sg; rw [hx, ht]
  rw [hs]
  have qb := M.qs_bd t0 t1
  have hu := M.part_bd t0 t1 t0 t1
  have HQ : Hid (M.qs t = M.sat16 (M.rnd (M.part (M.pk (M.part t t) 5) t) 15)) := hid rfl
  generalize hU : M.part t t = u at *
  obtain ⟨u0, u1, tt0, tt1⟩ := hu
  have e0 : M.part 0 u = 0 := by unfold M.part; simp
  have e1 : M.pk u 1 = 172272 := by show 172272 - M.part 0 u = 172272; omega
  have e2 : M.pk u 2 = 5026995 - M.part 172272 u := by rw [← e1]; rfl
  have e3 : M.pk u 3 = 85569306 - M.part (5026995 - M.part 172272 u) u := by rw [← e2]; rfl
  have e4 : M.pk u 4 = 693598668 - M.part (85569306 - M.part (5026995 - M.part 172272 u) u) u := by rw [← e3]; rfl
  have e5 : M.pk u 5 = 1686629713 - M.part (693598668 - M.part (85569306 - M.part (5026995 - M.part 172272 u) u) u) u := by rw [← e4]; rfl
  have b1 := M.part_bd (a := 172272) (A := 172272) (by omega) (by omega) u0 u1
  generalize hf1 : M.part 172272 u = f1 at *
  have b2 := M.part_bd (a := 5026995 - f1) (A := 5026995) (by omega) (by omega) u0 u1
  generalize hf2 : M.part (5026995 - f1) u = f2 at *
  have b3 := M.part_bd (a := 85569306 - f2) (A := 85569306) (by omega) (by omega) u0 u1
  generalize hf3 : M.part (85569306 - f2) u = f3 at *
  have b4 := M.part_bd (a := 693598668 - f3) (A := 693598668) (by omega) (by omega) u0 u1
  generalize hf4 : M.part (693598668 - f3) u = f4 at *
  have b5 := M.part_bd (a := 1686629713 - f4) (A := 1686629713) (by omega) (by omega) t0 t1
  rw [e5] at HQ
  generalize hf5 : M.part (1686629713 - f4) t = f5 at *
  obtain ⟨g1, g2, -, -⟩ := b1
  obtain ⟨g3, g4, p20, p21⟩ := b2
  obtain ⟨g5, g6, p30, p31⟩ := b3
  obtain ⟨g7, g8, p40, p41⟩ := b4
  obtain ⟨g9, g10, p50, p51⟩ := b5
  have r0 := M.rnd15_nonneg g9
  have r1 := M.rnd_bd f5 15 (by omega) (by omega)
  obtain ⟨y, hy⟩ : ∃ y, M.rnd f5 15 = y := ⟨_, rfl⟩
  rw [hy] at r0 r1 HQ
  have HY : Hid (M.qs t = if 32767 < y then 32767 else y) := hid (by rw [HQ.out]; unfold M.sat16 M.clip; (repeat' split) <;> omega)
  clear HQ hs e0 e1 e2 e3 e4 e5
  by_cases hq : d ≤ 4 * n
  · rw [if_pos hq] at hx
    by_cases hz : 32767 < y
    · rw [HY.out, if_pos hz]
      go_enter Tryz.func222, Tryz.ntmps222
      go_wp2_with (first
        | (go_at_call 252; refine (part_any _ _ _ (by first | assumption | omega) (by first | assumption | omega)).mono ?_; rintro e w' ⟨rfl, rfl⟩)
        | (go_at_call 154; refine (Ref.Round_any _ _ _ (by omega) (by omega)).mono ?_; rintro e w' ⟨rfl, rfl⟩))
      all_goals (go_ret; exact ⟨by simp [*], rfl⟩)
    · rw [HY.out, if_neg hz]
      go_enter Tryz.func222, Tryz.ntmps222
      go_wp2_with (first
        | (go_at_call 252; refine (part_any _ _ _ (by first | assumption | omega) (by first | assumption | omega)).mono ?_; rintro e w' ⟨rfl, rfl⟩)
        | (go_at_call 154; refine (Ref.Round_any _ _ _ (by omega) (by omega)).mono ?_; rintro e w' ⟨rfl, rfl⟩))
      all_goals (go_ret; exact ⟨by simp [*], rfl⟩)
  · rw [if_neg hq] at hx
    by_cases hz : 32767 < y
    · rw [HY.out, if_pos hz]
      go_enter Tryz.func222, Tryz.ntmps222
      go_wp2_with (first
        | (go_at_call 252; refine (part_any _ _ _ (by first | assumption | omega) (by first | assumption | omega)).mono ?_; rintro e w' ⟨rfl, rfl⟩)
        | (go_at_call 154; refine (Ref.Round_any _ _ _ (by omega) (by omega)).mono ?_; rintro e w' ⟨rfl, rfl⟩))
      all_goals (go_ret; exact ⟨by simp [*], rfl⟩)
    · rw [HY.out, if_neg hz]
      go_enter Tryz.func222, Tryz.ntmps222
      go_wp2_with (first
        | (go_at_call 252; refine (part_any _ _ _ (by first | assumption | omega) (by first | assumption | omega)).mono ?_; rintro e w' ⟨rfl, rfl⟩)
        | (go_at_call 154; refine (Ref.Round_any _ _ _ (by omega) (by omega)).mono ?_; rintro e w' ⟨rfl, rfl⟩))
      all_goals (go_ret; exact ⟨by simp [*], rfl⟩)

theorem sg_lo {d m : Int} (d0 : 1 ≤ d) (m0 : 0 ≤ m) (h : 2 * m < d) : sg m d = M.sn d m := by
  unfold sg
  split
  · rw [M.sn_q1 d0 (by omega) (by omega)]
  · rw [M.sn_q0 d0 (by omega) (by omega)]
theorem sg_hi {d m h : Int} (d0 : 1 ≤ d) (hd : d = 2 * h) (m0 : d ≤ 2 * m) (m1 : m < d) : -sg (m - h) d = M.sn d m := by
  unfold sg
  split
  · rw [M.sn_q3 d0 (by omega) (by omega)]
    congr 4; omega
  · rw [M.sn_q2 d0 (by omega) (by omega)]
    congr 4; omega

theorem of_any (n d h : Int) (w : World) (hd : d = 2 * h) (n0 : -d < n) (n1 : n < d) (d0 : 1 ≤ d) (d1 : d ≤ 8388608) :
    Calls Tryz.prog 221 #[.int .i64 n, .int .i64 d] w fun e w' => e = .returned (.int .i16 (M.sn d (if n < 0 then n + d else n))) ∧ w' = w := by
  have hh : d / 2 = h := by omega
  have Hd : Hid (d = 2 * h) := hd
  clear hd
  by_cases hn : n < 0
  · rw [if_pos hn]
    by_cases h2 : d ≤ 2 * (n + d)
    · rw [← sg_hi (h := h) d0 Hd.out h2 (by omega)]
      go_enter Tryz.func221, Tryz.ntmps221
      go_wp2_with (go_at_call 222; refine (signed_any _ _ _ _ (by omega) (by omega) (by omega) (by omega)).mono ?_; rintro e w' ⟨rfl, rfl⟩)
      go_ret
      exact ⟨by simp, rfl⟩
    · rw [← sg_lo d0 (by omega) (by omega)]
      go_enter Tryz.func221, Tryz.ntmps221
      go_wp2_with (go_at_call 222; refine (signed_any _ _ _ _ (by omega) (by omega) (by omega) (by omega)).mono ?_; rintro e w' ⟨rfl, rfl⟩)
      go_ret
      exact ⟨by simp, rfl⟩
  · rw [if_neg hn]
    by_cases h2 : d ≤ 2 * n
    · rw [← sg_hi (h := h) d0 Hd.out h2 (by omega)]
      go_enter Tryz.func221, Tryz.ntmps221
      go_wp2_with (go_at_call 222; refine (signed_any _ _ _ _ (by omega) (by omega) (by omega) (by omega)).mono ?_; rintro e w' ⟨rfl, rfl⟩)
      go_ret
      exact ⟨by simp, rfl⟩
    · rw [← sg_lo d0 (by omega) (by omega)]
      go_enter Tryz.func221, Tryz.ntmps221
      go_wp2_with (go_at_call 222; refine (signed_any _ _ _ _ (by omega) (by omega) (by omega) (by omega)).mono ?_; rintro e w' ⟨rfl, rfl⟩)
      go_ret
      exact ⟨by simp, rfl⟩

theorem tmod_cases (n : Int) {d : Int} (d0 : 1 ≤ d) : (0 ≤ n.tmod d ∧ n.tmod d = n % d) ∨ (n.tmod d < 0 ∧ n.tmod d + d = n % d) := by
  have hb := M.mod_bd n d0
  rcases Int.lt_or_le n 0 with h | h
  · have e : n.tmod d = -((-n) % d) := by
      rw [← Int.tmod_eq_emod_of_nonneg (a := -n) (by omega), Int.neg_tmod, Int.neg_neg]
    rw [M.neg_mod d0] at e
    split at e <;> omega
  · rw [Int.tmod_eq_emod_of_nonneg h]
    exact .inl ⟨hb.1, rfl⟩

theorem Of_any (n d : Int) (w : World) (d0 : 1 ≤ d) (d1 : d ≤ 4194304) :
    Calls Tryz.prog 193 #[.int .i64 n, .int .i64 d] w fun e w' => e = .returned (.int .i16 (M.sine n d)) ∧ w' = w := by
  have hb := M.mod_bd n d0
  have hc := tmod_cases n d0
  have hd0 : ¬ d = 0 := by omega
  have HS : Hid (M.sine n d = M.sn d (n % d)) := hid rfl
  have HF : Hid (M.sn (d * 2) (n % d * 2) = M.sn d (n % d)) := hid (M.sn_finer _ (by omega))
  rw [HS.out]
  generalize n % d = m at *
  generalize hC : n.tmod d = c at *
  have hC1 : -4194304 ≤ c := by omega
  have hC2 : c < 4194304 := by omega
  obtain ⟨m0, m1⟩ := hb
  by_cases h2 : d ≤ 2 * m
  · by_cases ho : d % 2 = 1
    · have e : M.sn d m = M.sn (2 * d) (if 2 * c < 0 then 2 * c + 2 * d else 2 * c) := by
        rw [← HF.out, Int.mul_comm d 2]; congr 1; split <;> omega
      rw [e]
      rcases hc with ⟨c0, c1⟩ | ⟨c0, c1⟩
      all_goals
        go_enter Tryz.func193, Tryz.ntmps193
        go_wp2_with (go_at_call 221; refine (of_any _ _ d _ (by omega) (by omega) (by omega) (by omega) (by omega)).mono ?_; rintro e w' ⟨rfl, rfl⟩)
        go_ret
        exact ⟨rfl, rfl⟩
    · rw [← sg_hi (h := d / 2) d0 (by omega) h2 m1]
      rcases hc with ⟨c0, c1⟩ | ⟨c0, c1⟩
      all_goals
        go_enter Tryz.func193, Tryz.ntmps193
        go_wp2_with (go_at_call 222; refine (signed_any _ _ _ _ (by omega) (by omega) (by omega) (by omega)).mono ?_; rintro e w' ⟨rfl, rfl⟩)
        go_ret
        exact ⟨by simp [*], rfl⟩
  · rw [← sg_lo d0 m0 (by omega)]
    rcases hc with ⟨c0, c1⟩ | ⟨c0, c1⟩
    all_goals
      go_enter Tryz.func193, Tryz.ntmps193
      go_wp2_with (go_at_call 222; refine (signed_any _ _ _ _ (by omega) (by omega) (by omega) (by omega)).mono ?_; rintro e w' ⟨rfl, rfl⟩)
      go_ret
      exact ⟨by simp [*], rfl⟩

end Wave
end Go.Proofs.YtcaifpjbjghhaaaGreatDoor

/-
  Walks of the laws of layer 3 (wave): sines of any angle, and their turns. Conditions: each number fits its kind; the polynomial's numbers stand as their initialiser lays them.
-/
namespace Go.Proofs.YtcaifpjbjghhaaaGreatDoor
open Go.RowKit
namespace Wave

theorem cos_tmod (n : Int) {d : Int} (d0 : 1 ≤ d) : M.sine (4 * n.tmod d + d) (4 * d) = M.cosine n d := by
  unfold M.cosine
  rcases tmod_cases n d0 with ⟨_, h⟩ | ⟨_, h⟩
  · rw [h]
  · rw [← h, ← M.sine_turns (4 * n.tmod d + d) 1]
    congr 1; omega

theorem refCosine_all (n d : Int) (w : World) :
    Calls Tryz.prog 194 #[.int .i64 n, .int .i64 d] w fun e w' => e = .returned (.tuple #[.int .i16 (M.cosineI n d), .int .i64 (M.waveE d)]) ∧ w' = w := by
  rcases (by omega : d < 1 ∨ 1048576 < d ∨ (1 ≤ d ∧ d ≤ 1048576)) with h | h | ⟨d0, d1⟩
  · have e1 : M.cosineI n d = 0 := if_neg (by omega)
    have e2 : M.waveE d = 1 := if_neg (by omega)
    rw [e1, e2]
    go_enter Tryz.func194, Tryz.ntmps194
    go_wp2
    go_ret2
    exact ⟨rfl, rfl⟩
  · have e1 : M.cosineI n d = 0 := if_neg (by omega)
    have e2 : M.waveE d = 1 := if_neg (by omega)
    have h' : ¬ d < 1 := by omega
    rw [e1, e2]
    go_enter Tryz.func194, Tryz.ntmps194
    go_wp2
    go_ret2
    exact ⟨rfl, rfl⟩
  · have e1 : M.cosineI n d = M.sine (4 * n.tmod d + d) (4 * d) := by rw [cos_tmod n d0]; exact if_pos ⟨d0, d1⟩
    have e2 : M.waveE d = 0 := if_pos ⟨d0, d1⟩
    rw [e1, e2]
    have hd0 : ¬ d = 0 := by omega
    have hc := tmod_cases n d0
    have hb := M.mod_bd n d0
    generalize hC : n.tmod d = c at *
    generalize n % d = m at *
    have c0 : -1048576 ≤ c := by omega
    have c1 : c ≤ 1048576 := by omega
    clear hc hb e1
    go_enter Tryz.func194, Tryz.ntmps194
    go_wp2_with (go_at_call 193; refine (Of_any _ _ _ (by omega) (by omega)).mono ?_; rintro e w' ⟨rfl, rfl⟩)
    go_ret2
    exact ⟨rfl, rfl⟩

end Wave
end Go.Proofs.YtcaifpjbjghhaaaGreatDoor

/-
  Layer 8 in plain arithmetic: the numbers that a splitter and a joiner reckon. No walk.
-/
namespace Go.Proofs.YtcaifpjbjghhaaaGreatDoor
namespace M

theorem pair_bd {m : Nat} {l : List Int} (hl : fits32 l) (p q r s : Nat) : -140737488355328 ≤ l.getD p 0 * fil (q : Int) m + l.getD r 0 * fil (s : Int) m ∧ l.getD p 0 * fil (q : Int) m + l.getD r 0 * fil (s : Int) m ≤ 140737488355328 := by
  have a := get_bd hl (by decide) (by decide) p
  have a' := get_bd hl (by decide) (by decide) r
  have b := fil_bd (q : Int) m
  have b' := fil_bd (s : Int) m
  have p1 := mul_bd (l.getD p 0) (fil (q : Int) m) 2147483648 32768 (by omega) (by omega) (by omega) (by omega)
  have p2 := mul_bd (l.getD r 0) (fil (s : Int) m) 2147483648 32768 (by omega) (by omega) (by omega) (by omega)
  omega

theorem fj_bd {m : Nat} {l : List Int} (hl : fits32 l) (j k : Nat) : -(140737488355328 * (k : Int)) ≤ fj m l j k ∧ fj m l j k ≤ 140737488355328 * (k : Int) := by
  induction k with
  | zero => simp [fj]
  | succ k ih =>
    have p := pair_bd (m := m) hl (4 * m * k + j) (2 * m * k + j) (4 * m * k + 3 * m + j) (2 * m * k + m + j)
    have q := sgn_bd (odd := true) (k := k) p.1 p.2
    simp only [fj]
    omega

theorem vs_fits (m : Nat) (s : List Int) : fits32 (vs m s) := by
  intro z hz
  unfold vs at hz
  obtain ⟨j, _, rfl⟩ := List.mem_map.1 hz
  exact sat32_bd _
theorem wj_fits {m : Nat} (hm : 1 ≤ m) (k : Nat) : fits16 (wj m k) := by
  intro z hz
  unfold wj at hz
  obtain ⟨j, _, rfl⟩ := List.mem_map.1 hz
  have := wv_bd (m := m) (a := 2 * (j : Int) + 1) (b := 2 * (k : Int) + m) (by omega)
  omega
theorem vs_length (m : Nat) (xs : List Int) : (vs m xs).length = 2 * m := by simp [vs]
theorem wj_length (m i : Nat) : (wj m i).length = m := by simp [wj]
theorem nj_fits {m : Nat} {s l : List Int} (hl : fits32 l) : fits32 (nj m s l) := by
  intro z hz
  have hz := List.mem_of_mem_take hz
  rcases List.mem_append.1 hz with h | h
  · exact vs_fits m s z h
  · exact hl z h
theorem nj_length {m : Nat} {s l : List Int} (hs : l.length = 20 * m) : (nj m s l).length = 20 * m := by unfold nj; simp [vs_length]; omega

/-- only what a line reads as counts -/
theorem fo_congr {m : Nat} {xs zs : List Int} (h : ∀ i, i < 10 * m → xs.getD i 0 = zs.getD i 0) {j k : Nat} (hj : j < 2 * m) (hk : k ≤ 5) : fo m xs j k = fo m zs j k := by
  induction k with
  | zero => rfl
  | succ k ih =>
    have hi : j + 2 * m * k < 10 * m := by
      have : 2 * m * k ≤ 2 * m * 4 := Nat.mul_le_mul_left _ (by omega)
      omega
    simp only [fo]
    rw [ih (by omega), h _ hi]
theorem ys_congr {m : Nat} {xs zs : List Int} (h : ∀ i, i < 10 * m → xs.getD i 0 = zs.getD i 0) : ys m xs = ys m zs := by
  unfold ys
  apply List.map_congr_left
  intro j hj
  rw [fo_congr h (List.mem_range.1 hj) (Nat.le_refl _)]
theorem spl_congr {m : Nat} {xs zs : List Int} (h : ∀ i, i < 10 * m → xs.getD i 0 = zs.getD i 0) : spl m xs = spl m zs := by
  unfold spl; rw [ys_congr h]
theorem fj_congr {m : Nat} {xs zs : List Int} (h : ∀ i, i < 20 * m → xs.getD i 0 = zs.getD i 0) {j k : Nat} (hj : j < m) (hk : k ≤ 5) : fj m xs j k = fj m zs j k := by
  induction k with
  | zero => rfl
  | succ k ih =>
    have : 4 * m * k ≤ 4 * m * 4 := Nat.mul_le_mul_left _ (by omega)
    simp only [fj]
    rw [ih (by omega), h (4 * m * k + j) (by omega), h (4 * m * k + 3 * m + j) (by omega)]
theorem jn_congr {m : Nat} {xs zs : List Int} (h : ∀ i, i < 20 * m → xs.getD i 0 = zs.getD i 0) : jn m xs = jn m zs := by
  unfold jn
  apply List.map_congr_left
  intro j hj
  rw [fj_congr h (List.mem_range.1 hj) (Nat.le_refl _)]

end M
end Go.Proofs.YtcaifpjbjghhaaaGreatDoor

/-
  Contracts of package poly's small functions: a line that moves on, waves, sums. Conditions: as told at each.
-/
namespace Go.Proofs.YtcaifpjbjghhaaaGreatDoor
set_option linter.unusedVariables false
open Go.RowKit
namespace Poly
open Bank (Blk But)

set_option maxRecDepth 100000 in
theorem moveOn32 (g n : Nat) (zs : List Int) (w : World) (hb : Blk w g (enc .i32 zs).toArray 21) (hn : n < zs.length) (hl : zs.length ≤ 65536) :
    Calls Tryz.prog 195 #[.slice (some ⟨g, 0, none⟩) zs.length zs.length, .int .i64 n] w fun e w' => e = .returned (.tuple #[]) ∧ w' = w.setRow g (enc .i32 (zs.take n ++ zs.take (zs.length - n))).toArray := by
  have hX := moved .i32 zs n hn
  have hsl := rest32 g zs.length n hn w
  have hlen : ((enc .i32 zs).take (zs.length - n)).length = zs.length - n := by simp [enc_length]
  have hsrc : ∀ j v, ((enc .i32 zs).take (zs.length - n))[j]? = some v → w.cell? ((⟨g, 0, none⟩ : Addr).add j) = some v := fun j v hv => by
    rw [add_at]
    refine hb.cell ?_
    rw [List.getElem?_take] at hv
    split at hv
    · simpa using hv
    · cases hv
  have hone : ∀ v ∈ (enc .i32 zs).take (zs.length - n), v.oneCell' = true := fun v hv => enc_one _ _ v (List.mem_of_mem_take hv)
  have hfit : n + ((enc .i32 zs).take (zs.length - n)).length ≤ (enc .i32 zs).toArray.size := by rw [hlen]; simp [enc_length]; omega
  have hcp := run_copy_row (P := Tryz.prog) w 97 97 3 21 g n (zs.length - n) (zs.length - n) ⟨g, 0, none⟩ zs.length zs.length _ 21 _ Tryz.underlying97 (by kernel_rfl) hb (by rw [hlen]; exact (Nat.min_eq_right (by omega)).symm) hsrc hfit hone
  rw [hX, hlen] at hcp
  clear hX hsrc hfit hone hlen hb
  generalize enc .i32 (zs.take n ++ zs.take (zs.length - n)) = X at *
  generalize zs.length = L at *
  go_enter Tryz.func195, Tryz.ntmps195
  go_wp2
  go_end0
  exact ⟨rfl, rfl⟩

end Poly
end Go.Proofs.YtcaifpjbjghhaaaGreatDoor

/-
  Contracts of the splitter's fold and the joiner's sample. Conditions: as told at each.
-/
namespace Go.Proofs.YtcaifpjbjghhaaaGreatDoor
set_option linter.unusedVariables false
open Go.RowKit
namespace M
end M
namespace Poly
open Bank (Blk But)

set_option maxRecDepth 100000 in
set_option maxHeartbeats 2000000 in
theorem sample_4 (p gl lo hi j : Nat) (l : List Int) (w : World) (hS : Seen 4 p lo hi (.slice (some ⟨gl, 0, none⟩) 80 80) w)
    (hx : Blk w gl (enc .i32 l).toArray 21) (hl : l.length = 80) (hfit : M.fits32 l) (hj : j < 4) :
    Calls Tryz.prog 196 #[.pointer (some ⟨p, 0, none⟩), .int .i64 j] w fun e w' => e = .returned (.int .i16 (M.sat16 (M.rnd (M.fj 4 l j 5) 14))) ∧ ∃ m, w' = w.drewN m := by
  obtain ⟨bf, of, cf, c1, hfil⟩ := hS.filter (by omega)
  rw [show 10 * 4 = 40 from rfl] at c1 hfil
  have c0 : w.cell? ⟨p, 0, none⟩ = some (.int .i64 4) := hS.2.2.1
  have c3 := hS.2.2.2.1
  have HFil : Hid (∀ i, i < 40 → w.cell? ⟨bf, of + i, none⟩ = some (.int .i16 (M.fil i (4 : Nat)))) := hfil
  have HX : Hid (Blk _ _ _ _) := hx
  have HF : Hid (M.fits32 l) := hfit
  have hj' : (j : Int) < 4 := by omega
  clear hS hx hfit hfil
  go_enter Tryz.func196, Tryz.ntmps196
  go_wp2
  go_loopw [16, 6] (fun i s w2 => ∃ k : Nat, k ≤ 5 ∧ i = .int .i64 k ∧ s = .int .i64 (M.fj 4 l j k) ∧ ∃ mm, w2 = w.drewN mm) (fun i _ _ => 5 - (intOf i).toNat)
  case atStart => exact ⟨0, by omega, rfl, rfl, 0, rfl⟩
  case round =>
    obtain ⟨k, hk, rfl, rfl, mm, rfl⟩ := hrel
    by_cases hk5 : k < 5
    · have hk5' : (k : Int) < 5 := by omega
      obtain ⟨iv, hiv⟩ : ∃ iv, iv = 4 * 4 * k + j := ⟨_, rfl⟩
      obtain ⟨ih, hih⟩ : ∃ ih, ih = 2 * 4 * k + j := ⟨_, rfl⟩
      obtain ⟨iu, hiu⟩ : ∃ iu, iu = 4 * 4 * k + 3 * 4 + j := ⟨_, rfl⟩
      obtain ⟨ig, hig⟩ : ∃ ig, ig = 2 * 4 * k + 4 + j := ⟨_, rfl⟩
      have hiv' : 16 * (k : Int) + (j : Int) = (iv : Int) := by omega
      have hih' : 8 * (k : Int) + (j : Int) = (ih : Int) := by omega
      have hiu' : (iv : Int) + 12 = (iu : Int) := by omega
      have hig' : (ih : Int) + 4 = (ig : Int) := by omega
      have b1 : (0 : Int) ≤ iv ∧ (iv : Int) < 80 := by omega
      have b2 : (0 : Int) ≤ ih ∧ (ih : Int) < 40 := by omega
      have b3 : (0 : Int) ≤ iu ∧ (iu : Int) < 80 := by omega
      have b4 : (0 : Int) ≤ ig ∧ (ig : Int) < 40 := by omega
      have q1 : w.cell? ⟨gl, iv, none⟩ = some (.int .i32 (l.getD iv 0)) := Blk.cell HX.out (by rw [List.getElem?_toArray]; exact enc_get (by omega))
      have q3 : w.cell? ⟨gl, iu, none⟩ = some (.int .i32 (l.getD iu 0)) := Blk.cell HX.out (by rw [List.getElem?_toArray]; exact enc_get (by omega))
      have q2 := HFil.out ih (by omega)
      have q4 := HFil.out ig (by omega)
      have e0 := M.get_bd HF.out (by decide) (by decide) iv
      have e3 := M.get_bd HF.out (by decide) (by decide) iu
      have e1 := M.fil_bd ih (4 : Nat)
      have e4 := M.fil_bd ig (4 : Nat)
      have e2 := M.mul_bd (l.getD iv 0) (M.fil ih (4 : Nat)) 2147483648 32768 (by omega) (by omega) (by omega) (by omega)
      have e5 := M.mul_bd (l.getD iu 0) (M.fil ig (4 : Nat)) 2147483648 32768 (by omega) (by omega) (by omega) (by omega)
      have d := M.fj_bd (m := 4) HF.out j k
      have S : Hid (M.fj 4 l j (k + 1) = M.fj 4 l j k + M.sgn true k (l.getD iv 0 * M.fil ih (4 : Nat) + l.getD iu 0 * M.fil ig (4 : Nat))) := by rw [hiv, hih, hiu, hig]; exact rfl
      have d2 : -703687441776640 ≤ M.fj 4 l j k ∧ M.fj 4 l j k ≤ 703687441776640 := by omega
      clear d
      generalize M.fj 4 l j k = cu at *
      generalize l.getD iv 0 = x0 at *
      generalize l.getD iu 0 = x2 at *
      generalize M.fil ih (4 : Nat) = x1 at *
      generalize M.fil ig (4 : Nat) = x3 at *
      rcases Nat.mod_two_eq_zero_or_one k with hp | hp
      · have ht : (k : Int).tmod 2 = 0 := by rw [tmod2, hp]; rfl
        have S2 : Hid (cu + (x0 * x1 + x2 * x3) = M.fj 4 l j (k + 1)) := by show _ = _; rw [S.out, (M.sgn_even hp).2]
        clear S hp hiv hih hiu hig
        go_wp2
        go_quiet (fail)
        go_wp2
        go_roundw
        case rel => exact ⟨k + 1, by omega, by go_num, by rw [← S2.out], _, rfl⟩
        case measure => simp [intOf]; omega
      · have ht : (k : Int).tmod 2 = 1 := by rw [tmod2, hp]; rfl
        have S2 : Hid (cu + -(x0 * x1 + x2 * x3) = M.fj 4 l j (k + 1)) := by show _ = _; rw [S.out, (M.sgn_odd hp).2]
        clear S hp hiv hih hiu hig
        go_wp2
        go_quiet (fail)
        go_wp2
        go_roundw
        case rel => exact ⟨k + 1, by omega, by go_num, by rw [← S2.out], _, rfl⟩
        case measure => simp [intOf]; omega
    · obtain rfl : k = 5 := by omega
      have d := M.fj_bd (m := 4) HF.out j 5
      have hr := M.rnd_bd (M.fj 4 l j 5) 14 (by omega) (by omega)
      go_wp2_with (first
        | (go_at_call 220; refine (Round_any _ _ _ (by omega) (by omega)).mono ?_; rintro e w' ⟨rfl, m, rfl⟩)
        | (go_at_call 223; refine (Sat16_any _ _ (by omega) (by omega)).mono ?_; rintro e w' ⟨rfl, rfl⟩))
      go_ret
      exact ⟨rfl, _, rfl⟩

set_option maxRecDepth 100000 in
set_option maxHeartbeats 2000000 in
theorem sample_8 (p gl lo hi j : Nat) (l : List Int) (w : World) (hS : Seen 8 p lo hi (.slice (some ⟨gl, 0, none⟩) 160 160) w)
    (hx : Blk w gl (enc .i32 l).toArray 21) (hl : l.length = 160) (hfit : M.fits32 l) (hj : j < 8) :
    Calls Tryz.prog 196 #[.pointer (some ⟨p, 0, none⟩), .int .i64 j] w fun e w' => e = .returned (.int .i16 (M.sat16 (M.rnd (M.fj 8 l j 5) 14))) ∧ ∃ m, w' = w.drewN m := by
  obtain ⟨bf, of, cf, c1, hfil⟩ := hS.filter (by omega)
  rw [show 10 * 8 = 80 from rfl] at c1 hfil
  have c0 : w.cell? ⟨p, 0, none⟩ = some (.int .i64 8) := hS.2.2.1
  have c3 := hS.2.2.2.1
  have HFil : Hid (∀ i, i < 80 → w.cell? ⟨bf, of + i, none⟩ = some (.int .i16 (M.fil i (8 : Nat)))) := hfil
  have HX : Hid (Blk _ _ _ _) := hx
  have HF : Hid (M.fits32 l) := hfit
  have hj' : (j : Int) < 8 := by omega
  clear hS hx hfit hfil
  go_enter Tryz.func196, Tryz.ntmps196
  go_wp2
  go_loopw [16, 6] (fun i s w2 => ∃ k : Nat, k ≤ 5 ∧ i = .int .i64 k ∧ s = .int .i64 (M.fj 8 l j k) ∧ ∃ mm, w2 = w.drewN mm) (fun i _ _ => 5 - (intOf i).toNat)
  case atStart => exact ⟨0, by omega, rfl, rfl, 0, rfl⟩
  case round =>
    obtain ⟨k, hk, rfl, rfl, mm, rfl⟩ := hrel
    by_cases hk5 : k < 5
    · have hk5' : (k : Int) < 5 := by omega
      obtain ⟨iv, hiv⟩ : ∃ iv, iv = 4 * 8 * k + j := ⟨_, rfl⟩
      obtain ⟨ih, hih⟩ : ∃ ih, ih = 2 * 8 * k + j := ⟨_, rfl⟩
      obtain ⟨iu, hiu⟩ : ∃ iu, iu = 4 * 8 * k + 3 * 8 + j := ⟨_, rfl⟩
      obtain ⟨ig, hig⟩ : ∃ ig, ig = 2 * 8 * k + 8 + j := ⟨_, rfl⟩
      have hiv' : 32 * (k : Int) + (j : Int) = (iv : Int) := by omega
      have hih' : 16 * (k : Int) + (j : Int) = (ih : Int) := by omega
      have hiu' : (iv : Int) + 24 = (iu : Int) := by omega
      have hig' : (ih : Int) + 8 = (ig : Int) := by omega
      have b1 : (0 : Int) ≤ iv ∧ (iv : Int) < 160 := by omega
      have b2 : (0 : Int) ≤ ih ∧ (ih : Int) < 80 := by omega
      have b3 : (0 : Int) ≤ iu ∧ (iu : Int) < 160 := by omega
      have b4 : (0 : Int) ≤ ig ∧ (ig : Int) < 80 := by omega
      have q1 : w.cell? ⟨gl, iv, none⟩ = some (.int .i32 (l.getD iv 0)) := Blk.cell HX.out (by rw [List.getElem?_toArray]; exact enc_get (by omega))
      have q3 : w.cell? ⟨gl, iu, none⟩ = some (.int .i32 (l.getD iu 0)) := Blk.cell HX.out (by rw [List.getElem?_toArray]; exact enc_get (by omega))
      have q2 := HFil.out ih (by omega)
      have q4 := HFil.out ig (by omega)
      have e0 := M.get_bd HF.out (by decide) (by decide) iv
      have e3 := M.get_bd HF.out (by decide) (by decide) iu
      have e1 := M.fil_bd ih (8 : Nat)
      have e4 := M.fil_bd ig (8 : Nat)
      have e2 := M.mul_bd (l.getD iv 0) (M.fil ih (8 : Nat)) 2147483648 32768 (by omega) (by omega) (by omega) (by omega)
      have e5 := M.mul_bd (l.getD iu 0) (M.fil ig (8 : Nat)) 2147483648 32768 (by omega) (by omega) (by omega) (by omega)
      have d := M.fj_bd (m := 8) HF.out j k
      have S : Hid (M.fj 8 l j (k + 1) = M.fj 8 l j k + M.sgn true k (l.getD iv 0 * M.fil ih (8 : Nat) + l.getD iu 0 * M.fil ig (8 : Nat))) := by rw [hiv, hih, hiu, hig]; exact rfl
      have d2 : -703687441776640 ≤ M.fj 8 l j k ∧ M.fj 8 l j k ≤ 703687441776640 := by omega
      clear d
      generalize M.fj 8 l j k = cu at *
      generalize l.getD iv 0 = x0 at *
      generalize l.getD iu 0 = x2 at *
      generalize M.fil ih (8 : Nat) = x1 at *
      generalize M.fil ig (8 : Nat) = x3 at *
      rcases Nat.mod_two_eq_zero_or_one k with hp | hp
      · have ht : (k : Int).tmod 2 = 0 := by rw [tmod2, hp]; rfl
        have S2 : Hid (cu + (x0 * x1 + x2 * x3) = M.fj 8 l j (k + 1)) := by show _ = _; rw [S.out, (M.sgn_even hp).2]
        clear S hp hiv hih hiu hig
        go_wp2
        go_quiet (fail)
        go_wp2
        go_roundw
        case rel => exact ⟨k + 1, by omega, by go_num, by rw [← S2.out], _, rfl⟩
        case measure => simp [intOf]; omega
      · have ht : (k : Int).tmod 2 = 1 := by rw [tmod2, hp]; rfl
        have S2 : Hid (cu + -(x0 * x1 + x2 * x3) = M.fj 8 l j (k + 1)) := by show _ = _; rw [S.out, (M.sgn_odd hp).2]
        clear S hp hiv hih hiu hig
        go_wp2
        go_quiet (fail)
        go_wp2
        go_roundw
        case rel => exact ⟨k + 1, by omega, by go_num, by rw [← S2.out], _, rfl⟩
        case measure => simp [intOf]; omega
    · obtain rfl : k = 5 := by omega
      have d := M.fj_bd (m := 8) HF.out j 5
      have hr := M.rnd_bd (M.fj 8 l j 5) 14 (by omega) (by omega)
      go_wp2_with (first
        | (go_at_call 220; refine (Round_any _ _ _ (by omega) (by omega)).mono ?_; rintro e w' ⟨rfl, m, rfl⟩)
        | (go_at_call 223; refine (Sat16_any _ _ (by omega) (by omega)).mono ?_; rintro e w' ⟨rfl, rfl⟩))
      go_ret
      exact ⟨rfl, _, rfl⟩

end Poly
end Go.Proofs.YtcaifpjbjghhaaaGreatDoor

/-
  The document's tables (psalteryref04), and when two lists are the same. Conditions: none.
-/
namespace Go.Proofs.YtcaifpjbjghhaaaGreatDoor
open Go.RowKit
namespace M

theorem fil4 : ∀ k : Nat, k < 40 → -32768 ≤ rnd (rnd (fade (k - 20) 4 * win k 40) 15 * 19708) 15 ∧ rnd (rnd (fade (k - 20) 4 * win k 40) 15 * 19708) 15 ≤ 32767 := by decide +kernel
theorem fil8 : ∀ k : Nat, k < 80 → -32768 ≤ rnd (rnd (fade (k - 40) 8 * win k 80) 15 * 19708) 15 ∧ rnd (rnd (fade (k - 40) 8 * win k 80) 15 * 19708) 15 ≤ 32767 := by decide +kernel
theorem sat16_id {x : Int} (h0 : -32768 ≤ x) (h1 : x ≤ 32767) : sat16 x = x := by
  unfold sat16 clip
  rw [if_neg (by omega), if_neg (by omega)]

end M
namespace Bank

set_option maxRecDepth 100000 in
set_option maxHeartbeats 1600000 in
theorem rfilter_4 (w : World) :
    Calls Tryz.prog 149 #[.int .i64 4] w fun e w' => ∃ v, e = .returned v ∧ w'.ownsRow w.heap.size 182 1 v (M.ts 2 4) (M.tabl 2 4) ∧ Below w.heap.size w w' := by
  obtain ⟨i0, hi, hz0, hz1, hz2⟩ := info_parts info16
  have ets : M.ts 2 4 = 40 := rfl
  have hcos : ∀ x : Int, M.cosineI x 40 = M.cosine x 40 := fun x => if_pos (by decide)
  go_enter Tryz.func149, Tryz.ntmps149
  go_wp2
  go_loopw [3, 4] (fun v i wr => ∃ k : Nat, k ≤ 40 ∧ i = .int .i64 ((k : Int) - 20) ∧ Gath 2 4 k v w wr) (fun _ i _ => 40 - (intOf i + 20).toNat)
  case atStart => exact ⟨0, by omega, rfl, World.ownsRow_nil _ _ _ _, Below.refl _ _⟩
  case round =>
    obtain ⟨k, hk, rfl, hG⟩ := hrel
    by_cases hlt : k < 40
    · have hs := hG.2.size
      have hown := hG.1
      have hlt' : (k : Int) - 20 < 20 := by omega
      by_cases hd : (k : Int) - 20 = 0
      · have hk' : k = 20 := by omega
        subst hk'
        have c1e : M.cosine 20 40 = -32767 := by decide +kernel
        have c2e : M.cosine 40 40 = 32767 := by decide +kernel
        have r2e : M.rnd 1073709056 15 = 32767 := by decide +kernel
        have r3e : M.rnd 645772036 15 = 19707 := by decide +kernel
        have hval : M.tv 2 4 20 = 19707 := by decide +kernel
        go_wp2_with (first
          | (go_at_call 193; refine (Wave.Of_any _ _ _ (by omega) (by omega)).mono ?_; rintro e w' ⟨rfl, hw⟩; rw [hw]; clear hw w')
          | (go_at_call 194; refine (Wave.refCosine_all _ _ _).mono ?_; rintro e w' ⟨rfl, hw⟩; rw [hw]; clear hw w')
          | (go_at_call 154; refine (Ref.Round_any _ _ _ (by omega) (by omega)).mono ?_; rintro e w' ⟨rfl, hw⟩; rw [hw]; clear hw w')
          | (at_builtin; refine wpList_append_own _ rfl (.tmp 68) (.tmp 76) 55 rfl w.heap.size 182 i0 (.int .i16 0) 1 2 Tryz.underlying55 hi hz0 hz1 hz2 rfl (by decide) _ _ _ rfl (hown.alloc _) ⟨wr.heap.size, 0, none⟩ 1 1 [.int .i16 (M.tv 2 ((4 : Nat) : Int) (20 : Nat))] rfl rfl ?c1 ?c2 ?c3 ?c4 ?c5 ?_))
        case c1 =>
          intro j u hj
          match j, hj with
          | 0, hj => simp at hj; subst hj; simp [Addr.add, hval]
        case c2 => intro u hu; simp at hu; subst hu; rfl
        case c3 => unfold maxLen; omega
        case c4 => omega
        case c5 => simp; omega
        · intro v' w1 hown' hgrow _
          have R := hG.step (by omega) hown' hgrow
          clear hown' hgrow hown hG
          go_wp2
          go_roundw
          case rel => exact ⟨20 + 1, by omega, by go_num, R⟩
          case measure => simp [intOf]
      · obtain ⟨a0, a1⟩ := M.cosine_bd (k : Int) (d := 40) (by omega)
        obtain ⟨b0, b1⟩ := M.cosine_bd (2 * (k : Int)) (d := 40) (by omega)
        obtain ⟨q0, q1⟩ := M.win_bd (i := (k : Int)) (t := 40) (by omega)
        obtain ⟨p0, p1⟩ := M.fw_bd (d := (k : Int) - 20) (m := 4) (i := k) (t := 40) (by decide) (by omega)
        obtain ⟨r0, r1⟩ := M.rnd15_bd p0 p1 (by omega)
        obtain ⟨f0, f1⟩ := M.fade_bd (d := (k : Int) - 20) (m := 4) (by decide)
        obtain ⟨s0, s1⟩ := M.fil4 k hlt
        have hwin : (1376256 + 8 * M.cosine (2 * (k : Int)) 40 - 50 * M.cosine (k : Int) 40).tdiv 100 = M.win k 40 := by
          unfold M.win; congr 1; omega
        have hval : M.rnd (M.rnd (M.fade ((k : Int) - 20) 4 * M.win k 40) 15 * 19708) 15 = M.tv 2 4 k := by
          show _ = M.sat16 (M.rnd (M.rnd (M.fade ((k : Int) - 20) 4 * M.win k 40) 15 * 19708) 15)
          rw [M.sat16_id s0 s1]
        have hq0 : -40000 ≤ (1376256 + 8 * M.cosine (2 * (k : Int)) 40 - 50 * M.cosine (k : Int) 40).tdiv 100 := by omega
        have hq1 : (1376256 + 8 * M.cosine (2 * (k : Int)) 40 - 50 * M.cosine (k : Int) 40).tdiv 100 ≤ 40000 := by omega
        rw [hval] at s0 s1
        have hwr : IntKind.i16.wrap (M.tv 2 4 k) = M.tv 2 4 k := by
          simp only [IntKind.wrap, IntKind.bits, IntKind.signed]
          first | omega | (simp; omega)
        have hd' : ((k : Int) - 20 == 0) = false := by simpa using hd
        have hz : ¬ ((k : Int) - 20) * 1065 = 0 := by omega
        obtain ⟨x0, x1⟩ := M.sine_bd (3 * ((k : Int) - 20)) (d := 40) (by omega)
        have hfade : (M.sine (3 * ((k : Int) - 20)) 40 * 4 * 565).tdiv (((k : Int) - 20) * 1065) = M.fade ((k : Int) - 20) 4 := by
          unfold M.fade
          rw [if_neg hd, show (10 * 4 : Int) = 40 from rfl]
          congr 1 <;> omega
        have y0 : -200000000 ≤ (M.sine (3 * ((k : Int) - 20)) 40 * 4 * 565).tdiv (((k : Int) - 20) * 1065) := by omega
        have y1 : (M.sine (3 * ((k : Int) - 20)) 40 * 4 * 565).tdiv (((k : Int) - 20) * 1065) ≤ 200000000 := by omega
        go_wp2_with (first
          | (go_at_call 193; refine (Wave.Of_any _ _ _ (by omega) (by omega)).mono ?_; rintro e w' ⟨rfl, hw⟩; rw [hw]; clear hw w')
          | (go_at_call 194; refine (Wave.refCosine_all _ _ _).mono ?_; rintro e w' ⟨rfl, hw⟩; rw [hw]; clear hw w')
          | (go_at_call 154; refine (Ref.Round_any _ _ _ (by omega) (by omega)).mono ?_; rintro e w' ⟨rfl, hw⟩; rw [hw]; clear hw w')
          | (at_builtin; refine wpList_append_own _ rfl (.tmp 68) (.tmp 76) 55 rfl w.heap.size 182 i0 (.int .i16 0) 1 2 Tryz.underlying55 hi hz0 hz1 hz2 rfl (by decide) _ _ _ rfl (hown.alloc _) ⟨wr.heap.size, 0, none⟩ 1 1 [.int .i16 (M.tv 2 ((4 : Nat) : Int) (k : Nat))] rfl rfl ?c1 ?c2 ?c3 ?c4 ?c5 ?_))
        case c1 =>
          intro j u hj
          match j, hj with
          | 0, hj => simp at hj; subst hj; simp [Addr.add]
        case c2 => intro u hu; simp at hu; subst hu; rfl
        case c3 => unfold maxLen; omega
        case c4 => omega
        case c5 => simp; omega
        · intro v' w1 hown' hgrow _
          have R := hG.step (by omega) hown' hgrow
          clear hown' hgrow hown hG
          go_wp2
          go_roundw
          case rel => exact ⟨k + 1, by omega, by go_num, R⟩
          case measure => simp [intOf]; omega
    · obtain rfl : k = 40 := by omega
      go_wp2
      go_ret
      exact ⟨_, rfl, hG.whole⟩

set_option maxRecDepth 100000 in
set_option maxHeartbeats 1600000 in
theorem rfilter_8 (w : World) :
    Calls Tryz.prog 149 #[.int .i64 8] w fun e w' => ∃ v, e = .returned v ∧ w'.ownsRow w.heap.size 182 1 v (M.ts 2 8) (M.tabl 2 8) ∧ Below w.heap.size w w' := by
  obtain ⟨i0, hi, hz0, hz1, hz2⟩ := info_parts info16
  have ets : M.ts 2 8 = 80 := rfl
  have hcos : ∀ x : Int, M.cosineI x 80 = M.cosine x 80 := fun x => if_pos (by decide)
  go_enter Tryz.func149, Tryz.ntmps149
  go_wp2
  go_loopw [3, 4] (fun v i wr => ∃ k : Nat, k ≤ 80 ∧ i = .int .i64 ((k : Int) - 40) ∧ Gath 2 8 k v w wr) (fun _ i _ => 80 - (intOf i + 40).toNat)
  case atStart => exact ⟨0, by omega, rfl, World.ownsRow_nil _ _ _ _, Below.refl _ _⟩
  case round =>
    obtain ⟨k, hk, rfl, hG⟩ := hrel
    by_cases hlt : k < 80
    · have hs := hG.2.size
      have hown := hG.1
      have hlt' : (k : Int) - 40 < 40 := by omega
      by_cases hd : (k : Int) - 40 = 0
      · have hk' : k = 40 := by omega
        subst hk'
        have c1e : M.cosine 40 80 = -32767 := by decide +kernel
        have c2e : M.cosine 80 80 = 32767 := by decide +kernel
        have r2e : M.rnd 1073709056 15 = 32767 := by decide +kernel
        have r3e : M.rnd 645772036 15 = 19707 := by decide +kernel
        have hval : M.tv 2 8 40 = 19707 := by decide +kernel
        go_wp2_with (first
          | (go_at_call 193; refine (Wave.Of_any _ _ _ (by omega) (by omega)).mono ?_; rintro e w' ⟨rfl, hw⟩; rw [hw]; clear hw w')
          | (go_at_call 194; refine (Wave.refCosine_all _ _ _).mono ?_; rintro e w' ⟨rfl, hw⟩; rw [hw]; clear hw w')
          | (go_at_call 154; refine (Ref.Round_any _ _ _ (by omega) (by omega)).mono ?_; rintro e w' ⟨rfl, hw⟩; rw [hw]; clear hw w')
          | (at_builtin; refine wpList_append_own _ rfl (.tmp 68) (.tmp 76) 55 rfl w.heap.size 182 i0 (.int .i16 0) 1 2 Tryz.underlying55 hi hz0 hz1 hz2 rfl (by decide) _ _ _ rfl (hown.alloc _) ⟨wr.heap.size, 0, none⟩ 1 1 [.int .i16 (M.tv 2 ((8 : Nat) : Int) (40 : Nat))] rfl rfl ?c1 ?c2 ?c3 ?c4 ?c5 ?_))
        case c1 =>
          intro j u hj
          match j, hj with
          | 0, hj => simp at hj; subst hj; simp [Addr.add, hval]
        case c2 => intro u hu; simp at hu; subst hu; rfl
        case c3 => unfold maxLen; omega
        case c4 => omega
        case c5 => simp; omega
        · intro v' w1 hown' hgrow _
          have R := hG.step (by omega) hown' hgrow
          clear hown' hgrow hown hG
          go_wp2
          go_roundw
          case rel => exact ⟨40 + 1, by omega, by go_num, R⟩
          case measure => simp [intOf]
      · obtain ⟨a0, a1⟩ := M.cosine_bd (k : Int) (d := 80) (by omega)
        obtain ⟨b0, b1⟩ := M.cosine_bd (2 * (k : Int)) (d := 80) (by omega)
        obtain ⟨q0, q1⟩ := M.win_bd (i := (k : Int)) (t := 80) (by omega)
        obtain ⟨p0, p1⟩ := M.fw_bd (d := (k : Int) - 40) (m := 8) (i := k) (t := 80) (by decide) (by omega)
        obtain ⟨r0, r1⟩ := M.rnd15_bd p0 p1 (by omega)
        obtain ⟨f0, f1⟩ := M.fade_bd (d := (k : Int) - 40) (m := 8) (by decide)
        obtain ⟨s0, s1⟩ := M.fil8 k hlt
        have hwin : (1376256 + 8 * M.cosine (2 * (k : Int)) 80 - 50 * M.cosine (k : Int) 80).tdiv 100 = M.win k 80 := by
          unfold M.win; congr 1; omega
        have hval : M.rnd (M.rnd (M.fade ((k : Int) - 40) 8 * M.win k 80) 15 * 19708) 15 = M.tv 2 8 k := by
          show _ = M.sat16 (M.rnd (M.rnd (M.fade ((k : Int) - 40) 8 * M.win k 80) 15 * 19708) 15)
          rw [M.sat16_id s0 s1]
        have hq0 : -40000 ≤ (1376256 + 8 * M.cosine (2 * (k : Int)) 80 - 50 * M.cosine (k : Int) 80).tdiv 100 := by omega
        have hq1 : (1376256 + 8 * M.cosine (2 * (k : Int)) 80 - 50 * M.cosine (k : Int) 80).tdiv 100 ≤ 40000 := by omega
        rw [hval] at s0 s1
        have hwr : IntKind.i16.wrap (M.tv 2 8 k) = M.tv 2 8 k := by
          simp only [IntKind.wrap, IntKind.bits, IntKind.signed]
          first | omega | (simp; omega)
        have hd' : ((k : Int) - 40 == 0) = false := by simpa using hd
        have hz : ¬ ((k : Int) - 40) * 1065 = 0 := by omega
        obtain ⟨x0, x1⟩ := M.sine_bd (3 * ((k : Int) - 40)) (d := 80) (by omega)
        have hfade : (M.sine (3 * ((k : Int) - 40)) 80 * 8 * 565).tdiv (((k : Int) - 40) * 1065) = M.fade ((k : Int) - 40) 8 := by
          unfold M.fade
          rw [if_neg hd, show (10 * 8 : Int) = 80 from rfl]
          congr 1 <;> omega
        have y0 : -200000000 ≤ (M.sine (3 * ((k : Int) - 40)) 80 * 8 * 565).tdiv (((k : Int) - 40) * 1065) := by omega
        have y1 : (M.sine (3 * ((k : Int) - 40)) 80 * 8 * 565).tdiv (((k : Int) - 40) * 1065) ≤ 200000000 := by omega
        go_wp2_with (first
          | (go_at_call 193; refine (Wave.Of_any _ _ _ (by omega) (by omega)).mono ?_; rintro e w' ⟨rfl, hw⟩; rw [hw]; clear hw w')
          | (go_at_call 194; refine (Wave.refCosine_all _ _ _).mono ?_; rintro e w' ⟨rfl, hw⟩; rw [hw]; clear hw w')
          | (go_at_call 154; refine (Ref.Round_any _ _ _ (by omega) (by omega)).mono ?_; rintro e w' ⟨rfl, hw⟩; rw [hw]; clear hw w')
          | (at_builtin; refine wpList_append_own _ rfl (.tmp 68) (.tmp 76) 55 rfl w.heap.size 182 i0 (.int .i16 0) 1 2 Tryz.underlying55 hi hz0 hz1 hz2 rfl (by decide) _ _ _ rfl (hown.alloc _) ⟨wr.heap.size, 0, none⟩ 1 1 [.int .i16 (M.tv 2 ((8 : Nat) : Int) (k : Nat))] rfl rfl ?c1 ?c2 ?c3 ?c4 ?c5 ?_))
        case c1 =>
          intro j u hj
          match j, hj with
          | 0, hj => simp at hj; subst hj; simp [Addr.add]
        case c2 => intro u hu; simp at hu; subst hu; rfl
        case c3 => unfold maxLen; omega
        case c4 => omega
        case c5 => simp; omega
        · intro v' w1 hown' hgrow _
          have R := hG.step (by omega) hown' hgrow
          clear hown' hgrow hown hG
          go_wp2
          go_roundw
          case rel => exact ⟨k + 1, by omega, by go_num, R⟩
          case measure => simp [intOf]; omega
    · obtain rfl : k = 80 := by omega
      go_wp2
      go_ret
      exact ⟨_, rfl, hG.whole⟩

theorem rfilter_ok (n : Nat) (w : World) (hok : M.okT 2 n) :
    Calls Tryz.prog 149 #[.int .i64 n] w fun e w' => ∃ v, e = .returned v ∧ w'.ownsRow w.heap.size 182 1 v (M.ts 2 n) (M.tabl 2 n) ∧ Below w.heap.size w w' := by
  rcases (by rcases hok with h | h | h <;> omega : n = 4 ∨ n = 8) with rfl | rfl
  · exact rfilter_4 w
  · exact rfilter_8 w

end Bank
end Go.Proofs.YtcaifpjbjghhaaaGreatDoor

/-
  When two lists are the same: the contracts of the document's comparisons for two that are. Conditions: none.
-/
namespace Go.Proofs.YtcaifpjbjghhaaaGreatDoor
set_option linter.unusedVariables false
open Go.RowKit
namespace Poly
open Bank (Blk But)

set_option maxRecDepth 100000 in
theorem same16 (lo1 hi1 lo2 hi2 : Nat) (v1 v2 : Value) (xs : List Int) (w : World) (h1 : Reads .i16 lo1 hi1 w v1 xs) (h2 : Reads .i16 lo2 hi2 w v2 xs) (hl : xs.length ≤ 1000000) :
    Calls Tryz.prog 34 #[v1, v2] w fun e w' => e = .returned (.bool true) ∧ ∃ m, w' = w.drewN m := by
  obtain ⟨a1, c1, rfl⟩ := h1.form
  obtain ⟨a2, c2, rfl⟩ := h2.form
  obtain ⟨n, hlen⟩ : ∃ n, xs.length = n := ⟨_, rfl⟩
  rcases Nat.eq_zero_or_pos n with rfl | hpos
  · rw [hlen]
    clear h1 h2 hl hlen
    go_enter Tryz.func34, Tryz.ntmps34
    go_wp2
    refine wp_loop_rounds 1 ?_
    rw [rounds_succ]
    go_wp2
    go_ret
    exact ⟨rfl, 0, rfl⟩
  · obtain ⟨g1, o1, rfl, _, _, r1⟩ := h1.cell (by omega)
    obtain ⟨g2, o2, rfl, _, _, r2⟩ := h2.cell (by omega)
    rw [hlen] at r1 r2 ⊢
    have hl' : (n : Int) ≤ 1000000 := by omega
    have R1 : Hid (∀ i, i < n → w.cell? ⟨g1, o1 + i, none⟩ = some (.int .i16 (xs.getD i 0))) := r1
    have R2 : Hid (∀ i, i < n → w.cell? ⟨g2, o2 + i, none⟩ = some (.int .i16 (xs.getD i 0))) := r2
    clear hlen r1 r2 hl h1 h2
    go_enter Tryz.func34, Tryz.ntmps34
    go_wp2
    go_loopw [5] (fun i wr => ∃ k : Nat, k ≤ n ∧ i = .int .i64 k ∧ ∃ m, wr = w.drewN m) (fun i _ => n - (intOf i).toNat)
    case atStart => exact ⟨0, by omega, rfl, 0, rfl⟩
    case round =>
      obtain ⟨k, hk, rfl, m, rfl⟩ := hrel
      by_cases hlt : k < n
      · have hlt' : (k : Int) < n := by omega
        have hb : (0 : Int) ≤ k ∧ (k : Int) < n := by omega
        have q1 := R1.out k hlt
        have q2 := R2.out k hlt
        generalize xs.getD k 0 = x at q1 q2
        go_wp2
        go_quiet (fail)
        go_wp2
        go_roundw
        case rel => exact ⟨k + 1, by omega, by go_num, _, rfl⟩
        case measure => simp [intOf]; omega
      · obtain rfl : k = n := by omega
        go_wp2
        go_ret
        exact ⟨rfl, _, rfl⟩

end Poly
end Go.Proofs.YtcaifpjbjghhaaaGreatDoor

/-
  Plain facts on lists that are made, cleared, gathered, given: what the layers 8 and 9 share; no function of theirs is in it. Conditions: as told at each.
-/
namespace Go.Proofs.YtcaifpjbjghhaaaGreatDoor
set_option linter.unusedVariables false
open Go.RowKit
namespace Poly
open Bank (Blk But)

theorem rsat16 (n : Int) (w : World) (hn : -9223372036854775808 ≤ n) (hm : n ≤ 9223372036854775807) :
    Calls Tryz.prog 127 #[.int .i64 n, .int .i64 16] w fun e w' => e = .returned (.int .i64 (M.sat16 n)) ∧ w' = w := by
  unfold M.sat16 M.clip
  rcases Int.lt_or_le n (-32768) with h | h
  · rw [if_pos h]
    go_enter Tryz.func127, Tryz.ntmps127
    go_wp2
    all_goals first | (go_ret; exact ⟨rfl, rfl⟩) | (exfalso; omega)
  · rw [if_neg (by omega)]
    rcases Int.lt_or_le 32767 n with h2 | h2
    · rw [if_pos h2]
      have h' : ¬ n < -32768 := by omega
      go_enter Tryz.func127, Tryz.ntmps127
      go_wp2
      all_goals first | (go_ret; exact ⟨rfl, rfl⟩) | (exfalso; omega)
    · rw [if_neg (by omega)]
      have h' : ¬ n < -32768 := by omega
      have h3 : ¬ 32767 < n := by omega
      go_enter Tryz.func127, Tryz.ntmps127
      go_wp2
      all_goals first | (go_ret; exact ⟨rfl, rfl⟩) | (exfalso; omega)

end Poly
end Go.Proofs.YtcaifpjbjghhaaaGreatDoor

/-
  Feeding a joiner; resets. Conditions: as told at each.
-/
namespace Go.Proofs.YtcaifpjbjghhaaaGreatDoor
set_option linter.unusedVariables false
open Go.RowKit
namespace Poly
open Bank (Blk But)

theorem splitReset (lo gl m : Nat) (xs : List Int) (w : World) (h : Spl lo gl m xs w) (hm : 1 ≤ m) :
    Calls Tryz.prog 95 #[.pointer (some ⟨gl + 1, 0, none⟩)] w fun e w' => e = .returned (.tuple #[]) ∧ Spl lo gl m (List.replicate (10 * m) 0) w' ∧ But gl w w' := by
  obtain ⟨c0, c3⟩ := h.cells
  have hcl : ∀ ty, (Builtin.clear_ #[55] ty #[.slice (some ⟨gl, 0, none⟩) (10 * m) (10 * m)]).run Tryz.prog w = .ok (.tuple #[]) (w.setRow gl (List.replicate (10 * m) (.int .i16 0)).toArray) := fun ty =>
    run_clear_row w 55 182 ty (.int .i16 0) Tryz.underlying55 (fun w => by kernel_rfl) rfl rfl gl (10 * m) (10 * m) _ _ h.2.2.1 (by simp [enc_length]; exact h.2.2.2.1) (by omega)
  have hS : Spl lo gl m (List.replicate (10 * m) 0) (w.setRow gl (List.replicate (10 * m) (.int .i16 0)).toArray) :=
    h.relay (But.setRow (Bank.But.refl _ _) _) (by rw [enc_rep]; exact Blk.setRow h.2.2.1 _) (by simp) (zeros16 _)
  have HS : Hid (Spl _ _ _ _ _) := hS
  clear h hS
  generalize (List.replicate (10 * m) (Value.int .i16 0)).toArray = cs at *
  generalize 10 * m = M10 at *
  go_enter Tryz.func95, Tryz.ntmps95
  go_wp2
  go_end0
  exact ⟨rfl, HS.out, But.setRow (Bank.But.refl _ _) _⟩

theorem sample_any {m gl lo j : Nat} {l : List Int} {w : World} (hm : m = 4 ∨ m = 8) (h : Joi lo gl m l w) (hj : j < m) :
    Calls Tryz.prog 196 #[.pointer (some ⟨gl + 1, 0, none⟩), .int .i64 j] w fun e w' => e = .returned (.int .i16 (M.sat16 (M.rnd (M.fj m l j 5) 14))) ∧ ∃ n, w' = w.drewN n := by
  rcases hm with rfl | rfl
  · exact sample_4 (gl + 1) gl lo gl j l w h.seen h.2.2.1 h.2.2.2.1 h.2.2.2.2.1 hj
  · exact sample_8 (gl + 1) gl lo gl j l w h.seen h.2.2.1 h.2.2.2.1 h.2.2.2.2.1 hj

/-- the sums over a joiner's waves -/
theorem joiSums {m M2 gl lo lo' hi' : Nat} {l s : List Int} {vs : Value} {w : World} (hm : (m = 4 ∧ M2 = 8) ∨ (m = 8 ∧ M2 = 16)) (h : Joi lo gl m l w) (hr : Reads .i32 lo' hi' w vs s) (hl : s.length = m) (h1' : hi' ≤ w.heap.size) :
    Calls Tryz.prog 191 #[.pointer (some ⟨gl + 1, 0, none⟩), vs, .int .i64 15] w fun e w' => e = .returned (.slice (some ⟨w.heap.size, 0, none⟩) M2 M2) ∧
      Blk w' w.heap.size (enc .i32 (M.vs m s)).toArray 21 ∧ Below w.heap.size w w' ∧ w'.heap.size = w.heap.size + 1 := by
  obtain ⟨h0, h1, h2, h3, h4, vf, vw, h5, h6, h7⟩ := h
  have e := sums_any (gl + 1) lo gl lo' hi' vw _ s ((List.range (2 * m)).map (M.wj m)) 15 M2 w (h5.cell (o := 2) rfl) h7 hr (by
    intro i hi
    have hi : i < 2 * m := by simpa using hi
    have e : ((List.range (2 * m)).map (M.wj m)).getD i [] = M.wj m i := by simp [List.getD, hi]
    rw [e, M.wj_length, hl]) (by omega) (by omega) (by omega) (by simp; omega) (by simp; omega) (by omega) h1' (by simp; omega)
  refine e.mono ?_
  rintro e w' ⟨rfl, hb, hbel, hs⟩
  refine ⟨rfl, ?_, hbel, hs⟩
  have e2 : ((List.range M2).map fun i => M.sat32 (M.rnd (Dot.dotTo s (((List.range (2 * m)).map (M.wj m)).getD i []) s.length) 15)) = M.vs m s := by
    unfold M.vs
    rw [show M2 = 2 * m from by omega]
    apply List.map_congr_left
    intro i hi
    have hi := List.mem_range.1 hi
    have e : ((List.range (2 * m)).map (M.wj m)).getD i [] = M.wj m i := by simp [List.getD, hi]
    rw [e, hl]
  rw [e2] at hb
  exact hb

theorem joined (m : Nat) (s l : List Int) (hl : l.length = 20 * m) :
    (enc .i32 (l.take (2 * m) ++ l.take (20 * m - 2 * m))).toArray.toList.take 0 ++ enc .i32 (M.vs m s) ++ (enc .i32 (l.take (2 * m) ++ l.take (20 * m - 2 * m))).toArray.toList.drop (0 + (enc .i32 (M.vs m s)).length) = enc .i32 (M.nj m s l) := by
  rw [enc_length, M.vs_length]
  simp only [enc, List.take_zero, List.nil_append, Nat.zero_add]
  rw [← List.map_drop, ← List.map_append]
  congr 1
  unfold M.nj
  have ha : (l.take (2 * m)).length = 2 * m := by rw [List.length_take]; omega
  rw [List.drop_left' ha, List.take_append, M.vs_length]
  congr 1
  rw [List.take_of_length_le (by rw [M.vs_length]; omega)]

/-- what the joiner's line is moved to, and what comes into it -/
theorem joinMid {m M2 M20 lo gl lo' hi' : Nat} {s l : List Int} {vs : Value} {w : World} (hm : (m = 4 ∧ M2 = 8 ∧ M20 = 80) ∨ (m = 8 ∧ M2 = 16 ∧ M20 = 160)) (h : Joi lo gl m l w) (hs : Reads .i32 lo' hi' w vs s) (hsl : s.length = m) (h1 : hi' ≤ w.heap.size) (hg : gl < lo' ∨ hi' ≤ gl) :
    Calls Tryz.prog 195 #[.slice (some ⟨gl, 0, none⟩) M20 M20, .int .i64 M2] w.drew fun e w1 => e = .returned (.tuple #[]) ∧ w1.cell? ⟨gl + 1, 0, none⟩ = some (.int .i64 m) ∧ w1.cell? ⟨gl + 1, 3, none⟩ = some (.slice (some ⟨gl, 0, none⟩) M20 M20) ∧
      Calls Tryz.prog 191 #[.pointer (some ⟨gl + 1, 0, none⟩), vs, .int .i64 15] w1.drew fun e w2 => ∃ H, e = .returned (.slice (some ⟨H, 0, none⟩) M2 M2) ∧ w2.cell? ⟨gl + 1, 0, none⟩ = some (.int .i64 m) ∧ w2.cell? ⟨gl + 1, 3, none⟩ = some (.slice (some ⟨gl, 0, none⟩) M20 M20) ∧
        ∃ X : Array Value, (∀ ty, (Builtin.copy_ #[97, 97] ty #[.slice (some ⟨gl, 0, none⟩) M20 M20, .slice (some ⟨H, 0, none⟩) M2 M2]).run Tryz.prog w2 = .ok (goInt M2) (w2.setRow gl X)) ∧ Joi lo gl m (M.nj m s l) (w2.setRow gl X) ∧ But gl w (w2.setRow gl X) := by
  have hlen := h.2.2.2.1
  have e20 : 20 * m = M20 := by omega
  have e2 : 2 * m = M2 := by omega
  have hmv := moveOn32 gl M2 l w.drew h.2.2.1 (by omega) (by omega)
  rw [hlen, e20] at hmv
  refine hmv.mono ?_
  rintro e w1 ⟨rfl, hw1⟩
  have hb1 : But gl w w1 := by rw [hw1]; exact But.setRow (Bank.But.refl _ _).drew _
  have hB1 : Blk w1 gl (enc .i32 (l.take M2 ++ l.take (M20 - M2))).toArray 21 := by rw [hw1]; exact Blk.setRow (w := w.drew) h.2.2.1 _
  have hJ1 : Joi lo gl m (l.take M2 ++ l.take (M20 - M2)) w1 := h.relay hb1 hB1 (by simp; omega) (fun z hz => by
    rcases List.mem_append.1 hz with hz | hz <;> exact h.2.2.2.2.1 z (List.mem_of_mem_take hz))
  obtain ⟨k0, k3⟩ := hJ1.cells
  rw [e20] at k3
  have hr1 := hs.but hb1 h1 (by omega)
  have hs1 := hb1.size
  refine ⟨rfl, k0, k3, ?_⟩
  refine (joiSums (w := w1.drew) (M2 := M2) (by omega) hJ1 hr1 hsl (by show hi' ≤ w1.heap.size; omega)).mono ?_
  rintro e w2 ⟨rfl, hb2, hbel2, hs2⟩
  have hbel2' : Below w1.heap.size w1.drew w2 := hbel2
  have hJ2 : Joi lo gl m (l.take M2 ++ l.take (M20 - M2)) w2 := Joi.below (w := w1.drew) hJ1 hbel2' hJ1.2.1
  obtain ⟨j0, j3⟩ := hJ2.cells
  rw [e20] at j3
  have hb12 : But gl w w2 := But.below' hb1.drew hbel2' hs1
  refine ⟨w1.heap.size, rfl, j0, j3, (enc .i32 (M.nj m s l)).toArray, fun ty => ?_, ?_, But.setRow hb12 _⟩
  · have hX := joined m s l hlen
    rw [e2, e20] at hX
    have hlen2 : (enc .i32 (M.vs m s)).length = M2 := by rw [enc_length, M.vs_length]; exact e2
    have hcp := run_copy_row (P := Tryz.prog) w2 97 97 ty 21 gl 0 M20 M20 ⟨w1.heap.size, 0, none⟩ M2 M2 _ 21 (enc .i32 (M.vs m s)) Tryz.underlying97 (by kernel_rfl) hJ2.2.2.1
      (by rw [hlen2]; exact (Nat.min_eq_left (by omega)).symm) (fun j v hv => by
        rw [add_at]
        exact hb2.cell (by simpa using hv)) (by rw [hlen2]; simp [enc_length]; omega) (enc_one _ _)
    rw [hX, hlen2] at hcp
    exact hcp
  · exact hJ2.relay (But.setRow (Bank.But.refl _ _) _) (Blk.setRow hJ2.2.2.1 _) (M.nj_length hlen) (M.nj_fits h.2.2.2.2.1)

set_option maxRecDepth 100000 in
set_option maxHeartbeats 2000000 in
theorem joinFeed (m M2 M20 lo gl lo' hi' : Nat) (s l : List Int) (vs : Value) (w : World) (hm : (m = 4 ∧ M2 = 8 ∧ M20 = 80) ∨ (m = 8 ∧ M2 = 16 ∧ M20 = 160)) (h : Joi lo gl m l w) (hs : Reads .i32 lo' hi' w vs s) (hsl : s.length = m) (h1 : hi' ≤ w.heap.size) (hg : gl < lo' ∨ hi' ≤ gl) :
    Calls Tryz.prog 153 #[.pointer (some ⟨gl + 1, 0, none⟩), vs] w fun e w' => ∃ v, e = .returned (.tuple #[v, .int .i64 0]) ∧ Joi lo gl m (M.nj m s l) w' ∧ But gl w w' ∧ Reads .i16 w.heap.size w'.heap.size w' v (M.jn m (M.nj m s l)) := by
  obtain ⟨c0, c3⟩ := h.cells
  have e20 : 20 * m = M20 := by omega
  rw [e20] at c3
  have hmid := joinMid hm h hs hsl h1 hg
  obtain ⟨sa, sc, rfl⟩ := hs.form
  rw [hsl] at hmid ⊢
  have e2' : 2 * (m : Int) = (M2 : Int) := by omega
  have hne : ((m : Int) != (m : Int)) = false := by simp
  have m1 : (m : Int) ≤ 8 := by omega
  have m2 : (M2 : Int) ≤ 16 := by omega
  have m3 : (M20 : Int) ≤ 160 := by omega
  have hwr : IntKind.i64.wrap (M2 : Int) = (M2 : Int) := Bank.wrap_id _ (by omega) (by omega)
  have hm48 : Hid (m = 4 ∨ m = 8) := by show m = 4 ∨ m = 8; omega
  have hmk : ∀ wx : World, (Instr.makeSlice 55 (.int .i64 m) (.int .i64 m)).run Tryz.prog wx = .ok (.slice (some ⟨wx.heap.size, 0, none⟩) m m) (wx.alloc (.cells (enc .i16 (List.replicate m 0)).toArray 182)) := fun wx => make16 wx m (by omega)
  have HF : Hid (∀ (wx : World) f, Fill .i16 182 wx.heap.size m 0 f (wx.alloc (.cells (enc .i16 (List.replicate m 0)).toArray 182))) := fun wx f => Fill.start (Blk.new wx _ _)
  generalize (enc .i16 (List.replicate m 0)).toArray = c16 at hmk HF
  clear h hs hm e20 hsl
  go_enter Tryz.func153, Tryz.ntmps153
  go_wp2
  go_region_with (go_at_call 195; refine hmid.mono ?_; rintro e w1 ⟨rfl, k0, k3, hsum⟩; clear hmid c0 c3)
  all_goals
    go_wp2
    go_region_with (go_at_call 191; refine hsum.mono ?_; rintro e w2 ⟨H, rfl, j0, j3, X, hcp, hJ, hB⟩; have HJ : Hid (Joi _ _ _ _ _) := hJ; have HB : Hid (But _ _ _) := hB; clear hsum hJ hB)
    all_goals
      have d0 := (Joi.cells HJ.out).1
      have HF2 := HF.out (w2.setRow gl X) (fun j => M.sat16 (M.rnd (M.fj m (M.nj m s l) j 5) 14))
      have hmk2 := hmk (w2.setRow gl X)
      have HF3 : Hid (Fill _ _ _ _ _ _ _) := HF2
      clear hmk HF HF2 j0 j3
      generalize w2.setRow gl X = w3 at *
      go_wp2
      go_loopw [47] (fun i wr => ∃ k : Nat, k ≤ m ∧ i = .int .i64 k ∧ Fill .i16 182 w3.heap.size m k (fun j => M.sat16 (M.rnd (M.fj m (M.nj m s l) j 5) 14)) wr ∧ Below w3.heap.size w3 wr ∧ wr.heap.size = w3.heap.size + 1) (fun i _ => m - (intOf i).toNat)
      case atStart => exact ⟨0, by omega, rfl, HF3.out, (Below.refl _ _).alloc (Nat.le_refl _) _, by simp⟩
      case round =>
        clear hmk2 HF3 hcp d0
        obtain ⟨k, hk, rfl, hf, hbel, hsz⟩ := hrel
        have hJ : Joi lo gl m (M.nj m s l) wr := Joi.below HJ.out hbel (Joi.below HJ.out (Below.refl w3.heap.size w3) (And.left (And.right HJ.out))).2.1
        by_cases hlt : k < m
        · have hlt' : (k : Int) < m := by omega
          have hsm := sample_any hm48.out hJ hlt
          obtain ⟨⟨u, hu⟩, hfz⟩ := hf.cell hlt
          have HJ2 : Hid (Joi _ _ _ _ _) := hJ
          generalize hy : M.sat16 (M.rnd (M.fj m (M.nj m s l) k 5) 14) = y at hsm
          have HY : Hid _ := hy
          clear hJ hy
          go_wp2_with (go_at_call 196; refine hsm.mono ?_; rintro e w' ⟨rfl, n, rfl⟩)
          go_roundw
          case rel => exact ⟨k + 1, by omega, by go_num, (hf.drewN _).step hlt HY.out.symm, (below_drewN hbel _).setCell (Nat.le_refl _) _, by simpa [World.setCell] using hsz⟩
          case measure => simp [intOf]; omega
        · obtain rfl : k = m := by omega
          go_wp2
          go_ret2
          refine ⟨_, rfl, hJ, But.below' HB.out hbel (But.size HB.out), ?_⟩
          have hr := reads_blk hf.whole (fit16.2 (M.jn_fits k (M.nj k s l)))
          have hs0 := But.size HB.out
          simp only [List.length_map, List.length_range] at hr
          exact hr.mono hs0 (by omega)

end Poly
end Go.Proofs.YtcaifpjbjghhaaaGreatDoor

/-
  Layer 10 in plain lists: channels, woven samples, the greatest, the sum of squares, what is taken. No walk.
-/
namespace Go.Proofs.YtcaifpjbjghhaaaGreatDoor
set_option linter.unusedVariables false
namespace M

/-- c channels of n samples each, woven -/
def wov (c n : Nat) (l : List (List Int)) : List Int := (List.range (c * n)).map fun i => (l.getD (i % c) []).getD (i / c) 0
theorem wov_length (c n : Nat) (l : List (List Int)) : (wov c n l).length = c * n := by simp [wov]
theorem eq_of_getD {A B : List Int} (hl : A.length = B.length) (h : ∀ i, i < A.length → A.getD i 0 = B.getD i 0) : A = B := by
  apply List.ext_getElem hl
  intro i h1 h2
  have := h i h1
  simpa [List.getD, h1, h2] using this
theorem wov_fits {c n : Nat} {l : List (List Int)} (h : ∀ k, fits16 (l.getD k [])) : fits16 (wov c n l) := fits_map fun i => fits_getD (h _) _

/-- the first n, and 0 where there are fewer -/
def tk (n : Nat) (q : List Int) : List Int := (List.range n).map fun i => q.getD i 0
theorem tk_length (n : Nat) (q : List Int) : (tk n q).length = n := by simp [tk]
theorem tk_get {n : Nat} {q : List Int} {i : Nat} (h : i < n) : (tk n q).getD i 0 = q.getD i 0 := getD_map_range _ _ _ _ h
theorem getD_out {q : List Int} {i : Nat} (h : q.length ≤ i) : q.getD i 0 = 0 := by simp [List.getD, h]
end M
end Go.Proofs.YtcaifpjbjghhaaaGreatDoor

