import Derived.Maps.AppendAt
import Derived.Test.YtcaifpjbjghhaaaGreatDoorSubP13
/-
  Two planes that are gathered side by side, block by block and number by number: what each append leaves. Plain facts, no walk; no function of the program is in it.
-/
namespace Go.Proofs.YtcaifpjbjghhaaaGreatDoor
set_option linter.unusedVariables false
open Go.RowKit
namespace M
end M
namespace Qnt
open Bank (Blk But)
open Poly (cell_keep alloc_size enc enc_get enc_length)

def apart (u v : Value) : Prop := ∀ g, u.ownBlock = some g → v.ownBlock ≠ some g
theorem apart.symm {u v : Value} (h : apart u v) : apart v u := fun g hv hu => h g hu hv
theorem own_blk {w : World} {base e n : Nat} {v : Value} {xs : List Value} (h : w.ownsRow base e 1 v n xs) {g : Nat} (hg : v.ownBlock = some g) : base ≤ g ∧ ∃ cur, Blk w g cur e := by
  rcases h.2 with ⟨rfl, _⟩ | ⟨g', cap, cur, rfl, hb, hh, _⟩
  · simp [Value.ownBlock] at hg
  · simp [Value.ownBlock] at hg
    subst hg
    exact ⟨hb, cur, hh⟩
theorem own_lt {w : World} {base e n : Nat} {v : Value} {xs : List Value} (h : w.ownsRow base e 1 v n xs) {g : Nat} (hg : v.ownBlock = some g) : g < w.heap.size := by
  obtain ⟨_, cur, hb⟩ := own_blk h hg; exact hb.lt
theorem own_keep {w w' : World} {base e n : Nat} {v u : Value} {xs : List Value} (h : w.ownsRow base e 1 v n xs) (hg : w.grownBy w' u.ownBlock) (ha : apart v u) : w'.ownsRow base e 1 v n xs := by
  refine h.kept hg ?_
  cases hv : v.ownBlock with
  | none => exact .inl rfl
  | some g => exact .inr fun e => ha g hv e.symm
theorem own_uniq {w : World} {b b' e e' n : Nat} {v : Value} {xs ys : List Value} (h : w.ownsRow b e 1 v n xs) (k : w.ownsRow b' e' 1 v n ys) : xs = ys := by
  rcases h.2 with ⟨rfl, h0⟩ | ⟨g, cap, cur, rfl, _, hh, _, _, _, ht⟩
  · have h1 := h.1
    have k1 := k.1
    rw [h0] at h1 k1
    have hx : xs = [] := List.length_eq_zero_iff.1 (by omega)
    have hy : ys = [] := List.length_eq_zero_iff.1 (by omega)
    rw [hx, hy]
  · rcases k.2 with ⟨hv, _⟩ | ⟨g', cap', cur', hv, _, hh', _, _, _, ht'⟩
    · cases hv
    · cases hv
      rw [hh] at hh'
      simp at hh'
      obtain ⟨rfl, _⟩ := hh'
      rw [← ht, ← ht']
theorem alloc_grown (w : World) (o : Obj) (row : Option Nat) : w.grownBy (w.alloc o) row := ⟨rfl, rfl, rfl, by simp, fun k hk _ => Below.heap_alloc _ _ _ hk⟩
theorem below_grown {B : Nat} {a w w' : World} {row : Option Nat} (h : Below B a w) (hB : B ≤ w.heap.size) (hg : w.grownBy w' row) (hr : ∀ k, row = some k → B ≤ k) : Below B a w' :=
  ⟨hg.os.trans h.os, hg.tape.trans h.tape, hg.output.trans h.output, Nat.le_trans h.size hg.size, fun k hk => (hg.block k (by omega) (fun e => by have := hr k e.symm; omega)).trans (h.block k hk)⟩

end Qnt
end Go.Proofs.YtcaifpjbjghhaaaGreatDoor

/-
  Lists of values that are gathered, whatever the values are: numbers, lists, lists of lists. Plain facts, no walk; no function of the program is in it.
-/
namespace Go.Proofs.YtcaifpjbjghhaaaGreatDoor
set_option linter.unusedVariables false
open Go.RowKit
namespace Sub
open Bank (Blk But)
open Poly (cell_keep enc enc_get enc_length Reads)
open Qnt (alloc_grown below_grown)

theorem wrapI (n : Int) (h0 : -9223372036854775808 ≤ n) (h1 : n ≤ 9223372036854775807) : IntKind.i64.wrap n = n := by rw [IntKind.wrap_i64]; omega
structure Bar (t : TypeId) (B : Nat) (w w' : World) : Prop where
  size : w.heap.size ≤ w'.heap.size
  block : ∀ k, k < w.heap.size → (k < B ∨ ∀ cur, ¬ Blk w k cur t) → w'.heap[k]? = w.heap[k]?
theorem Bar.of_below {t : TypeId} {B : Nat} {w w' : World} (h : Below w.heap.size w w') : Bar t B w w' := ⟨h.size, fun k hk _ => h.block k hk⟩
theorem Bar.drewN {t : TypeId} {B : Nat} (w : World) (m : Nat) : Bar t B w (w.drewN m) := ⟨Nat.le_refl _, fun _ _ _ => rfl⟩
theorem Bar.of_grown {t : TypeId} {B n : Nat} {w w' : World} {v : Value} {xs : List Value} (h : w.ownsRow B t 1 v n xs) (hg : w.grownBy w' v.ownBlock) : Bar t B w w' :=
  ⟨hg.size, fun k hk hor => hg.block k hk fun e => by
    obtain ⟨hb, cur, hc⟩ := Qnt.own_blk h e.symm
    rcases hor with h1 | h1
    · omega
    · exact h1 cur hc⟩
def KeepE (t : TypeId) (B : Nat) (E : Nat → Value → World → Prop) : Prop := ∀ i u w w', E i u w → Bar t B w w' → E i u w'

structure Gn (t : TypeId) (B n : Nat) (E : Nat → Value → World → Prop) (v : Value) (W w : World) : Prop where
  own : ∃ us, w.ownsRow B t 1 v n us ∧ ∀ i u, us[i]? = some u → E i u w
  bel : Below B W w
  base : W.heap.size = B
section
variable {t : TypeId} {B n : Nat} {E : Nat → Value → World → Prop} {v v' : Value} {W w w' w1 w2 : World}
theorem Gn.nil (t : TypeId) (E : Nat → Value → World → Prop) (W : World) : Gn t W.heap.size 0 E (.slice none 0 0) W W := ⟨⟨[], World.ownsRow_nil _ _ _ _, fun i u h => by simp at h⟩, Below.refl _ _, rfl⟩
theorem Gn.size (h : Gn t B n E v W w) : B ≤ w.heap.size := by have := h.bel.size; have := h.base; omega
theorem Gn.form (h : Gn t B n E v W w) : ∃ a c, v = .slice a n c := by
  obtain ⟨us, h1, _⟩ := h.own
  exact Poly.own_form h1
theorem Gn.below (h : Gn t B n E v W w) (hk : KeepE t B E) (hb : Below w.heap.size w w') : Gn t B n E v W w' := by
  obtain ⟨⟨us, h1, h2⟩, h3, h4⟩ := h
  have hs : B ≤ w.heap.size := by have := h3.size; omega
  refine ⟨⟨us, h1.kept (row := none) ⟨hb.os, hb.tape, hb.output, hb.size, fun k hk _ => hb.block k hk⟩ ?_, fun i u hu => hk i u w w' (h2 i u hu) (.of_below hb)⟩, h3.trans (hb.mono hs), h4⟩
  cases hv : v.ownBlock <;> simp
theorem Gn.drewN (h : Gn t B n E v W w) (hk : KeepE t B E) (m : Nat) : Gn t B n E v W (w.drewN m) := by
  obtain ⟨⟨us, h1, h2⟩, h3, h4⟩ := h
  exact ⟨⟨us, h1, fun i u hu => hk i u w _ (h2 i u hu) (.drewN w m)⟩, Poly.below_drewN h3 m, h4⟩
theorem Gn.more {us ys : List Value} {m : Nat} (h1 : w.ownsRow B t 1 v n us) (h2 : ∀ i u, us[i]? = some u → E i u w) (h3 : Below B W w) (h4 : W.heap.size = B) (hk : KeepE t B E)
    (hy : ∀ j y, ys[j]? = some y → E (n + j) y w) (hw2 : Below w.heap.size w w2) (h5 : w1.ownsRow B t 1 v' (n + m) (us ++ ys)) (h6 : w2.grownBy w1 v.ownBlock) : Gn t B (n + m) E v' W w1 := by
  have hl : us.length = n := by have := h1.1; omega
  have hs : B ≤ w.heap.size := by have := h3.size; omega
  have k1 : w2.ownsRow B t 1 v n us := h1.kept (row := none) ⟨hw2.os, hw2.tape, hw2.output, hw2.size, fun k hk _ => hw2.block k hk⟩ (by cases hv : v.ownBlock <;> simp)
  have bar : ∀ i u, E i u w → E i u w1 := fun i u hu => hk i u w2 w1 (hk i u w w2 hu (.of_below hw2)) (.of_grown k1 h6)
  refine ⟨⟨us ++ ys, h5, fun i u hu => ?_⟩, ?_, h4⟩
  · rcases Nat.lt_or_ge i us.length with hi | hi
    · rw [List.getElem?_append_left hi] at hu
      exact bar i u (h2 i u hu)
    · rw [List.getElem?_append_right hi] at hu
      have := bar _ u (hy _ u hu)
      rwa [show n + (i - us.length) = i by omega] at this
  · have := hw2.size
    exact below_grown (h3.trans (hw2.mono hs)) (by omega) h6 (fun k hk' => (k1.lt k hk').1)
theorem Gn.step {us : List Value} {c : Array Value} {ty : TypeId} {x : Value} (h1 : w.ownsRow B t 1 v n us) (h2 : ∀ i u, us[i]? = some u → E i u w) (h3 : Below B W w) (h4 : W.heap.size = B) (hk : KeepE t B E)
    (hx : E n x w) (h5 : w1.ownsRow B t 1 v' (n + 1) (us ++ [x])) (h6 : (w.alloc (.cells c ty)).grownBy w1 v.ownBlock) : Gn t B (n + 1) E v' W w1 :=
  Gn.more h1 h2 h3 h4 hk (fun j y hy => by
    match j, hy with
    | 0, hy => simp at hy; subst hy; exact hx) ((Below.refl _ _).alloc (Nat.le_refl _) _) h5 h6
theorem Gn.at (h : Gn t B n E v W w) (hn : 1 ≤ n) : ∃ g c cur, v = .slice (some ⟨g, 0, none⟩) n c ∧ n ≤ c ∧ B ≤ g ∧ Blk w g cur t ∧ ∀ i, i < n → ∃ u, cur[i]? = some u ∧ E i u w := by
  obtain ⟨us, h1, h2⟩ := h.own
  have hl : us.length = n := by have := h1.1; omega
  rcases id h1.2 with ⟨_, h0⟩ | ⟨g, cap, cur, rfl, hb, hh, hc, _, _, ht⟩
  · omega
  · refine ⟨g, cap, cur, rfl, hc, hb, hh, fun i hi => ?_⟩
    obtain ⟨x, hu⟩ : ∃ x, us[i]? = some x := ⟨_, List.getElem?_eq_getElem (by omega)⟩
    refine ⟨x, ?_, h2 i _ hu⟩
    rw [← ht, List.getElem?_take, if_pos (by omega)] at hu
    simpa using hu
end

def E1 (k : IntKind) (t : TypeId) (C : Nat) (F : Nat → Nat → Int) (i : Nat) (u : Value) (w : World) : Prop :=
  ∃ g c cur, u = .slice (some ⟨g, 0, none⟩) C c ∧ C ≤ c ∧ Blk w g cur t ∧ ∀ j, j < C → cur[j]? = some (.int k (F i j))
def E2 (k : IntKind) (t tR : TypeId) (n C : Nat) (F : Nat → Nat → Nat → Int) (i : Nat) (u : Value) (w : World) : Prop :=
  ∃ g c cur, u = .slice (some ⟨g, 0, none⟩) n c ∧ n ≤ c ∧ Blk w g cur tR ∧ ∀ j, j < n → ∃ u', cur[j]? = some u' ∧ E1 k t C (F i) j u' w
def ER (k : IntKind) (B : Nat) (zs : Nat → List Int) (i : Nat) (u : Value) (w : World) : Prop := Reads k 0 B w u (zs i)
section
variable {k : IntKind} {t tR tM : TypeId} {B n N C i : Nat} {u v : Value} {W w w' : World}
theorem keepE1 {F : Nat → Nat → Int} (h : t ≠ tM) : KeepE tM B (E1 k t C F) := fun i u w w' ⟨g, c, cur, hu, hc, hb, hx⟩ hbar =>
  ⟨g, c, cur, hu, hc, (hbar.block g hb.lt (.inr fun cur' hb' => h (hb.same hb').2)).trans hb, hx⟩
theorem keepER {zs : Nat → List Int} : KeepE tM B (ER k B zs) := fun i u w w' ⟨a, c, hu, hl, hw, hx⟩ hbar => by
  refine ⟨a, c, hu, hl, hw, ?_⟩
  rcases hx with hx | ⟨b, off, ha, h0, h1, hx⟩
  · exact .inl hx
  · by_cases hz : zs i = []
    · exact .inl hz
    · have hpos : 0 < (zs i).length := List.length_pos_iff.2 hz
      have hlt : b < w.heap.size := World.block_lt_of_cell? w _ (hx 0 hpos)
      exact .inr ⟨b, off, ha, h0, h1, fun i hi => (cell_keep (hbar.block b hlt (.inl h1))).trans (hx i hi)⟩
theorem E1.of_own {F : Nat → Nat → Int} {zs : List Int} (h : w.ownsRow B t 1 u C (enc k zs)) (c1 : 1 ≤ C) (hz : ∀ j, j < C → zs.getD j 0 = F i j) : E1 k t C F i u w := by
  have hl : zs.length = C := by have := h.1; rw [enc_length] at this; omega
  rcases id h.2 with ⟨_, h0⟩ | ⟨g, cap, cur, rfl, hb, hh, hc, _, _, ht⟩
  · omega
  · refine ⟨g, cap, cur, rfl, hc, hh, fun j hj => ?_⟩
    have hu : (enc k zs)[j]? = some (.int k (F i j)) := by rw [enc_get (by omega), hz j hj]
    rw [← ht, List.getElem?_take, if_pos (by omega)] at hu
    simpa using hu
theorem E1.v1 {F : Nat → Nat → Int} (h : E1 k t C F i u w) : V1 k w.heap.size u C (F i) w := by
  obtain ⟨g, c, cur, rfl, hc, hb, hx⟩ := h
  exact ⟨g, 0, c, rfl, hc, hb.lt, fun j hj => by rw [Nat.zero_add]; exact hb.cell (hx j hj)⟩
theorem E1.ext {F G : Nat → Nat → Int} {i' : Nat} (h : E1 k t C F i u w) (e : ∀ j, j < C → F i j = G i' j) : E1 k t C G i' u w := by
  obtain ⟨g, c, cur, rfl, hc, hb, hx⟩ := h
  exact ⟨g, c, cur, rfl, hc, hb, fun j hj => by rw [← e j hj]; exact hx j hj⟩
theorem Gn.e2 {F : Nat → Nat → Nat → Int} (h : Gn tR B n (E1 k t C (F i)) v W w) (hn : 1 ≤ n) : E2 k t tR n C F i v w := by
  obtain ⟨g, c, cur, rfl, hc, _, hb, hx⟩ := h.at hn
  exact ⟨g, c, cur, rfl, hc, hb, hx⟩
theorem E2.v2 {F : Nat → Nat → Nat → Int} (h : E2 k t tR n C F i u w) : V2 k w.heap.size u n C (F i) w := by
  obtain ⟨g, c, cur, rfl, hc, hb, hx⟩ := h
  exact ⟨g, 0, c, rfl, hc, hb.lt, fun j hj => by
    obtain ⟨u', h1, h2⟩ := hx j hj
    exact ⟨u', by rw [Nat.zero_add]; exact hb.cell h1, h2.v1⟩⟩
theorem Gn.v2 {F : Nat → Nat → Int} (h : Gn tR B n (E1 k t C F) v W w) (hn : 1 ≤ n) : V2 k w.heap.size v n C F w := by
  obtain ⟨g, c, cur, rfl, hc, _, hb, hx⟩ := h.at hn
  exact ⟨g, 0, c, rfl, hc, hb.lt, fun j hj => by
    obtain ⟨u', h1, h2⟩ := hx j hj
    exact ⟨u', by rw [Nat.zero_add]; exact hb.cell h1, h2.v1⟩⟩
theorem Gn.v3 {F : Nat → Nat → Nat → Int} (h : Gn tM B N (E2 k t tR n C F) v W w) (hn : 1 ≤ N) : V3 k w.heap.size v N n C F w := by
  obtain ⟨g, c, cur, rfl, hc, _, hb, hx⟩ := h.at hn
  exact ⟨g, 0, c, rfl, hc, hb.lt, fun j hj => by
    obtain ⟨u', h1, h2⟩ := hx j hj
    exact ⟨u', by rw [Nat.zero_add]; exact hb.cell h1, h2.v2⟩⟩
theorem Gn.rows {zs : Nat → List Int} {g c c' hi : Nat} (h : Gn tM B n (ER k hi zs) (.slice (some ⟨g, 0, none⟩) n c) W w) (o m : Nat) (hm : o + m ≤ n) (hc : m ≤ c') (hh : hi ≤ w.heap.size) : Poly.Rows k 0 w.heap.size w (.slice (some ⟨g, o, none⟩) m c') ((List.range m).map fun i => zs (o + i)) := by
  refine ⟨some ⟨g, o, none⟩, c', by simp, by simpa using hc, ?_⟩
  by_cases hn : 1 ≤ n
  · obtain ⟨g', c'', cur, e, _, _, hb, hx⟩ := h.at hn
    cases e
    refine .inr ⟨g, o, rfl, Nat.zero_le _, hb.lt, fun i hi => ?_⟩
    simp at hi
    obtain ⟨u, h1, h2⟩ := hx (o + i) (by omega)
    refine ⟨u, hb.cell h1, ?_⟩
    have e : ((List.range m).map fun i => zs (o + i)).getD i [] = zs (o + i) := by simp [List.getD, hi]
    rw [e]
    exact h2.mono (Nat.le_refl _) hh
  · have : m = 0 := by omega
    subst this
    exact .inl rfl
end

end Sub
end Go.Proofs.YtcaifpjbjghhaaaGreatDoor

