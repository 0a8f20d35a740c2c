import Derived.Maps.AppendAt
import Derived.Test.YtcaifpjbjghhaaaGreatDoorSubA13
/-
  Two planes that are gathered side by side, block by block and number by number: what each append leaves. Plain facts, no walk; no function of the program is in it.
-/
namespace Go.Proofs.YtcaifpjbjghhaaaGreatDoor
set_option linter.unusedVariables false
open Go.RowKit
namespace M
end M
namespace Qnt
open Bank (Blk But)
open Poly (cell_keep alloc_size enc enc_get enc_length)

/-- two slices lie in no one block -/
def apart (u v : Value) : Prop := ∀ g, u.ownBlock = some g → v.ownBlock ≠ some g
theorem apart.symm {u v : Value} (h : apart u v) : apart v u := fun g hv hu => h g hu hv
theorem apart_nil (v : Value) : apart (.slice none 0 0) v := fun g h => by simp [Value.ownBlock] at h
theorem own_blk {w : World} {base e n : Nat} {v : Value} {xs : List Value} (h : w.ownsRow base e 1 v n xs) {g : Nat} (hg : v.ownBlock = some g) : base ≤ g ∧ ∃ cur, Blk w g cur e := by
  rcases h.2 with ⟨rfl, _⟩ | ⟨g', cap, cur, rfl, hb, hh, _⟩
  · simp [Value.ownBlock] at hg
  · simp [Value.ownBlock] at hg
    subst hg
    exact ⟨hb, cur, hh⟩
theorem own_lt {w : World} {base e n : Nat} {v : Value} {xs : List Value} (h : w.ownsRow base e 1 v n xs) {g : Nat} (hg : v.ownBlock = some g) : g < w.heap.size := by
  obtain ⟨_, cur, hb⟩ := own_blk h hg; exact hb.lt
theorem own_keep {w w' : World} {base e n : Nat} {v u : Value} {xs : List Value} (h : w.ownsRow base e 1 v n xs) (hg : w.grownBy w' u.ownBlock) (ha : apart v u) : w'.ownsRow base e 1 v n xs := by
  refine h.kept hg ?_
  cases hv : v.ownBlock with
  | none => exact .inl rfl
  | some g => exact .inr fun e => ha g hv e.symm
theorem own_apart_type {w : World} {b1 b2 e1 e2 n1 n2 : Nat} {u v : Value} {xs ys : List Value} (h1 : w.ownsRow b1 e1 1 u n1 xs) (h2 : w.ownsRow b2 e2 1 v n2 ys) (hne : e1 ≠ e2) : apart u v := fun g hu hv => by
  obtain ⟨_, c1, k1⟩ := own_blk h1 hu
  obtain ⟨_, c2, k2⟩ := own_blk h2 hv
  exact hne (k1.same k2).2
theorem own_uniq {w : World} {b b' e e' n : Nat} {v : Value} {xs ys : List Value} (h : w.ownsRow b e 1 v n xs) (k : w.ownsRow b' e' 1 v n ys) : xs = ys := by
  rcases h.2 with ⟨rfl, h0⟩ | ⟨g, cap, cur, rfl, _, hh, _, _, _, ht⟩
  · have h1 := h.1
    have k1 := k.1
    rw [h0] at h1 k1
    have hx : xs = [] := List.length_eq_zero_iff.1 (by omega)
    have hy : ys = [] := List.length_eq_zero_iff.1 (by omega)
    rw [hx, hy]
  · rcases k.2 with ⟨hv, _⟩ | ⟨g', cap', cur', hv, _, hh', _, _, _, ht'⟩
    · cases hv
    · cases hv
      rw [hh] at hh'
      simp at hh'
      obtain ⟨rfl, _⟩ := hh'
      rw [← ht, ← ht']
/-- heads of i blocks that are told, their numbers in blocks below N -/
def Hds (B N : Nat) (u : Value) (C i : Nat) (F : Nat → Nat → Int) (w : World) : Prop :=
  ∃ us : List Value, w.ownsRow B 97 1 u i us ∧ ∀ q x, us[q]? = some x → w.ownsRow B 21 1 x C (enc .i32 ((List.range C).map (F q))) ∧ ∀ g, x.ownBlock = some g → g < N
theorem Hds.nil (B N C : Nat) (F : Nat → Nat → Int) (w : World) : Hds B N (.slice none 0 0) C 0 F w := ⟨[], World.ownsRow_nil _ _ _ _, fun q x h => by simp at h⟩
theorem Hds.drewN {B N C i : Nat} {u : Value} {F : Nat → Nat → Int} {w : World} (h : Hds B N u C i F w) (m : Nat) : Hds B N u C i F (w.drewN m) := h
theorem Hds.mono {B N N' C i : Nat} {u : Value} {F : Nat → Nat → Int} {w : World} (h : Hds B N u C i F w) (hN : N ≤ N') : Hds B N' u C i F w := by
  obtain ⟨us, h1, h2⟩ := h
  exact ⟨us, h1, fun q x hx => ⟨(h2 q x hx).1, fun g hg => by have := (h2 q x hx).2 g hg; omega⟩⟩
/-- what is kept where another slice v grows: heads, or a list whose block is N or later -/
theorem Hds.kept {B N C i : Nat} {u v : Value} {F : Nat → Nat → Int} {w w' : World} (h : Hds B N u C i F w) (hg : w.grownBy w' v.ownBlock) (ha : apart u v) (hv : ∀ g, v.ownBlock = some g → N ≤ g ∨ ∃ cur, Blk w g cur 97) : Hds B N u C i F w' := by
  obtain ⟨us, h1, h2⟩ := h
  refine ⟨us, own_keep h1 hg ha, fun q x hx => ?_⟩
  obtain ⟨k1, k2⟩ := h2 q x hx
  refine ⟨own_keep k1 hg fun g gx gv => ?_, k2⟩
  rcases hv g gv with h | ⟨cur, h⟩
  · have := k2 g gx; omega
  · obtain ⟨_, c1, k⟩ := own_blk k1 gx
    exact absurd (k.same h).2 (by decide)
theorem Hds.form {B N C i : Nat} {u : Value} {F : Nat → Nat → Int} {w : World} (h : Hds B N u C i F w) : ∃ us, w.ownsRow B 97 1 u i us := by
  obtain ⟨us, h, _⟩ := h; exact ⟨us, h⟩
/-- one block more: 'x' was appended -/
theorem Hds.snoc {B N C i : Nat} {u u' x : Value} {F : Nat → Nat → Int} {w w' : World} (h : Hds B N u C i F w) (hg : w.grownBy w' u.ownBlock)
    (hx : w.ownsRow B 21 1 x C (enc .i32 ((List.range C).map (F i)))) (hN : ∀ g, x.ownBlock = some g → g < N)
    (hown : ∀ us, w.ownsRow B 97 1 u i us → w'.ownsRow B 97 1 u' (i + 1) (us ++ [x])) : Hds B N u' C (i + 1) F w' := by
  obtain ⟨us, h1, h2⟩ := h
  have hl : us.length = i := by have := h1.1; omega
  refine ⟨us ++ [x], hown us h1, fun q y hy => ?_⟩
  rcases Nat.lt_or_ge q us.length with hq | hq
  · rw [List.getElem?_append_left hq] at hy
    obtain ⟨k1, k2⟩ := h2 q y hy
    exact ⟨own_keep k1 hg (own_apart_type k1 h1 (by decide)), k2⟩
  · rw [List.getElem?_append_right hq] at hy
    have hq' : q - us.length = 0 := by
      have := (List.getElem?_eq_some_iff.1 hy).1
      simp at this; omega
    rw [hq'] at hy
    simp at hy
    subst hy
    have : q = i := by omega
    subst this
    exact ⟨own_keep hx hg (own_apart_type hx h1 (by decide)), hN⟩
theorem Hds.vw {B N C n : Nat} {u : Value} {F : Nat → Nat → Int} {w : World} (h : Hds B N u C n F w) (n1 : 1 ≤ n) (c1 : 1 ≤ C) : Vw w.heap.size u n C F w := by
  obtain ⟨us, h1, h2⟩ := h
  have hl : us.length = n := by have := h1.1; omega
  rcases id h1.2 with ⟨_, h0⟩ | ⟨g, cap, cur, rfl, _, hh, _⟩
  · omega
  · refine ⟨g, 0, cap, rfl, (Array.getElem?_eq_some_iff.1 hh).1, fun i hi => ?_⟩
    have hu : us[i]? = some us[i] := List.getElem?_eq_getElem (by omega)
    have hc := h1.cells (g := g) rfl i _ hu
    obtain ⟨k1, _⟩ := h2 i _ hu
    rcases id k1.2 with ⟨_, h0⟩ | ⟨g2, cap2, cur2, e2, _, hh2, _⟩
    · omega
    · rw [e2] at hc k1
      refine ⟨g2, 0, cap2, (Array.getElem?_eq_some_iff.1 hh2).1, by rw [Nat.zero_add]; rw [Poly.add_at] at hc; exact hc, fun b hb => ?_⟩
      have hb2 : (enc .i32 ((List.range C).map (F i)))[b]? = some (.int .i32 (F i b)) := by
        rw [enc_get (by simpa using hb)]; simp [List.getD, hb]
      have := k1.cells (g := g2) rfl b _ hb2
      rw [Poly.add_at] at this
      rw [Nat.zero_add]; exact this

/-- i blocks of both planes are told, and of the next one ka and kb numbers -/
structure St (W : World) (N C i ka kb : Nat) (F G : Nat → Nat → Int) (um us va vb : Value) (w : World) : Prop where
  bel : Below W.heap.size W w
  hm : Hds W.heap.size N um C i F w
  hs : Hds W.heap.size N us C i G w
  ap : apart um us
  ra : w.ownsRow N 21 1 va ka (enc .i32 ((List.range ka).map (F i)))
  rb : w.ownsRow N 21 1 vb kb (enc .i32 ((List.range kb).map (G i)))
  ab : apart va vb
  lo : W.heap.size ≤ N
  hi : N ≤ w.heap.size
theorem St.drewN {W : World} {N C i ka kb : Nat} {F G : Nat → Nat → Int} {um us va vb : Value} {w : World} (h : St W N C i ka kb F G um us va vb w) (m : Nat) : St W N C i ka kb F G um us va vb (w.drewN m) :=
  ⟨⟨h.bel.os, h.bel.tape, h.bel.output, h.bel.size, h.bel.block⟩, h.hm, h.hs, h.ap, h.ra, h.rb, h.ab, h.lo, h.hi⟩

/-- both planes, i blocks told -/
structure Ou (W : World) (C i : Nat) (F G : Nat → Nat → Int) (um us : Value) (w : World) : Prop where
  bel : Below W.heap.size W w
  hm : Hds W.heap.size w.heap.size um C i F w
  hs : Hds W.heap.size w.heap.size us C i G w
  ap : apart um us
theorem Ou.start (W : World) (C : Nat) (F G : Nat → Nat → Int) : Ou W C 0 F G (.slice none 0 0) (.slice none 0 0) W := ⟨Below.refl _ _, Hds.nil _ _ _ _ _, Hds.nil _ _ _ _ _, apart_nil _⟩
end Qnt
end Go.Proofs.YtcaifpjbjghhaaaGreatDoor

