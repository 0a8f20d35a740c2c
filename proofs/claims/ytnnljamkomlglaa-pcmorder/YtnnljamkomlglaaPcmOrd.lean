/-
  A store and two lists that are gathered, side by side: each step. Conditions: as told at each.
-/
import Derived.Test.YtnnljamkomlglaaPcmAlive
namespace Go.Proofs.Ytnnljamkomlglaa
set_option linter.unusedVariables false
open Go.RowKit
namespace Pcm
open Bank (Blk But)
open Poly

/-- a store in block b, two lists, all in blocks below S; a nil list stands at block b -/
def Ord (S N b : Nat) (q A B : List Int) (va vb : Value) (w : World) : Prop := ∃ r i o, Sto w b r 4096 q ∧ Que w i va A ∧ Que w o vb B ∧ ((i = r → i = b) ∧ (o = r → o = b) ∧ (i = o → i = b)) ∧ (N ≤ b ∧ N ≤ r ∧ N ≤ i ∧ N ≤ o) ∧ r < S ∧ i < S ∧ o < S ∧ S ≤ w.heap.size
theorem Ord.size {S N b : Nat} {q A B : List Int} {va vb : Value} {w : World} (h : Ord S N b q A B va vb w) : N ≤ w.heap.size := by
  obtain ⟨_, _, _, _, _, _, _, h1, h2, _, _, h3⟩ := h; omega
theorem Ord.drewN {S N b : Nat} {q A B : List Int} {va vb : Value} {w : World} (h : Ord S N b q A B va vb w) (m : Nat) : Ord S N b q A B va vb (w.drewN m) := h
theorem Ord.drew {S N b : Nat} {q A B : List Int} {va vb : Value} {w : World} (h : Ord S N b q A B va vb w) : Ord S N b q A B va vb w.drew := h
theorem Ord.forms {S N b : Nat} {q A B : List Int} {va vb : Value} {w : World} (h : Ord S N b q A B va vb w) : (∃ a c, va = .slice a A.length c) ∧ (∃ a c, vb = .slice a B.length c) := by
  obtain ⟨_, _, _, _, h1, h2, _⟩ := h
  obtain ⟨a, c, e, _⟩ := h1.form
  obtain ⟨a', c', e', _⟩ := h2.form
  exact ⟨⟨a, c, e⟩, ⟨a', c', e'⟩⟩
theorem Ord.reads {S N b : Nat} {q A B : List Int} {va vb : Value} {w : World} (h : Ord S N b q A B va vb w) : (∃ lo hi, Reads .i16 lo hi w va A) ∧ (∃ lo hi, Reads .i16 lo hi w vb B) := by
  obtain ⟨_, _, _, _, h1, h2, _⟩ := h
  exact ⟨⟨_, _, h1.reads⟩, ⟨_, _, h2.reads⟩⟩
theorem Ord.len {S N b : Nat} {q A B : List Int} {va vb : Value} {w : World} (h : Ord S N b q A B va vb w) : q.length ≤ 4096 := by
  obtain ⟨_, _, _, h, _⟩ := h; exact h.len
theorem Ord.fits {S N b : Nat} {q A B : List Int} {va vb : Value} {w : World} (h : Ord S N b q A B va vb w) : M.fits16 q := by
  obtain ⟨_, _, _, h, _⟩ := h; exact h.fits
theorem Ord.below {S N b : Nat} {q A B : List Int} {va vb : Value} {w w' : World} (h : Ord S N b q A B va vb w) (hb : Below w.heap.size w w') : Ord S N b q A B va vb w' := by
  obtain ⟨r, i, o, h1, h2, h3, h4, h5, h6, h7, h8, h9⟩ := h
  have := hb.size
  exact ⟨r, i, o, h1.below hb (Nat.le_refl _), h2.below hb (Nat.le_refl _), h3.below hb (Nat.le_refl _), h4, h5, h6, h7, h8, by omega⟩

theorem Ord.up {S N b : Nat} {q A B : List Int} {va vb : Value} {w : World} (h : Ord S N b q A B va vb w) : Ord w.heap.size N b q A B va vb w := by
  obtain ⟨r, i, o, h1, h2, h3, h4, h5, h6, h7, h8, h9⟩ := h
  exact ⟨r, i, o, h1, h2, h3, h4, h5, by omega, by omega, by omega, Nat.le_refl _⟩

/-- a list at an object's block is nil -/
theorem Que.at_obj {w : World} {b : Nat} {v : Value} {zs : List Int} {cur : Array Value} {t : TypeId} (h : Que w b v zs) (hb : Blk w b cur t) (ht : t ≠ 51) : v = .slice none 0 0 ∧ zs = [] := by
  rcases h.2 with h' | ⟨o, cap, cur', _, hb', _⟩
  · exact h'
  · exact absurd rfl (hb'.ne hb (Ne.symm ht))
/-- what keeps a list that may be nil -/
theorem Que.keep_obj {w w' : World} {b i : Nat} {v : Value} {zs : List Int} {cur : Array Value} {t : TypeId} (h : Que w i v zs) (hb : Blk w b cur t) (ht : t ≠ 51) (hk : i ≠ b → w'.heap[i]? = w.heap[i]?) : Que w' i v zs := by
  by_cases hi : i = b
  · subst hi
    obtain ⟨rfl, rfl⟩ := h.at_obj hb ht
    exact Que.nil _ _
  · exact h.keep fun _ => hk hi

theorem ord_put (S N b : Nat) (q A B : List Int) (va vb v : Value) (xs : List Int) (w : World) (h : Ord S N b q A B va vb w) (hx : Reads .i16 0 N w v xs) (hl : q.length + xs.length ≤ 4096) :
    Calls Try.prog 17 #[.pointer (some ⟨b, 0, none⟩), v] w fun e w2 => e = .returned (.int .i64 0) ∧ Below N w w2 ∧ Ord w2.heap.size N b (q ++ xs) A B va vb w2 := by
  have hN := h.size
  obtain ⟨r, i, o, hs, ha, hb, hd, hn, l1, l2, l3, l4⟩ := h
  obtain ⟨u, hbk, _⟩ := id hs
  refine (Put_ok b r 4096 q 0 N v xs w hs hx (by omega)).mono ?_
  rintro e w2 ⟨rfl, r', hs2, hb2, hr'⟩
  have s2 := hb2.size
  refine ⟨rfl, hb2.below hn.1 hn.2.1 hN, r', i, o, hs2, ha.keep_obj hbk (by decide) fun hi => hb2.block i (by omega) hi (fun e => hi (hd.1 e)), hb.keep_obj hbk (by decide) fun hi => hb2.block o (by omega) hi (fun e => hi (hd.2.1 e)), ⟨fun e => ?_, fun e => ?_, hd.2.2⟩, ⟨hn.1, by omega, hn.2.2.1, hn.2.2.2⟩, by omega, by omega, by omega, by omega⟩
  · rcases hr' with rfl | hr'
    · exact hd.1 e
    · omega
  · rcases hr' with rfl | hr'
    · exact hd.2.1 e
    · omega

theorem ord_full (S N b : Nat) (q A B : List Int) (va vb v : Value) (xs : List Int) (w : World) (h : Ord S N b q A B va vb w) (hx : Reads .i16 0 N w v xs) (hl : 4096 < q.length + xs.length) :
    Calls Try.prog 17 #[.pointer (some ⟨b, 0, none⟩), v] w fun e w2 => e = .returned (.int .i64 270) ∧ Below N w w2 ∧ Ord S N b q A B va vb w2 := by
  obtain ⟨r, i, o, hs, hr⟩ := h
  refine (Put_full b r 4096 q 0 N v xs w hs hx (by omega)).mono ?_
  rintro e w2 ⟨rfl, m, rfl⟩
  exact ⟨rfl, below_drewN (Below.refl _ _) m, r, i, o, hs, hr⟩

theorem ord_take (S N b T : Nat) (n : Int) (q A B : List Int) (va vb : Value) (w : World) (h : Ord S N b q A B va vb w) (hT : n = T) (hT4 : T ≤ 4096) :
    Calls Try.prog 19 #[.pointer (some ⟨b, 0, none⟩), .int .i64 n] w fun e w2 => ∃ a c, e = .returned (.slice a T c) ∧ Reads .i16 w.heap.size w2.heap.size w2 (.slice a T c) (M.tk T q) ∧ Below N w w2 ∧ Ord S N b (q.drop T) A B va vb w2 ∧ w.heap.size ≤ w2.heap.size := by
  have hN := h.size
  obtain ⟨r, i, o, hs, ha, hb, hd, hn, l1, l2, l3, l4⟩ := h
  obtain ⟨u, hbk, _⟩ := id hs
  refine (Take_all b r 4096 n T q w hs (by omega)).mono ?_
  rintro e w2 ⟨v, rfl, hr, hs2, hb2⟩
  obtain ⟨a, c, rfl⟩ := hr.form
  rw [M.tk_length] at hr ⊢
  have s2 := hb2.size
  exact ⟨a, c, rfl, hr, hb2.below hn.1 hN, ⟨r, i, o, hs2, ha.keep_obj hbk (by decide) fun hi => hb2.block i (by omega) hi, hb.keep_obj hbk (by decide) fun hi => hb2.block o (by omega) hi, hd, hn, by omega, by omega, by omega, by omega⟩, s2⟩

theorem ord_len (S N b : Nat) (q A B : List Int) (va vb : Value) (w : World) (h : Ord S N b q A B va vb w) : Calls Try.prog 22 #[.pointer (some ⟨b, 0, none⟩)] w fun e w' => e = .returned (.int .i64 q.length) ∧ w' = w := by
  obtain ⟨r, i, o, hs, _⟩ := h
  exact Len_any b r 4096 q w hs

/-- a queue, to be appended to -/
theorem grow_obj {w : World} {b i : Nat} {v : Value} {zs : List Int} {cur : Array Value} {t : TypeId} (h : Que w i v zs) (hb : Blk w b cur t) (ht : t ≠ 51) : ∃ i0, Que w i0 v zs ∧ (i0 = i ∨ i0 = w.heap.size) ∧ ∀ i' v' w' zs', Que w' i' v' zs' → But i0 w w' → (i' = i0 ∨ i' = w.heap.size) →
    (∀ k, k < w.heap.size → k ≠ i ∨ k = b → w'.heap[k]? = w.heap[k]?) ∧ w.heap.size ≤ w'.heap.size ∧ ∃ i5, Que w' i5 v' zs' ∧ (i5 = i ∨ i5 = b ∨ (w.heap.size ≤ i5 ∧ i5 < w'.heap.size)) := by
  have hlt := hb.lt
  by_cases hi : i = b
  · subst hi
    obtain ⟨rfl, rfl⟩ := h.at_obj hb ht
    refine ⟨w.heap.size, Que.nil _ _, .inr rfl, fun i' v' w' zs' hq hb2 hr => ⟨fun k hk _ => hb2.block k hk (by omega), hb2.size, ?_⟩⟩
    rcases id hq.2 with h' | ⟨o, cap, cur', _, hbk, _⟩
    · exact ⟨i, ⟨hq.1, .inl h'⟩, .inl rfl⟩
    · exact ⟨i', hq, .inr (.inr ⟨by omega, hbk.lt⟩)⟩
  · refine ⟨i, h, .inl rfl, fun i' v' w' zs' hq hb2 hr => ⟨fun k hk hki => hb2.block k hk (by omega), hb2.size, ?_⟩⟩
    rcases id hq.2 with h' | ⟨o, cap, cur', _, hbk, _⟩
    · exact ⟨b, ⟨hq.1, .inl h'⟩, .inr (.inl rfl)⟩
    · refine ⟨i', hq, ?_⟩
      have := hbk.lt
      omega

theorem ord_in {S N b : Nat} {q A B : List Int} {va vb : Value} {w : World} (h : Ord S N b q A B va vb w) : ∃ i0, Que w i0 va A ∧ ∀ i' v' w' A', Que w' i' v' A' → But i0 w w' → (i' = i0 ∨ i' = w.heap.size) → Below N w w' ∧ Ord w'.heap.size N b q A' B v' vb w' := by
  have hN := h.size
  obtain ⟨r, i, o, hs, ha, hb, hd, hn, l1, l2, l3, l4⟩ := h
  obtain ⟨u, hbk, hq, hm⟩ := hs
  obtain ⟨i0, hq0, _, hg⟩ := grow_obj ha hbk (by decide)
  have lb := hbk.lt
  refine ⟨i0, hq0, fun i' v' w' A' hq' hb' hr' => ?_⟩
  obtain ⟨hk, hs', i5, hq5, h5⟩ := hg i' v' w' A' hq' hb' hr'
  have bel : Below N w w' := ⟨hb'.os, hb'.tape, hb'.output, hs', fun k hkN => hk k (by omega) (.inl (by omega))⟩
  have kr : r ≠ b → w'.heap[r]? = w.heap[r]? := fun hrb => hk r (by omega) (.inl (by omega))
  have ko : o ≠ b → w'.heap[o]? = w.heap[o]? := fun hob => hk o (by omega) (.inl (by omega))
  exact ⟨bel, r, i5, o, ⟨u, (hk b lb (.inr rfl)).trans hbk, hq.keep_obj hbk (by decide) kr, hm⟩, hq5, hb.keep_obj hbk (by decide) ko, ⟨by omega, hd.2.1, by omega⟩, ⟨hn.1, hn.2.1, by omega, hn.2.2.2⟩, by omega, by omega, by omega, by omega⟩

theorem ord_out {S N b : Nat} {q A B : List Int} {va vb : Value} {w : World} (h : Ord S N b q A B va vb w) : ∃ o0, Que w o0 vb B ∧ (o0 < S ∨ o0 = w.heap.size) ∧ ∀ o' v' w' B', Que w' o' v' B' → But o0 w w' → (o' = o0 ∨ o' = w.heap.size) → Below N w w' ∧ Ord w'.heap.size N b q A B' va v' w' := by
  have hN := h.size
  obtain ⟨r, i, o, hs, ha, hb, hd, hn, l1, l2, l3, l4⟩ := h
  obtain ⟨u, hbk, hq, hm⟩ := hs
  obtain ⟨o0, hq0, ho0, hg⟩ := grow_obj hb hbk (by decide)
  have lb := hbk.lt
  refine ⟨o0, hq0, by omega, fun o' v' w' B' hq' hb' hr' => ?_⟩
  obtain ⟨hk, hs', o5, hq5, h5⟩ := hg o' v' w' B' hq' hb' hr'
  have bel : Below N w w' := ⟨hb'.os, hb'.tape, hb'.output, hs', fun k hkN => hk k (by omega) (.inl (by omega))⟩
  have kr : r ≠ b → w'.heap[r]? = w.heap[r]? := fun hrb => hk r (by omega) (.inl (by omega))
  have ki : i ≠ b → w'.heap[i]? = w.heap[i]? := fun hib => hk i (by omega) (.inl (by omega))
  exact ⟨bel, r, i, o5, ⟨u, (hk b lb (.inr rfl)).trans hbk, hq.keep_obj hbk (by decide) kr, hm⟩, ha.keep_obj hbk (by decide) ki, hq5, ⟨hd.1, by omega, by omega⟩, ⟨hn.1, hn.2.1, hn.2.2.1, by omega⟩, by omega, by omega, by omega, by omega⟩

theorem ord_new (w w2 : World) (hs : Sto w2 w.heap.size w.heap.size 4096 []) (hz : w2.heap.size = w.heap.size + 1) : Ord w2.heap.size w.heap.size w.heap.size [] [] [] (.slice none 0 0) (.slice none 0 0) w2 :=
  ⟨w.heap.size, w.heap.size, w.heap.size, hs, Que.nil _ _, Que.nil _ _, by simp, by simp, by omega, by omega, by omega, by omega⟩

/-- 'x[:m]' -/
theorem head_any {lo hi : Nat} {w : World} {a : Option Addr} {l c : Nat} {zs : List Int} (h : Reads .i16 lo hi w (.slice a l c) zs) (m : Nat) (hm : m ≤ zs.length) (hc : m ≤ 1000000) : ∃ a', (∀ wx : World, (Instr.slice 22 (.slice a l c) none (some (.int .i64 (m : Int))) none).run Try.prog wx = .ok (.slice a' m c) wx) ∧ Reads .i16 lo hi w (.slice a' m c) (zs.take m) := by
  obtain ⟨a1, c1, he, hlc, hw, hx⟩ := h
  cases he
  refine ⟨if c = 0 then a else a.map (·.add 0), fun wx => ?_, ?_⟩
  · rw [run_slice_h (P := Try.prog) wx 22 a _ c (by rw [elem16]; exact Try.underlying22) .i64 m (by omega) (by omega), elem16, size16]
    show Result.ok (Go.sliced a 0 (m : Int).toNat c 1) wx = _
    unfold Go.sliced
    simp
  · refine ⟨_, c, by rw [List.length_take, Nat.min_eq_left hm], by rw [List.length_take]; omega, fun z hz => hw z (List.mem_of_mem_take hz), ?_⟩
    rcases hx with rfl | ⟨b, off, rfl, h0, h1, hcell⟩
    · exact .inl (by simp)
    · refine .inr ⟨b, off, ?_, h0, h1, fun i hi => ?_⟩
      · split
        · rfl
        · simp [add_off]
      · rw [List.length_take] at hi
        rw [M.getD_take (by omega)]
        exact hcell i (by omega)

end Pcm
end Go.Proofs.Ytnnljamkomlglaa
