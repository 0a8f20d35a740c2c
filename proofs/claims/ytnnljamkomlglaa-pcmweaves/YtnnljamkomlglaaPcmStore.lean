/-
  Contracts of a store's calls. Conditions: as told at each.
-/
import Derived.Test.YtnnljamkomlglaaPcmQue
import Derived.Test.YtnnljamkomlglaaPcmPart
import Derived.Deep.RegionLaw
namespace Go.Proofs.Ytnnljamkomlglaa
set_option linter.unusedVariables false
open Go.RowKit
namespace Pcm
open Bank (Blk But)
open Poly

/-- a store in block b: at most most, q waits, in block r -/
def Sto (w : World) (b r : Nat) (most : Int) (q : List Int) : Prop := ∃ v, Blk w b #[.int .i64 most, v] 56 ∧ Que w r v q ∧ 0 ≤ most ∧ most ≤ 4096 ∧ (q.length : Int) ≤ most
theorem Sto.lt {w : World} {b r : Nat} {most : Int} {q : List Int} (h : Sto w b r most q) : b < w.heap.size := by
  obtain ⟨_, h, _⟩ := h; exact h.lt
theorem Sto.len {w : World} {b r : Nat} {most : Int} {q : List Int} (h : Sto w b r most q) : q.length ≤ 4096 := by
  obtain ⟨_, _, _, _, _, _⟩ := h; omega
theorem Sto.fits {w : World} {b r : Nat} {most : Int} {q : List Int} (h : Sto w b r most q) : M.fits16 q := by
  obtain ⟨_, _, h, _⟩ := h; exact h.1
theorem Sto.but {w w' : World} {b r g : Nat} {most : Int} {q : List Int} (h : Sto w b r most q) (hb : But g w w') (h1 : b ≠ g) (h2 : r ≠ g) : Sto w' b r most q := by
  obtain ⟨v, k1, k2, k3⟩ := h
  exact ⟨v, hb.blk k1 h1, k2.but hb h2, k3⟩
theorem Sto.but2 {w w' : World} {b r g d : Nat} {most : Int} {q : List Int} (h : Sto w b r most q) (hb : Bits.But g d w w') (h1 : b ≠ g) (h2 : r ≠ g) (h3 : b ≠ d) (h4 : r ≠ d) : Sto w' b r most q := by
  obtain ⟨v, k1, k2, k3⟩ := h
  exact ⟨v, (hb.block b k1.lt h1 h3).trans k1, k2.but2 hb h2 h4, k3⟩
theorem Sto.below {w w' : World} {b r B : Nat} {most : Int} {q : List Int} (h : Sto w b r most q) (hb : Below B w w') (hB : w.heap.size ≤ B) : Sto w' b r most q := by
  obtain ⟨v, k1, k2, k3⟩ := h
  exact ⟨v, (hb.block b (by have := k1.lt; omega)).trans k1, k2.below hb hB, k3⟩
theorem Sto.drewN {w : World} {b r : Nat} {most : Int} {q : List Int} (h : Sto w b r most q) (m : Nat) : Sto (w.drewN m) b r most q := h
theorem Sto.drew {w : World} {b r : Nat} {most : Int} {q : List Int} (h : Sto w b r most q) : Sto w.drew b r most q := h

/-- a queue in an object: its block, or, where it is nil, whichever is new -/
theorem Que.pick {w : World} {r b : Nat} {v : Value} {zs : List Int} {cur : Array Value} {t : TypeId} (h : Que w r v zs) (hb : Blk w b cur t) (ht : t ≠ 51) : ∃ r0, Que w r0 v zs ∧ r0 ≠ b ∧ (r0 = r ∨ r0 = w.heap.size) := by
  rcases h.ne hb ht with rfl | hne
  · have hl := hb.lt
    have : zs = [] := by
      rcases h.2 with ⟨_, h⟩ | ⟨o, cap, cur, hv, _⟩
      · exact h
      · cases hv
    subst this
    exact ⟨w.heap.size, Que.nil _ _, by omega, .inr rfl⟩
  · exact ⟨r, h, hne, .inl rfl⟩

set_option maxRecDepth 100000 in
theorem NewStore_ok (most : Int) (w : World) (h0 : 0 ≤ most) (h1 : most ≤ 4096) :
    Calls Try.prog 16 #[.int .i64 most] w fun e w' => e = .returned (.tuple #[.pointer (some ⟨w.heap.size, 0, none⟩), .int .i64 0]) ∧ Sto w' w.heap.size w.heap.size most [] ∧ Below w.heap.size w w' ∧ w'.heap.size = w.heap.size + 1 := by
  have hS : Sto (w.alloc (.cells #[.int .i64 most, .slice none 0 0] 56)) w.heap.size w.heap.size most [] := ⟨_, Blk.new _ _ _, Que.nil _ _, h0, h1, h0⟩
  have HS : Hid _ := hS
  clear hS
  go_enter Try.func16, Try.ntmps16
  go_wp2
  go_ret2
  exact ⟨rfl, HS.out, (Below.refl _ _).alloc (Nat.le_refl _) _, by simp⟩

set_option maxRecDepth 100000 in
theorem NewStore_err (most : Int) (w : World) (h : most < 0 ∨ 4096 < most) :
    Calls Try.prog 16 #[.int .i64 most] w fun e w' => e = .returned (.tuple #[.pointer none, .int .i64 1]) ∧ w' = w := by
  rcases (by omega : most < 0 ∨ (¬ most < 0 ∧ 4096 < most)) with h | ⟨h, h'⟩
  · go_enter Try.func16, Try.ntmps16
    go_wp2
    go_ret2
    exact ⟨rfl, rfl⟩
  · go_enter Try.func16, Try.ntmps16
    go_wp2
    go_ret2
    exact ⟨rfl, rfl⟩

set_option maxRecDepth 100000 in
theorem Put_ok (b r : Nat) (most : Int) (q : List Int) (lo hi : Nat) (v : Value) (xs : List Int) (w : World) (h : Sto w b r most q) (hx : Reads .i16 lo hi w v xs) (hl : (q.length + xs.length : Int) ≤ most) :
    Calls Try.prog 17 #[.pointer (some ⟨b, 0, none⟩), v] w fun e w' => e = .returned (.int .i64 0) ∧ ∃ r', Sto w' b r' most (q ++ xs) ∧ Bits.But b r w w' ∧ (r' = r ∨ (w.heap.size ≤ r' ∧ r' < w'.heap.size)) := by
  obtain ⟨u, hb, hq, m0, m1, hlen⟩ := h
  obtain ⟨r0, hq0, hr0, hr⟩ := hq.pick hb (by decide)
  obtain ⟨a, c, rfl⟩ := hx.form
  obtain ⟨a1, c1, rfl, _⟩ := hq.form
  have y0 := hb.cell (o := 0) rfl
  have y1 := hb.cell (o := 1) rfl
  have f1 := hb.free 1
  have HB : Hid (Blk _ _ _ _) := hb
  have t1 : ¬ most - (q.length : Int) < (xs.length : Int) := by omega
  have q1 : (q.length : Int) ≤ 4096 := by omega
  have hbd : q.length + xs.length ≤ 1000000 := by omega
  have HR : Hid (Reads _ _ _ _ _ _) := hx
  have HQ : Hid (Que _ _ _ _) := hq0
  have Hbd : Hid (q.length + xs.length ≤ 1000000 ∧ (q.length + xs.length : Int) ≤ most) := ⟨hbd, hl⟩
  have Hr : Hid _ := hr
  clear hb hq hq0 hx hl hlen hbd hr
  go_enter Try.func17, Try.ntmps17
  go_wp2
  go_quiet (fail)
  go_wp2_with (at_builtin; refine wpList_append_que rfl (.tmp 24) (.tmp 25) rfl r0 _ q rfl (HQ.out.drewN nq) lo hi _ _ _ xs rfl (HR.out.drewN nq) Hbd.out.1 ?_; intro r' v' w2 hq2 hb2 hr2 hn2 hs2; obtain ⟨a2, c2, rfl, _⟩ := hq2.form; have z1 : w2.cell? ⟨b, 1, none⟩ = some (.slice a1 q.length c1) := (hb2.blk (HB.out.drewN nq) (Ne.symm hr0)).cell rfl; have z2 : w2.frozen? ⟨b, 1, none⟩ = false := (hb2.blk (HB.out.drewN nq) (Ne.symm hr0)).free 1; have HQ2 : Hid (Que _ _ _ _) := hq2; have HB2 : Hid (But _ _ _) := hb2; have HR2 : Hid (_ ∨ _) := hr2; clear hq2 hb2 hr2 hn2 hs2)
  go_ret
  have hr := Hr.out
  have hbb := HB.out
  have hb2 := HB2.out
  have hr2 : r' = r0 ∨ r' = w.heap.size := HR2.out
  have hlt := hbb.lt
  have hne : r' ≠ b := by omega
  obtain ⟨r5, hq5, hr5⟩ : ∃ r5, Que (w2.setCell ⟨b, 1, none⟩ (.slice a2 (q ++ xs).length c2)) r5 (.slice a2 (q ++ xs).length c2) (q ++ xs) ∧ (r5 = r ∨ (w.heap.size ≤ r5 ∧ r5 < w2.heap.size)) := by
    have hq := HQ2.out
    rcases id hq.2 with h' | ⟨o, cap, cur, _, hbk, _⟩
    · exact ⟨r, ⟨hq.1, .inl h'⟩, .inl rfl⟩
    · exact ⟨r', hq.set hne _, by have := hbk.lt; omega⟩
  rw [List.length_append] at hq5
  refine ⟨rfl, r5, ⟨_, ?_, hq5, m0, m1, by have := Hbd.out.2; simp; omega⟩, ⟨hb2.os, hb2.tape, hb2.output, by simpa [World.setCell] using hb2.size, fun k hk h1 h2 => ?_⟩, by simpa [World.setCell] using hr5⟩
  · have := (hb2.blk (hbb.drewN nq) (Ne.symm hr0)).set 1 (.slice a2 (q.length + xs.length) c2)
    simpa using this
  · rw [Below.heap_setCell _ _ _ _ h1]
    exact hb2.block k hk (by omega)

set_option maxRecDepth 100000 in
theorem Put_full (b r : Nat) (most : Int) (q : List Int) (lo hi : Nat) (v : Value) (xs : List Int) (w : World) (h : Sto w b r most q) (hx : Reads .i16 lo hi w v xs) (hl : most < (q.length + xs.length : Int)) :
    Calls Try.prog 17 #[.pointer (some ⟨b, 0, none⟩), v] w fun e w' => e = .returned (.int .i64 270) ∧ ∃ m, w' = w.drewN m := by
  obtain ⟨u, hb, hq, m0, m1, hlen⟩ := h
  obtain ⟨a, c, rfl⟩ := hx.form
  obtain ⟨a1, c1, rfl, _⟩ := hq.form
  have y0 := hb.cell (o := 0) rfl
  have y1 := hb.cell (o := 1) rfl
  have t1 : most - (q.length : Int) < (xs.length : Int) := by omega
  have q1 : (q.length : Int) ≤ 4096 := by omega
  clear hb hq hx hl
  go_enter Try.func17, Try.ntmps17
  go_wp2
  go_quiet (fail)
  go_wp2
  go_ret
  exact ⟨rfl, _, rfl⟩

theorem Put_nil (v : Value) (w : World) : Calls Try.prog 17 #[.pointer none, v] w fun e w' => e = .returned (.int .i64 3) ∧ w' = w := by
  go_enter Try.func17, Try.ntmps17
  go_wp2
  go_ret
  exact ⟨rfl, rfl⟩

theorem Take_nil (n : Int) (w : World) : Calls Try.prog 19 #[.pointer none, .int .i64 n] w fun e w' => e = .returned (.slice none 0 0) ∧ w' = w := by
  go_enter Try.func19, Try.ntmps19
  go_wp2
  go_ret
  exact ⟨rfl, rfl⟩

theorem Take_none (b : Nat) (n : Int) (w : World) (hn : n ≤ 0) : Calls Try.prog 19 #[.pointer (some ⟨b, 0, none⟩), .int .i64 n] w fun e w' => e = .returned (.slice none 0 0) ∧ w' = w := by
  go_enter Try.func19, Try.ntmps19
  go_wp2
  go_ret
  exact ⟨rfl, rfl⟩

theorem Clear_nil (w : World) : Calls Try.prog 21 #[.pointer none] w fun e w' => e = .returned (.tuple #[]) ∧ w' = w := by
  go_enter Try.func21, Try.ntmps21
  go_wp2
  go_end0
  exact ⟨rfl, rfl⟩

theorem Len_nil (w : World) : Calls Try.prog 22 #[.pointer none] w fun e w' => e = .returned (.int .i64 0) ∧ w' = w := by
  go_enter Try.func22, Try.ntmps22
  go_wp2
  go_ret
  exact ⟨rfl, rfl⟩

theorem Len_any (b r : Nat) (most : Int) (q : List Int) (w : World) (h : Sto w b r most q) : Calls Try.prog 22 #[.pointer (some ⟨b, 0, none⟩)] w fun e w' => e = .returned (.int .i64 q.length) ∧ w' = w := by
  obtain ⟨u, hb, hq, _⟩ := h
  obtain ⟨a1, c1, rfl, _⟩ := hq.form
  have y1 := hb.cell (o := 1) rfl
  clear hb hq
  go_enter Try.func22, Try.ntmps22
  go_wp2
  go_ret
  exact ⟨rfl, rfl⟩

theorem Clear_any (b r : Nat) (most : Int) (q : List Int) (w : World) (h : Sto w b r most q) : Calls Try.prog 21 #[.pointer (some ⟨b, 0, none⟩)] w fun e w' => e = .returned (.tuple #[]) ∧ Sto w' b r most [] ∧ But b w w' := by
  obtain ⟨u, hb, hq, m0, m1, _⟩ := h
  have y1 := hb.cell (o := 1) rfl
  have f1 := hb.free 1
  have hs := hb.set 1 (.slice none 0 0)
  have HS : Hid (Blk _ _ _ _) := hs
  clear hb hq hs
  go_enter Try.func21, Try.ntmps21
  go_wp2
  go_end0
  exact ⟨rfl, ⟨.slice none 0 0, by simpa using HS.out, Que.nil _ _, m0, m1, m0⟩, (But.refl b w).set (.inl rfl) _⟩

end Pcm
end Go.Proofs.Ytnnljamkomlglaa
