/-
  Contracts of the calls of the document's store. Conditions: as told at each.
-/
import Derived.Test.YtnnljamkomlglaaPcmTake
import Derived.Deep.AppendLies
namespace Go.Proofs.Ytnnljamkomlglaa
set_option linter.unusedVariables false
open Go.RowKit
namespace Pcm
open Bank (Blk But)
open Poly

theorem Take_all (b r : Nat) (most n : Int) (N : Nat) (q : List Int) (w : World) (h : Sto w b r most q) (hN : (n ≤ 0 ∧ N = 0) ∨ (0 < n ∧ n ≤ 4096 ∧ n = N) ∨ (4096 < n ∧ N = 4096)) :
    Calls Try.prog 19 #[.pointer (some ⟨b, 0, none⟩), .int .i64 n] w fun e w' => ∃ v, e = .returned v ∧ Reads .i16 w.heap.size w'.heap.size w' v (M.tk N q) ∧ Sto w' b r most (q.drop N) ∧ But b w w' := by
  rcases hN with ⟨h1, rfl⟩ | hN
  · refine (Take_none b n w h1).mono ?_
    rintro e w' ⟨rfl, rfl⟩
    exact ⟨_, rfl, ⟨none, 0, rfl, Nat.le_refl _, fun z hz => absurd hz (by simp [M.tk]), .inl rfl⟩, h, But.refl _ _⟩
  · refine (Take_some b r most n N q w h (by omega) (by omega)).mono ?_
    rintro e w' ⟨rfl, hb, hS, hu⟩
    have hr := reads_blk hb (fit16.2 (M.tk_fits h.fits))
    rw [M.tk_length] at hr
    exact ⟨_, rfl, hr.mono (Nat.le_refl _) (by have := hb.lt; omega), hS, hu⟩

/-- the document's store in block b: at most most, q waits, in block r -/
def RSto (w : World) (b r : Nat) (most : Int) (q : List Int) : Prop := ∃ v, Blk w b #[.int .i64 most, v] 43 ∧ Que w r v q ∧ 0 ≤ most ∧ most ≤ 4096 ∧ (q.length : Int) ≤ most
theorem RSto.lt {w : World} {b r : Nat} {most : Int} {q : List Int} (h : RSto w b r most q) : b < w.heap.size := by
  obtain ⟨_, h, _⟩ := h; exact h.lt
theorem RSto.len {w : World} {b r : Nat} {most : Int} {q : List Int} (h : RSto w b r most q) : q.length ≤ 4096 := by
  obtain ⟨_, _, _, _, _, _⟩ := h; omega
theorem RSto.fits {w : World} {b r : Nat} {most : Int} {q : List Int} (h : RSto w b r most q) : M.fits16 q := by
  obtain ⟨_, _, h, _⟩ := h; exact h.1
theorem RSto.but {w w' : World} {b r g : Nat} {most : Int} {q : List Int} (h : RSto w b r most q) (hb : But g w w') (h1 : b ≠ g) (h2 : r ≠ g) : RSto w' b r most q := by
  obtain ⟨v, k1, k2, k3⟩ := h
  exact ⟨v, hb.blk k1 h1, k2.but hb h2, k3⟩
theorem RSto.but2 {w w' : World} {b r g d : Nat} {most : Int} {q : List Int} (h : RSto w b r most q) (hb : Bits.But g d w w') (h1 : b ≠ g) (h2 : r ≠ g) (h3 : b ≠ d) (h4 : r ≠ d) : RSto w' b r most q := by
  obtain ⟨v, k1, k2, k3⟩ := h
  exact ⟨v, (hb.block b k1.lt h1 h3).trans k1, k2.but2 hb h2 h4, k3⟩
theorem RSto.below {w w' : World} {b r B : Nat} {most : Int} {q : List Int} (h : RSto w b r most q) (hb : Below B w w') (hB : w.heap.size ≤ B) : RSto w' b r most q := by
  obtain ⟨v, k1, k2, k3⟩ := h
  exact ⟨v, (hb.block b (by have := k1.lt; omega)).trans k1, k2.below hb hB, k3⟩
theorem RSto.drewN {w : World} {b r : Nat} {most : Int} {q : List Int} (h : RSto w b r most q) (m : Nat) : RSto (w.drewN m) b r most q := h
theorem RSto.drew {w : World} {b r : Nat} {most : Int} {q : List Int} (h : RSto w b r most q) : RSto w.drew b r most q := h

set_option maxRecDepth 100000 in
set_option maxHeartbeats 1000000 in
theorem rPut_ok (b r : Nat) (most : Int) (q : List Int) (lo hi : Nat) (v : Value) (xs : List Int) (w : World) (h : RSto w b r most q) (hx : Reads .i16 lo hi w v xs) (hh : hi ≤ w.heap.size) (hl : (q.length + xs.length : Int) ≤ most) :
    Calls Try.prog 18 #[.pointer (some ⟨b, 0, none⟩), v] w fun e w' => e = .returned (.int .i64 0) ∧ ∃ r', RSto w' b r' most (q ++ xs) ∧ But b w w' ∧ (r' = b ∨ (w.heap.size ≤ r' ∧ r' < w'.heap.size)) := by
  obtain ⟨u, hb, hq, m0, m1, hlen⟩ := h
  obtain ⟨a, c, rfl⟩ := hx.form
  obtain ⟨a1, c1, rfl, _⟩ := hq.form
  have y0 := hb.cell (o := 0) rfl
  have y1 := hb.cell (o := 1) rfl
  have t1 : ¬ most < (q.length : Int) + (xs.length : Int) := by omega
  have q1 : (q.length : Int) ≤ 4096 := by omega
  have q2 : (xs.length : Int) ≤ 4096 := by omega
  have HB : Hid (Blk _ _ _ _) := hb
  have HR : Hid (Reads _ _ _ _ _ _) := hx
  have HQ : Hid (Que _ _ _ _) := hq
  have Hbd : Hid (q.length + xs.length ≤ 1000000 ∧ (q.length + xs.length : Int) ≤ most) := ⟨by omega, hl⟩
  have Hlt : Hid (b < w.heap.size) := hb.lt
  have Hm : Hid (0 ≤ most ∧ most ≤ 4096) := ⟨m0, m1⟩
  clear hb hq hx hl hlen
  go_enter Try.func18, Try.ntmps18
  go_wp2
  go_quiet (fail)
  clear y0 y1
  obtain ⟨W, hW⟩ : ∃ W, W = w.drewN nq := ⟨_, rfl⟩
  rw [← hW]
  have hbW : Blk W b #[.int .i64 most, .slice a1 q.length c1] 43 := by rw [hW]; exact HB.out
  have hqW : Que W r (.slice a1 q.length c1) q := by rw [hW]; exact HQ.out
  have hxW : Reads .i16 lo hi W (.slice a xs.length c) xs := by rw [hW]; exact HR.out
  have hsW : W.heap.size = w.heap.size := by rw [hW]; rfl
  have hbut : But b w W := by rw [hW]; exact (But.refl b w).drewN nq
  have hlt := Hlt.out
  have hbA := hbW.alloc (.cells #[] 51)
  have hqA := hqW.alloc (.cells #[] 51)
  have hxA : Reads .i16 lo hi (W.alloc (.cells #[] 51)) (.slice a xs.length c) xs := hxW.keep fun k _ hk => Below.heap_alloc _ _ _ (by omega)
  have hnA : Que (W.alloc (.cells #[] 51)) W.heap.size (.slice (some ⟨W.heap.size, 0, none⟩) 0 0) [] := ⟨fun z hz => absurd hz (by simp), .inr ⟨0, 0, #[], rfl, Blk.new _ _ _, Nat.le_refl _, by decide, by simp, fun i hi => absurd hi (by simp)⟩⟩
  have y1 := hbA.cell (o := 1) rfl
  have HbA : Hid (Blk _ b _ _) := hbA
  have HqA : Hid (Que _ r _ _) := hqA
  have HxA : Hid (Reads _ _ _ _ _ _) := hxA
  have HnA : Hid (Que _ W.heap.size _ _) := hnA
  have HsW : Hid (_ = _) := hsW
  have Hbut : Hid (But b w W) := hbut
  clear hbW hqW hxW hsW hbut hlt hbA hqA hxA hnA hW
  go_wp2_with (first
    | (at_builtin; refine wpList_append_que rfl (.tmp 19) (.tmp 23) rfl W.heap.size _ [] rfl HnA.out r (r + 1) _ _ _ q rfl HqA.out.reads (by have := Hbd.out.1; simp; omega) ?_; clear HnA; intro r1 v1 w2 hq2 hb2 hr2 hn2 hs2; obtain ⟨a2, c2, rfl, _⟩ := hq2.form; have HQ2 : Hid (Que _ _ _ _) := hq2; have HB2 : Hid (But _ _ _) := hb2; have HR2 : Hid (_ ∨ _) := hr2; have HX2 : Hid (Reads .i16 lo hi w2 (.slice a xs.length c) xs) := HxA.out.keep (fun k _ hk => hb2.block k (by have := HsW.out; rw [alloc_size]; omega) (by have := HsW.out; omega)); clear hq2 hb2 hr2 hn2 hs2)
    | (at_builtin; refine wpList_append_que rfl (.tmp 24) (.tmp 25) rfl r1 _ ([] ++ q) rfl HQ2.out lo hi _ _ _ xs rfl HX2.out (by have := Hbd.out.1; simp; omega) ?_; intro r3 v3 w3 hq3 hb3 hr3 hn3 hs3; obtain ⟨a3, c3, rfl, _⟩ := hq3.form; have nb : b ≠ W.heap.size := (by have := HsW.out; have := Hlt.out; omega); have nb1 : b ≠ r1 := (by have := HsW.out; have := Hlt.out; have h : r1 = _ ∨ r1 = _ := HR2.out; rw [alloc_size] at h; omega); have k3 := hb3.blk (HB2.out.blk HbA.out nb) nb1; have z1 := k3.cell (o := 1) rfl; have z2 := k3.free 1; have K3 : Hid (Blk _ _ _ _) := k3; have HQ3 : Hid (Que _ _ _ _) := hq3; have HB3 : Hid (But _ _ _) := hb3; have HR3 : Hid (_ ∨ _) := hr3; clear hq3 hb3 hr3 hn3 hs3 k3))
  go_ret
  have s0 := HsW.out
  have hlt := Hlt.out
  have b2 := HB2.out
  have b3 := HB3.out
  have s2 := b2.size
  have s3 := b3.size
  rw [alloc_size] at s2
  have h2 : r1 = _ ∨ r1 = _ := HR2.out
  have h3 : r3 = r1 ∨ r3 = w2.heap.size := HR3.out
  rw [alloc_size] at h2
  obtain ⟨r5, hq5, hr5⟩ : ∃ r5, Que (w3.setCell ⟨b, 1, none⟩ (.slice a3 ([] ++ q ++ xs).length c3)) r5 (.slice a3 ([] ++ q ++ xs).length c3) ([] ++ q ++ xs) ∧ (r5 = b ∨ (w.heap.size ≤ r5 ∧ r5 < w3.heap.size)) := by
    have hq := HQ3.out
    rcases id hq.2 with h' | ⟨o, cap, cur, _, hbk, _⟩
    · exact ⟨b, ⟨hq.1, .inl h'⟩, .inl rfl⟩
    · exact ⟨r3, hq.set (by simp; omega) _, by have := hbk.lt; omega⟩
  rw [List.nil_append] at hq5
  refine ⟨rfl, r5, ⟨_, by simpa using K3.out.set 1 (.slice a3 (q.length + xs.length) c3), by simpa using hq5, Hm.out.1, Hm.out.2, by have := Hbd.out.2; simp; omega⟩, ?_, by simpa [World.setCell] using hr5⟩
  have u1 : But b w (W.alloc (.cells #[] 51)) := Hbut.out.alloc _
  have u2 : But b w w2 := But.but' u1 b2 (.inr (by omega))
  have u3 : But b w w3 := But.but' u2 b3 (.inr (by omega))
  exact But.set (b := b) (a := ⟨b, 1, none⟩) u3 (.inl rfl) _

set_option maxRecDepth 100000 in
theorem rPut_full (b r : Nat) (most : Int) (q : List Int) (lo hi : Nat) (v : Value) (xs : List Int) (w : World) (h : RSto w b r most q) (hx : Reads .i16 lo hi w v xs) (hl : most < (q.length + xs.length : Int)) (hm : xs.length ≤ 1000000) :
    Calls Try.prog 18 #[.pointer (some ⟨b, 0, none⟩), v] w fun e w' => e = .returned (.int .i64 270) ∧ ∃ m, w' = w.drewN m := by
  obtain ⟨u, hb, hq, m0, m1, hlen⟩ := h
  obtain ⟨a, c, rfl⟩ := hx.form
  obtain ⟨a1, c1, rfl, _⟩ := hq.form
  have y0 := hb.cell (o := 0) rfl
  have y1 := hb.cell (o := 1) rfl
  have t1 : most < (q.length : Int) + (xs.length : Int) := by omega
  have q1 : (q.length : Int) ≤ 4096 := by omega
  have q2 : (xs.length : Int) ≤ 1000000 := by omega
  clear hb hq hx hl
  go_enter Try.func18, Try.ntmps18
  go_wp2
  go_quiet (fail)
  go_wp2
  go_ret
  exact ⟨rfl, _, rfl⟩

end Pcm
end Go.Proofs.Ytnnljamkomlglaa
