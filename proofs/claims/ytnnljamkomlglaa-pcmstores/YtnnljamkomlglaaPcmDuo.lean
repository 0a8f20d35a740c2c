/-
  The program's store and the document's side by side: each call as a chain of contracts. Conditions: as told at each.
-/
import Derived.Test.YtnnljamkomlglaaPcmRefT
import Derived.Test.YtnnljamkomlglaaPcmAlive
namespace Go.Proofs.Ytnnljamkomlglaa
set_option linter.unusedVariables false
open Go.RowKit
namespace Pcm
open Bank (Blk But)
open Poly

/-- both stores, what waits is the same; all lies from block N on -/
def Duo (N bs bm : Nat) (most : Int) (q : List Int) (w : World) : Prop := ∃ rs rm, Sto w bs rs most q ∧ RSto w bm rm most q ∧ (bs ≠ bm ∧ rs ≠ bm ∧ rm ≠ bs ∧ rs ≠ rm) ∧ (N ≤ bs ∧ N ≤ bm ∧ N ≤ rs ∧ N ≤ rm) ∧ rs < w.heap.size ∧ rm < w.heap.size
theorem Duo.drew {N bs bm : Nat} {most : Int} {q : List Int} {w : World} (h : Duo N bs bm most q w) : Duo N bs bm most q w.drew := h
theorem Duo.drewN {N bs bm : Nat} {most : Int} {q : List Int} {w : World} (h : Duo N bs bm most q w) (m : Nat) : Duo N bs bm most q (w.drewN m) := h
theorem Duo.size {N bs bm : Nat} {most : Int} {q : List Int} {w : World} (h : Duo N bs bm most q w) : N ≤ w.heap.size := by
  obtain ⟨_, _, h1, _, _, ⟨h2, _⟩, _⟩ := h
  have := h1.lt; omega
theorem Duo.below {N bs bm : Nat} {most : Int} {q : List Int} {w w' : World} (h : Duo N bs bm most q w) (hb : Below w.heap.size w w') : Duo N bs bm most q w' := by
  obtain ⟨rs, rm, h1, h2, h3, h4, h5, h6⟩ := h
  have := hb.size
  exact ⟨rs, rm, h1.below hb (Nat.le_refl _), h2.below hb (Nat.le_refl _), h3, h4, by omega, by omega⟩
theorem Duo.cells {N bs bm : Nat} {most : Int} {q : List Int} {w : World} (h : Duo N bs bm most q w) : bm < w.heap.size ∧ w.frozen? ⟨bm, 1, none⟩ = false ∧ ∃ a c, w.cell? ⟨bm, 1, none⟩ = some (.slice a q.length c) := by
  obtain ⟨rs, rm, _, ⟨v, hb, hq, _⟩, _⟩ := h
  obtain ⟨a, c, rfl, _⟩ := hq.form
  exact ⟨hb.lt, hb.free 1, a, c, hb.cell rfl⟩

theorem duo_put (N bs bm : Nat) (most : Int) (q : List Int) (v : Value) (xs : List Int) (w : World) (h : Duo N bs bm most q w) (hx : Reads .i16 0 N w v xs) (hl : xs.length ≤ 5000) :
    ∃ (E : Int) (q' : List Int), Calls Try.prog 17 #[.pointer (some ⟨bs, 0, none⟩), v] w fun e w2 => e = .returned (.int .i64 E) ∧ Below N w w2 ∧ Calls Try.prog 18 #[.pointer (some ⟨bm, 0, none⟩), v] w2 fun e w3 => e = .returned (.int .i64 E) ∧ Below N w2 w3 ∧ Duo N bs bm most q' w3 := by
  have hN := h.size
  obtain ⟨rs, rm, hs, hm, hd, hn, l1, l2⟩ := h
  have b1 := hs.lt
  have b2 := hm.lt
  rcases (by omega : (q.length + xs.length : Int) ≤ most ∨ most < (q.length + xs.length : Int)) with hle | hgt
  · refine ⟨0, q ++ xs, (Put_ok bs rs most q 0 N v xs w hs hx hle).mono ?_⟩
    rintro e w2 ⟨rfl, r', hs2, hb2, hr'⟩
    have s2 := hb2.size
    have hbel : Below N w w2 := hb2.below hn.1 hn.2.2.1 hN
    have hm2 : RSto w2 bm rm most q := hm.but2 hb2 (Ne.symm hd.1) hd.2.2.1 (Ne.symm hd.2.1) (Ne.symm hd.2.2.2)
    have hx2 := hx.below hbel (Nat.le_refl _)
    refine ⟨rfl, hbel, (rPut_ok bm rm most q 0 N v xs w2 hm2 hx2 (by omega) hle).mono ?_⟩
    rintro e w3 ⟨rfl, r'', hm3, hb3, hr''⟩
    have s3 := hb3.size
    have t1 := hs2.lt
    refine ⟨rfl, hb3.below hn.2.1 (by omega), r', r'', hs2.but hb3 hd.1 (by omega), hm3, ⟨hd.1, by omega, by omega, by omega⟩, ⟨hn.1, hn.2.1, by omega, by omega⟩, by omega, by omega⟩
  · refine ⟨270, q, (Put_full bs rs most q 0 N v xs w hs hx hgt).mono ?_⟩
    rintro e w2 ⟨rfl, m, rfl⟩
    refine ⟨rfl, below_drewN (Below.refl _ _) m, (rPut_full bm rm most q 0 N v xs (w.drewN m) (hm.drewN m) (hx.drewN m) hgt (by omega)).mono ?_⟩
    rintro e w3 ⟨rfl, m', rfl⟩
    exact ⟨rfl, below_drewN (Below.refl _ _) m', rs, rm, hs, hm, hd, hn, l1, l2⟩

theorem duo_take (N bs bm : Nat) (most n : Int) (q : List Int) (w : World) (h : Duo N bs bm most q w) :
    ∃ q', Calls Try.prog 19 #[.pointer (some ⟨bs, 0, none⟩), .int .i64 n] w fun e w2 => ∃ v1, e = .returned v1 ∧ Below N w w2 ∧ Calls Try.prog 20 #[.pointer (some ⟨bm, 0, none⟩), .int .i64 n] w2 fun e w3 => ∃ v2, e = .returned v2 ∧ Below N w2 w3 ∧
      Calls Try.prog 13 #[v1, v2] w3 fun e w4 => e = .returned (.bool true) ∧ Below N w3 w4 ∧ Duo N bs bm most q' w4 := by
  have hN := h.size
  obtain ⟨rs, rm, hs, hm, hd, hn, l1, l2⟩ := h
  have b1 := hs.lt
  have b2 := hm.lt
  obtain ⟨T, hM⟩ : ∃ T : Nat, (n ≤ 0 ∧ T = 0) ∨ (0 < n ∧ n ≤ 4096 ∧ n = T) ∨ (4096 < n ∧ T = 4096) := by
    rcases (by omega : n ≤ 0 ∨ (0 < n ∧ n ≤ 4096) ∨ 4096 < n) with h | h | h
    · exact ⟨0, .inl ⟨h, rfl⟩⟩
    · exact ⟨n.toNat, .inr (.inl ⟨h.1, h.2, by omega⟩)⟩
    · exact ⟨4096, .inr (.inr ⟨h, rfl⟩)⟩
  refine ⟨q.drop T, (Take_all bs rs most n T q w hs hM).mono ?_⟩
  rintro e w2 ⟨v1, rfl, r1, hs2, hb2⟩
  have s2 := hb2.size
  have hm2 : RSto w2 bm rm most q := hm.but hb2 (Ne.symm hd.1) hd.2.2.1
  refine ⟨v1, rfl, hb2.below hn.1 hN, (rTake_all bm rm most n T q w2 hm2 hM).mono ?_⟩
  rintro e w3 ⟨v2, rfl, r2, ⟨r', hm3, hr'⟩, hb3⟩
  have s3 := hb3.size
  have t1 := hs2.lt
  have hs3 := hs2.but hb3 hd.1 hd.2.1
  have r13 := r1.but hb3 (Nat.le_refl _) (.inl b2)
  have hlen : (M.tk T q).length ≤ 1000000 := by rw [M.tk_length]; omega
  refine ⟨v2, rfl, hb3.below hn.2.1 (by omega), (same16b _ _ _ _ v1 v2 _ w3 r13 r2 hlen).mono ?_⟩
  rintro e w4 ⟨rfl, bel4, sz4⟩
  refine ⟨rfl, Bits.Below.less bel4 (by omega), rs, r', hs3.below bel4 (Nat.le_refl _), hm3.below bel4 (Nat.le_refl _), ⟨hd.1, hd.2.1, by omega, by omega⟩, ⟨hn.1, hn.2.1, hn.2.2.1, by omega⟩, by omega, by omega⟩

theorem duo_clear (N bs bm : Nat) (most : Int) (q : List Int) (w : World) (h : Duo N bs bm most q w) :
    Calls Try.prog 21 #[.pointer (some ⟨bs, 0, none⟩)] w fun e w2 => e = .returned (.tuple #[]) ∧ (∃ u, w2.cell? ⟨bm, 1, none⟩ = some u) ∧ w2.frozen? ⟨bm, 1, none⟩ = false ∧ Below N w (w2.setCell ⟨bm, 1, none⟩ (.slice none 0 0)) ∧ Duo N bs bm most [] (w2.setCell ⟨bm, 1, none⟩ (.slice none 0 0)) := by
  have hN := h.size
  obtain ⟨rs, rm, hs, hm, hd, hn, l1, l2⟩ := h
  refine (Clear_any bs rs most q w hs).mono ?_
  rintro e w2 ⟨rfl, hs2, hb2⟩
  have s2 := hb2.size
  obtain ⟨v, hb, hq, m0, m1, _⟩ := hm
  have hbm : Blk w2 bm _ _ := hb2.blk hb (Ne.symm hd.1)
  obtain ⟨v', hb', hq', m0', m1', m2'⟩ := hs2
  have hst := hbm.set 1 (.slice none 0 0)
  refine ⟨rfl, ⟨_, hbm.cell rfl⟩, hbm.free 1, (hb2.below hn.1 hN).setCell hn.2.1 _, rs, rm, ⟨v', hb'.set_ne hd.1 _, hq'.set hd.2.1 _, m0', m1', m2'⟩, ⟨_, by simpa using hst, Que.nil _ _, m0, m1, by simpa using m0⟩, hd, hn, by simp [World.setCell]; omega, by simp [World.setCell]; omega⟩

theorem duo_len (N bs bm : Nat) (most : Int) (q : List Int) (w : World) (h : Duo N bs bm most q w) : Calls Try.prog 22 #[.pointer (some ⟨bs, 0, none⟩)] w fun e w' => e = .returned (.int .i64 q.length) ∧ w' = w := by
  obtain ⟨rs, rm, hs, _⟩ := h
  exact Len_any bs rs most q w hs

/-- both are made -/
theorem duo_new (most : Int) (w w2 : World) (h0 : 0 ≤ most) (h1 : most ≤ 4096) (hs : Sto w2 w.heap.size w.heap.size most []) (hb : Below w.heap.size w w2) (hz : w2.heap.size = w.heap.size + 1) : Duo w.heap.size w.heap.size w2.heap.size most [] (w2.alloc (.cells #[.int .i64 most, .slice none 0 0] 43)) := by
  have hbn := below_new w2 (.cells #[.int .i64 most, .slice none 0 0] 43)
  exact ⟨w.heap.size, w2.heap.size, hs.below hbn (Nat.le_refl _), ⟨_, Blk.new _ _ _, Que.nil _ _, h0, h1, by simpa using h0⟩, by omega, by omega, by simp; omega, by simp⟩

end Pcm
end Go.Proofs.Ytnnljamkomlglaa
