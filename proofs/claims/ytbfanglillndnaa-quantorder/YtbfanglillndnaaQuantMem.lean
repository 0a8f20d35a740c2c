/-
  Planes in memory: what heads tell, what numbers tell, a plane that is being filled. Plain facts, no walk; no function of the program is in it.
-/
import Derived.Test.YtbfanglillndnaaLists
import Derived.Test.YtbfanglillndnaaQuantMath
namespace Go.Proofs.Ytbfanglillndnaa
set_option linter.unusedVariables false
open Go.RowKit
namespace Qnt
open Bank (Blk But)
open Poly (Reads cell_keep alloc_size enc enc_get)

/-- blocks of as many numbers: F tells them block by block; in blocks of memory below hi -/
def Vw (hi : Nat) (v : Value) (n C : Nat) (F : Nat → Nat → Int) (w : World) : Prop :=
  ∃ b0 o0 cp, v = .slice (some ⟨b0, o0, none⟩) n cp ∧ b0 < hi ∧ ∀ i, i < n → ∃ b1 o1 cp1, b1 < hi ∧ w.cell? ⟨b0, o0 + i, none⟩ = some (.slice (some ⟨b1, o1, none⟩) C cp1) ∧ ∀ b, b < C → w.cell? ⟨b1, o1 + b, none⟩ = some (.int .i32 (F i b))
/-- blocks of l i numbers -/
def Hd (hi : Nat) (v : Value) (n : Nat) (l : Nat → Nat) (w : World) : Prop :=
  ∃ a cp, v = .slice a n cp ∧ (n = 0 ∨ ∃ b0 o0, a = some ⟨b0, o0, none⟩ ∧ b0 < hi ∧ ∀ i, i < n → ∃ a1 c1, w.cell? ⟨b0, o0 + i, none⟩ = some (.slice a1 (l i) c1))
def PlL (n : Nat) (l : Nat → Nat) : Prop := 1 ≤ n ∧ 1 ≤ l 0 ∧ l 0 ≤ 8 ∧ ∀ j, j < n → l j = l 0
def FarL (n : Nat) (l : Nat → Nat) : Prop := 40 < n ∨ ∃ j, j < n ∧ 40 < l j
def F32 (F : Nat → Nat → Int) : Prop := ∀ i b, -2147483648 ≤ F i b ∧ F i b ≤ 2147483647
def len (zss : List (List Int)) (i : Nat) : Nat := (zss.getD i []).length
def el (zss : List (List Int)) (i b : Nat) : Int := (zss.getD i []).getD b 0

theorem not_far {n C : Nat} (n40 : n ≤ 40) (c8 : C ≤ 8) : ¬ FarL n (fun _ => C) := by
  rintro (h | ⟨j, hj, h⟩)
  · omega
  · have h' : 40 < C := h
    omega

theorem Vw.below {hi B : Nat} {v : Value} {n C : Nat} {F : Nat → Nat → Int} {w w' : World} (h : Vw hi v n C F w) (hb : Below B w w') (hB : hi ≤ B) : Vw hi v n C F w' := by
  obtain ⟨b0, o0, cp, rfl, h0, hx⟩ := h
  refine ⟨b0, o0, cp, rfl, h0, fun i hi => ?_⟩
  obtain ⟨b1, o1, c1, h1, h2, h3⟩ := hx i hi
  exact ⟨b1, o1, c1, h1, (cell_keep (hb.block b0 (by omega))).trans h2, fun b hbC => (cell_keep (hb.block b1 (by omega))).trans (h3 b hbC)⟩
theorem Vw.mono {hi hi' : Nat} {v : Value} {n C : Nat} {F : Nat → Nat → Int} {w : World} (h : Vw hi v n C F w) (hh : hi ≤ hi') : Vw hi' v n C F w := by
  obtain ⟨b0, o0, cp, rfl, h0, hx⟩ := h
  refine ⟨b0, o0, cp, rfl, by omega, fun i hi => ?_⟩
  obtain ⟨b1, o1, c1, h1, h2⟩ := hx i hi
  exact ⟨b1, o1, c1, by omega, h2⟩
theorem Vw.hd {hi : Nat} {v : Value} {n C : Nat} {F : Nat → Nat → Int} {w : World} (h : Vw hi v n C F w) : Hd hi v n (fun _ => C) w := by
  obtain ⟨b0, o0, cp, rfl, h0, hx⟩ := h
  refine ⟨_, cp, rfl, .inr ⟨b0, o0, rfl, h0, fun i hi => ?_⟩⟩
  obtain ⟨b1, o1, c1, h1, h2, _⟩ := hx i hi
  exact ⟨_, _, h2⟩
theorem Vw.form {hi : Nat} {v : Value} {n C : Nat} {F : Nat → Nat → Int} {w : World} (h : Vw hi v n C F w) : ∃ b0 o0 cp, v = .slice (some ⟨b0, o0, none⟩) n cp := by
  obtain ⟨b0, o0, cp, h, _⟩ := h; exact ⟨b0, o0, cp, h⟩
theorem Vw.at {hi : Nat} {a : Option Addr} {l c : Nat} {n C : Nat} {F : Nat → Nat → Int} {w : World} (h : Vw hi (.slice a l c) n C F w) : ∃ b0 o0, a = some ⟨b0, o0, none⟩ ∧ l = n ∧ b0 < hi ∧ ∀ i, i < n → ∃ b1 o1 cp1, b1 < hi ∧ w.cell? ⟨b0, o0 + i, none⟩ = some (.slice (some ⟨b1, o1, none⟩) C cp1) ∧ ∀ b, b < C → w.cell? ⟨b1, o1 + b, none⟩ = some (.int .i32 (F i b)) := by
  obtain ⟨b0, o0, cp, he, h⟩ := h
  cases he
  exact ⟨b0, o0, rfl, rfl, h⟩
/-- what a plane holds in every world that keeps what was there -/
theorem Vw.all {hi B : Nat} {b0 o0 cp l : Nat} {n C : Nat} {F : Nat → Nat → Int} {w : World} (h : Vw hi (.slice (some ⟨b0, o0, none⟩) l cp) n C F w) (hB : hi ≤ B) :
    ∀ i, i < n → ∃ b1 o1 cp1, b1 < B ∧ ∀ wx, Below B w wx → wx.cell? ⟨b0, o0 + i, none⟩ = some (.slice (some ⟨b1, o1, none⟩) C cp1) ∧ ∀ k, k < C → wx.cell? ⟨b1, o1 + k, none⟩ = some (.int .i32 (F i k)) := fun i hi' => by
  obtain ⟨b0', o0', he, _, h0, hx⟩ := h.at
  cases he
  obtain ⟨b1, o1, c1, h1, h2, h3⟩ := hx i hi'
  exact ⟨b1, o1, c1, by omega, fun wx hb => ⟨(cell_keep (hb.block b0 (by omega))).trans h2, fun k hk => (cell_keep (hb.block b1 (by omega))).trans (h3 k hk)⟩⟩
theorem Hd.form {hi : Nat} {v : Value} {n : Nat} {l : Nat → Nat} {w : World} (h : Hd hi v n l w) : ∃ a cp, v = .slice a n cp := by
  obtain ⟨a, cp, h, _⟩ := h; exact ⟨a, cp, h⟩
theorem Hd.at {hi : Nat} {a : Option Addr} {k c : Nat} {n : Nat} {l : Nat → Nat} {w : World} (h : Hd hi (.slice a k c) n l w) (hn : 0 < n) : ∃ b0 o0, a = some ⟨b0, o0, none⟩ ∧ b0 < hi ∧ ∀ i, i < n → ∃ a1 c1, w.cell? ⟨b0, o0 + i, none⟩ = some (.slice a1 (l i) c1) := by
  obtain ⟨a', cp, he, h⟩ := h
  cases he
  rcases h with rfl | h
  · omega
  · exact h
theorem Hd.below {hi B : Nat} {v : Value} {n : Nat} {l : Nat → Nat} {w w' : World} (h : Hd hi v n l w) (hb : Below B w w') (hB : hi ≤ B) : Hd hi v n l w' := by
  obtain ⟨a, cp, rfl, h⟩ := h
  refine ⟨a, cp, rfl, ?_⟩
  rcases h with h | ⟨b0, o0, rfl, h0, hx⟩
  · exact .inl h
  · refine .inr ⟨b0, o0, rfl, h0, fun i hi => ?_⟩
    obtain ⟨a1, c1, h⟩ := hx i hi
    exact ⟨a1, c1, (cell_keep (hb.block b0 (by omega))).trans h⟩

/-- rows that are handed in -/
theorem rows_hd {hi : Nat} {v : Value} {zss : List (List Int)} {w : World} (h : Poly.Rows .i32 0 hi w v zss) : Hd hi v zss.length (len zss) w := by
  obtain ⟨a, cp, rfl, _, h⟩ := h
  refine ⟨a, cp, rfl, ?_⟩
  rcases h with rfl | ⟨b0, o0, rfl, _, h0, hx⟩
  · exact .inl rfl
  · refine .inr ⟨b0, o0, rfl, h0, fun i hi => ?_⟩
    obtain ⟨u, hu, hr⟩ := hx i hi
    obtain ⟨a1, c1, rfl⟩ := hr.form
    exact ⟨a1, c1, hu⟩
theorem rows_vw {hi : Nat} {v : Value} {zss : List (List Int)} {w : World} (h : Poly.Rows .i32 0 hi w v zss) (hp : PlL zss.length (len zss)) : Vw hi v zss.length (len zss 0) (el zss) w := by
  obtain ⟨h1, h2, h3, h4⟩ := hp
  obtain ⟨a, cp, rfl, _, h⟩ := h
  rcases h with rfl | ⟨b0, o0, rfl, _, h0, hx⟩
  · exact absurd h1 (by simp)
  · refine ⟨b0, o0, cp, rfl, h0, fun i hi => ?_⟩
    obtain ⟨u, hu, hr⟩ := hx i hi
    have hl := h4 i hi
    have hlen : (zss.getD i []).length = len zss 0 := hl
    obtain ⟨a1, c1, rfl⟩ := hr.form
    obtain ⟨b1, o1, rfl, _, k1, kx⟩ := hr.cell (by omega)
    rw [hlen] at hu
    exact ⟨b1, o1, c1, k1, hu, fun b hb => kx b (by omega)⟩
theorem rows_fit {hi : Nat} {v : Value} {zss : List (List Int)} {w : World} (h : Poly.Rows .i32 0 hi w v zss) : F32 (el zss) := by
  intro i b
  unfold el
  by_cases hi' : i < zss.length
  · obtain ⟨a, cp, rfl, _, h⟩ := h
    rcases h with rfl | ⟨b0, o0, rfl, _, h0, hx⟩
    · simp at hi'
    · obtain ⟨u, hu, hr⟩ := hx i hi'
      obtain ⟨_, _, _, _, hw, _⟩ := hr
      by_cases hb : b < (zss.getD i []).length
      · have e : (zss.getD i []).getD b 0 = (zss.getD i [])[b] := by rw [List.getD_eq_getElem?_getD, List.getElem?_eq_getElem hb]; rfl
        rw [e]
        exact Poly.wf32.1 (hw _ (List.getElem_mem hb))
      · have e : (zss.getD i []).getD b 0 = 0 := by rw [List.getD_eq_getElem?_getD, List.getElem?_eq_none (by omega)]; rfl
        rw [e]; decide
  · have e : zss.getD i [] = [] := by rw [List.getD_eq_getElem?_getD, List.getElem?_eq_none (by omega)]; rfl
    rw [e]; simp

/-- a plane that is being filled: heads in block a, n blocks of C numbers behind it, the first k told -/
structure Pln (a n C k : Nat) (F : Nat → Nat → Int) (w : World) : Prop where
  head : ∃ hd : Array Value, Blk w a hd 52 ∧ hd.size = n ∧ ∀ i, i < n → hd[i]? = some (.slice (some ⟨a + 1 + i, 0, none⟩) C C)
  row : ∀ i, i < n → ∃ tab : Array Value, Blk w (a + 1 + i) tab 21 ∧ tab.size = C ∧ ∀ b, b < C → i * C + b < k → tab[b]? = some (.int .i32 (F i b))
theorem Pln.keep {a n C k : Nat} {F : Nat → Nat → Int} {w w' : World} (h : Pln a n C k F w) (hk : ∀ b, a ≤ b → b ≤ a + n → w'.heap[b]? = w.heap[b]?) : Pln a n C k F w' := by
  obtain ⟨⟨hd, h1, h2⟩, h3⟩ := h
  refine ⟨⟨hd, (hk a (Nat.le_refl _) (by omega)).trans h1, h2⟩, fun c hc => ?_⟩
  obtain ⟨tab, t1, t2⟩ := h3 c hc
  exact ⟨tab, (hk _ (by omega) (by omega)).trans t1, t2⟩
theorem Pln.lt {a n C k : Nat} {F : Nat → Nat → Int} {w : World} (h : Pln a n C k F w) : a + n < w.heap.size := by
  rcases Nat.eq_zero_or_pos n with h0 | h0
  · obtain ⟨⟨hd, h1, _⟩, _⟩ := h
    have := h1.lt; omega
  · obtain ⟨tab, t1, _⟩ := h.row (n - 1) (by omega)
    have := t1.lt; omega
theorem Pln.below {a n C k B : Nat} {F : Nat → Nat → Int} {w w' : World} (h : Pln a n C k F w) (hb : Below B w w') (hB : a + n < B) : Pln a n C k F w' := h.keep fun b h0 h1 => hb.block b (by omega)
theorem Pln.drewN {a n C k : Nat} {F : Nat → Nat → Int} {w : World} (h : Pln a n C k F w) (m : Nat) : Pln a n C k F (w.drewN m) := ⟨h.head, h.row⟩
theorem Pln.at_head {a n C k : Nat} {F : Nat → Nat → Int} {w : World} (h : Pln a n C k F w) {i : Nat} (hi : i < n) : w.cell? ⟨a, i, none⟩ = some (.slice (some ⟨a + 1 + i, 0, none⟩) C C) := by
  obtain ⟨⟨hd, h1, _, h2⟩, _⟩ := h
  exact h1.cell (h2 i hi)
theorem Pln.free {a n C k : Nat} {F : Nat → Nat → Int} {w : World} (h : Pln a n C k F w) {i b : Nat} (hi : i < n) (hb : b < C) : (∃ u, w.cell? ⟨a + 1 + i, b, none⟩ = some u) ∧ w.frozen? ⟨a + 1 + i, b, none⟩ = false := by
  obtain ⟨tab, t1, t2, _⟩ := h.row i hi
  exact ⟨⟨tab[b]'(by omega), t1.cell (by simp [t2, hb])⟩, t1.free b⟩
theorem Pln.set_ne {a n C k : Nat} {F : Nat → Nat → Int} {w : World} (h : Pln a n C k F w) {p : Addr} (hp : p.block < a ∨ a + n < p.block) (v : Value) : Pln a n C k F (w.setCell p v) :=
  h.keep fun b h0 h1 => Below.heap_setCell _ _ _ _ (by omega)
/-- one number more is told -/
theorem Pln.step {a n C : Nat} {F : Nat → Nat → Int} {w : World} {i b : Nat} (h : Pln a n C (i * C + b) F w) (hi : i < n) (hb : b < C) {x : Int} (hx : x = F i b) : Pln a n C (i * C + (b + 1)) F (w.setCell ⟨a + 1 + i, b, none⟩ (.int .i32 x)) := by
  obtain ⟨⟨hd, h1, h2⟩, h3⟩ := h
  refine ⟨⟨hd, h1.set_ne (by show a ≠ a + 1 + i; omega) _, h2⟩, fun i' hi' => ?_⟩
  obtain ⟨tab, t1, t2, t3⟩ := h3 i' hi'
  by_cases e : i' = i
  · subst e
    refine ⟨_, t1.set b _, by simpa using t2, fun b' hb' hk => ?_⟩
    rw [Array.getElem?_setIfInBounds]
    split
    · rename_i e; subst e; rw [if_pos (by omega), hx]
    · exact t3 b' hb' (by omega)
  · refine ⟨tab, t1.set_ne (by show a + 1 + i' ≠ a + 1 + i; omega) _, t2, fun b' hb' hk => t3 b' hb' ?_⟩
    rcases Nat.lt_or_ge i' i with hlt | hge
    · have : (i' + 1) * C ≤ i * C := Nat.mul_le_mul_right C hlt
      rw [Nat.succ_mul] at this
      omega
    · have : (i + 1) * C ≤ i' * C := Nat.mul_le_mul_right C (by omega)
      rw [Nat.succ_mul] at this
      omega
theorem Pln.ext {a n C k k' : Nat} {F : Nat → Nat → Int} {w : World} (h : Pln a n C k F w) (e : k = k') : Pln a n C k' F w := e ▸ h
theorem Pln.whole {a n C : Nat} {F : Nat → Nat → Int} {w : World} (h : Pln a n C (n * C) F w) : Vw (a + n + 1) (.slice (some ⟨a, 0, none⟩) n n) n C F w := by
  refine ⟨a, 0, n, rfl, by omega, fun i hi => ?_⟩
  obtain ⟨tab, t1, t2, t3⟩ := h.row i hi
  refine ⟨a + 1 + i, 0, C, by omega, by rw [Nat.zero_add]; exact h.at_head hi, fun b hb => ?_⟩
  have : (i + 1) * C ≤ n * C := Nat.mul_le_mul_right C hi
  rw [Nat.succ_mul] at this
  rw [Nat.zero_add]
  exact t1.cell (t3 b hb (by omega))

/-- an answer yes or no, the world as it was -/
def Yes (C : Prop) (w : World) (e : Ending) (w' : World) : Prop := w' = w ∧ ((e = .returned (.bool true) ∧ C) ∨ (e = .returned (.bool false) ∧ ¬ C))
theorem Yes.yes {C : Prop} {w w' : World} {e : Ending} (h : Yes C w e w') (c : C) : e = .returned (.bool true) ∧ w' = w := by
  obtain ⟨hw, ⟨h, _⟩ | ⟨_, h⟩⟩ := h
  · exact ⟨h, hw⟩
  · exact absurd c h
theorem Yes.no {C : Prop} {w w' : World} {e : Ending} (h : Yes C w e w') (c : ¬ C) : e = .returned (.bool false) ∧ w' = w := by
  obtain ⟨hw, ⟨_, h⟩ | ⟨h, _⟩⟩ := h
  · exact absurd h c
  · exact ⟨h, hw⟩

end Qnt
end Go.Proofs.Ytbfanglillndnaa
