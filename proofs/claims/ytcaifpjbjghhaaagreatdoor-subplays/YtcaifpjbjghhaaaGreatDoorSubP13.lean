import Derived.Test.YtcaifpjbjghhaaaGreatDoorSubP12
import Derived.Test.YtcaifpjbjghhaaaGreatDoorSubP00
/-
  Planes in memory: what heads tell, what numbers tell, a plane that is being filled. Plain facts, no walk; no function of the program is in it.
-/
namespace Go.Proofs.YtcaifpjbjghhaaaGreatDoor
set_option linter.unusedVariables false
open Go.RowKit
namespace Qnt
open Bank (Blk But)
open Poly (Reads cell_keep alloc_size enc enc_get)

def Vw (hi : Nat) (v : Value) (n C : Nat) (F : Nat → Nat → Int) (w : World) : Prop :=
  ∃ b0 o0 cp, v = .slice (some ⟨b0, o0, none⟩) n cp ∧ b0 < hi ∧ ∀ i, i < n → ∃ b1 o1 cp1, b1 < hi ∧ w.cell? ⟨b0, o0 + i, none⟩ = some (.slice (some ⟨b1, o1, none⟩) C cp1) ∧ ∀ b, b < C → w.cell? ⟨b1, o1 + b, none⟩ = some (.int .i32 (F i b))
def Hd (hi : Nat) (v : Value) (n : Nat) (l : Nat → Nat) (w : World) : Prop :=
  ∃ a cp, v = .slice a n cp ∧ (n = 0 ∨ ∃ b0 o0, a = some ⟨b0, o0, none⟩ ∧ b0 < hi ∧ ∀ i, i < n → ∃ a1 c1, w.cell? ⟨b0, o0 + i, none⟩ = some (.slice a1 (l i) c1))
def PlL (n : Nat) (l : Nat → Nat) : Prop := 1 ≤ n ∧ 1 ≤ l 0 ∧ l 0 ≤ 8 ∧ ∀ j, j < n → l j = l 0
def FarL (n : Nat) (l : Nat → Nat) : Prop := 40 < n ∨ ∃ j, j < n ∧ 40 < l j
def F32 (F : Nat → Nat → Int) : Prop := ∀ i b, -2147483648 ≤ F i b ∧ F i b ≤ 2147483647
def len (zss : List (List Int)) (i : Nat) : Nat := (zss.getD i []).length
def el (zss : List (List Int)) (i b : Nat) : Int := (zss.getD i []).getD b 0

theorem not_far {n C : Nat} (n40 : n ≤ 40) (c8 : C ≤ 8) : ¬ FarL n (fun _ => C) := by
  rintro (h | ⟨j, hj, h⟩)
  · omega
  · have h' : 40 < C := h
    omega

theorem Vw.below {hi B : Nat} {v : Value} {n C : Nat} {F : Nat → Nat → Int} {w w' : World} (h : Vw hi v n C F w) (hb : Below B w w') (hB : hi ≤ B) : Vw hi v n C F w' := by
  obtain ⟨b0, o0, cp, rfl, h0, hx⟩ := h
  refine ⟨b0, o0, cp, rfl, h0, fun i hi => ?_⟩
  obtain ⟨b1, o1, c1, h1, h2, h3⟩ := hx i hi
  exact ⟨b1, o1, c1, h1, (cell_keep (hb.block b0 (by omega))).trans h2, fun b hbC => (cell_keep (hb.block b1 (by omega))).trans (h3 b hbC)⟩
theorem Vw.mono {hi hi' : Nat} {v : Value} {n C : Nat} {F : Nat → Nat → Int} {w : World} (h : Vw hi v n C F w) (hh : hi ≤ hi') : Vw hi' v n C F w := by
  obtain ⟨b0, o0, cp, rfl, h0, hx⟩ := h
  refine ⟨b0, o0, cp, rfl, by omega, fun i hi => ?_⟩
  obtain ⟨b1, o1, c1, h1, h2⟩ := hx i hi
  exact ⟨b1, o1, c1, by omega, h2⟩
theorem Vw.hd {hi : Nat} {v : Value} {n C : Nat} {F : Nat → Nat → Int} {w : World} (h : Vw hi v n C F w) : Hd hi v n (fun _ => C) w := by
  obtain ⟨b0, o0, cp, rfl, h0, hx⟩ := h
  refine ⟨_, cp, rfl, .inr ⟨b0, o0, rfl, h0, fun i hi => ?_⟩⟩
  obtain ⟨b1, o1, c1, h1, h2, _⟩ := hx i hi
  exact ⟨_, _, h2⟩
theorem Vw.form {hi : Nat} {v : Value} {n C : Nat} {F : Nat → Nat → Int} {w : World} (h : Vw hi v n C F w) : ∃ b0 o0 cp, v = .slice (some ⟨b0, o0, none⟩) n cp := by
  obtain ⟨b0, o0, cp, h, _⟩ := h; exact ⟨b0, o0, cp, h⟩
theorem Vw.at {hi : Nat} {a : Option Addr} {l c : Nat} {n C : Nat} {F : Nat → Nat → Int} {w : World} (h : Vw hi (.slice a l c) n C F w) : ∃ b0 o0, a = some ⟨b0, o0, none⟩ ∧ l = n ∧ b0 < hi ∧ ∀ i, i < n → ∃ b1 o1 cp1, b1 < hi ∧ w.cell? ⟨b0, o0 + i, none⟩ = some (.slice (some ⟨b1, o1, none⟩) C cp1) ∧ ∀ b, b < C → w.cell? ⟨b1, o1 + b, none⟩ = some (.int .i32 (F i b)) := by
  obtain ⟨b0, o0, cp, he, h⟩ := h
  cases he
  exact ⟨b0, o0, rfl, rfl, h⟩
theorem Vw.all {hi B : Nat} {b0 o0 cp l : Nat} {n C : Nat} {F : Nat → Nat → Int} {w : World} (h : Vw hi (.slice (some ⟨b0, o0, none⟩) l cp) n C F w) (hB : hi ≤ B) :
    ∀ i, i < n → ∃ b1 o1 cp1, b1 < B ∧ ∀ wx, Below B w wx → wx.cell? ⟨b0, o0 + i, none⟩ = some (.slice (some ⟨b1, o1, none⟩) C cp1) ∧ ∀ k, k < C → wx.cell? ⟨b1, o1 + k, none⟩ = some (.int .i32 (F i k)) := fun i hi' => by
  obtain ⟨b0', o0', he, _, h0, hx⟩ := h.at
  cases he
  obtain ⟨b1, o1, c1, h1, h2, h3⟩ := hx i hi'
  exact ⟨b1, o1, c1, by omega, fun wx hb => ⟨(cell_keep (hb.block b0 (by omega))).trans h2, fun k hk => (cell_keep (hb.block b1 (by omega))).trans (h3 k hk)⟩⟩
theorem Hd.form {hi : Nat} {v : Value} {n : Nat} {l : Nat → Nat} {w : World} (h : Hd hi v n l w) : ∃ a cp, v = .slice a n cp := by
  obtain ⟨a, cp, h, _⟩ := h; exact ⟨a, cp, h⟩
theorem Hd.at {hi : Nat} {a : Option Addr} {k c : Nat} {n : Nat} {l : Nat → Nat} {w : World} (h : Hd hi (.slice a k c) n l w) (hn : 0 < n) : ∃ b0 o0, a = some ⟨b0, o0, none⟩ ∧ b0 < hi ∧ ∀ i, i < n → ∃ a1 c1, w.cell? ⟨b0, o0 + i, none⟩ = some (.slice a1 (l i) c1) := by
  obtain ⟨a', cp, he, h⟩ := h
  cases he
  rcases h with rfl | h
  · omega
  · exact h
theorem Hd.below {hi B : Nat} {v : Value} {n : Nat} {l : Nat → Nat} {w w' : World} (h : Hd hi v n l w) (hb : Below B w w') (hB : hi ≤ B) : Hd hi v n l w' := by
  obtain ⟨a, cp, rfl, h⟩ := h
  refine ⟨a, cp, rfl, ?_⟩
  rcases h with h | ⟨b0, o0, rfl, h0, hx⟩
  · exact .inl h
  · refine .inr ⟨b0, o0, rfl, h0, fun i hi => ?_⟩
    obtain ⟨a1, c1, h⟩ := hx i hi
    exact ⟨a1, c1, (cell_keep (hb.block b0 (by omega))).trans h⟩

theorem rows_hd {hi : Nat} {v : Value} {zss : List (List Int)} {w : World} (h : Poly.Rows .i32 0 hi w v zss) : Hd hi v zss.length (len zss) w := by
  obtain ⟨a, cp, rfl, _, h⟩ := h
  refine ⟨a, cp, rfl, ?_⟩
  rcases h with rfl | ⟨b0, o0, rfl, _, h0, hx⟩
  · exact .inl rfl
  · refine .inr ⟨b0, o0, rfl, h0, fun i hi => ?_⟩
    obtain ⟨u, hu, hr⟩ := hx i hi
    obtain ⟨a1, c1, rfl⟩ := hr.form
    exact ⟨a1, c1, hu⟩
theorem rows_fit {hi : Nat} {v : Value} {zss : List (List Int)} {w : World} (h : Poly.Rows .i32 0 hi w v zss) : F32 (el zss) := by
  intro i b
  unfold el
  by_cases hi' : i < zss.length
  · obtain ⟨a, cp, rfl, _, h⟩ := h
    rcases h with rfl | ⟨b0, o0, rfl, _, h0, hx⟩
    · simp at hi'
    · obtain ⟨u, hu, hr⟩ := hx i hi'
      obtain ⟨_, _, _, _, hw, _⟩ := hr
      by_cases hb : b < (zss.getD i []).length
      · have e : (zss.getD i []).getD b 0 = (zss.getD i [])[b] := by rw [List.getD_eq_getElem?_getD, List.getElem?_eq_getElem hb]; rfl
        rw [e]
        exact Poly.wf32.1 (hw _ (List.getElem_mem hb))
      · have e : (zss.getD i []).getD b 0 = 0 := by rw [List.getD_eq_getElem?_getD, List.getElem?_eq_none (by omega)]; rfl
        rw [e]; decide
  · have e : zss.getD i [] = [] := by rw [List.getD_eq_getElem?_getD, List.getElem?_eq_none (by omega)]; rfl
    rw [e]; simp

structure Pln (a n C k : Nat) (F : Nat → Nat → Int) (w : World) : Prop where
  head : ∃ hd : Array Value, Blk w a hd 97 ∧ hd.size = n ∧ ∀ i, i < n → hd[i]? = some (.slice (some ⟨a + 1 + i, 0, none⟩) C C)
  row : ∀ i, i < n → ∃ tab : Array Value, Blk w (a + 1 + i) tab 21 ∧ tab.size = C ∧ ∀ b, b < C → i * C + b < k → tab[b]? = some (.int .i32 (F i b))
theorem Pln.keep {a n C k : Nat} {F : Nat → Nat → Int} {w w' : World} (h : Pln a n C k F w) (hk : ∀ b, a ≤ b → b ≤ a + n → w'.heap[b]? = w.heap[b]?) : Pln a n C k F w' := by
  obtain ⟨⟨hd, h1, h2⟩, h3⟩ := h
  refine ⟨⟨hd, (hk a (Nat.le_refl _) (by omega)).trans h1, h2⟩, fun c hc => ?_⟩
  obtain ⟨tab, t1, t2⟩ := h3 c hc
  exact ⟨tab, (hk _ (by omega) (by omega)).trans t1, t2⟩
theorem Pln.lt {a n C k : Nat} {F : Nat → Nat → Int} {w : World} (h : Pln a n C k F w) : a + n < w.heap.size := by
  rcases Nat.eq_zero_or_pos n with h0 | h0
  · obtain ⟨⟨hd, h1, _⟩, _⟩ := h
    have := h1.lt; omega
  · obtain ⟨tab, t1, _⟩ := h.row (n - 1) (by omega)
    have := t1.lt; omega
theorem Pln.below {a n C k B : Nat} {F : Nat → Nat → Int} {w w' : World} (h : Pln a n C k F w) (hb : Below B w w') (hB : a + n < B) : Pln a n C k F w' := h.keep fun b h0 h1 => hb.block b (by omega)
theorem Pln.drewN {a n C k : Nat} {F : Nat → Nat → Int} {w : World} (h : Pln a n C k F w) (m : Nat) : Pln a n C k F (w.drewN m) := ⟨h.head, h.row⟩
theorem Pln.at_head {a n C k : Nat} {F : Nat → Nat → Int} {w : World} (h : Pln a n C k F w) {i : Nat} (hi : i < n) : w.cell? ⟨a, i, none⟩ = some (.slice (some ⟨a + 1 + i, 0, none⟩) C C) := by
  obtain ⟨⟨hd, h1, _, h2⟩, _⟩ := h
  exact h1.cell (h2 i hi)
theorem Pln.free {a n C k : Nat} {F : Nat → Nat → Int} {w : World} (h : Pln a n C k F w) {i b : Nat} (hi : i < n) (hb : b < C) : (∃ u, w.cell? ⟨a + 1 + i, b, none⟩ = some u) ∧ w.frozen? ⟨a + 1 + i, b, none⟩ = false := by
  obtain ⟨tab, t1, t2, _⟩ := h.row i hi
  exact ⟨⟨tab[b]'(by omega), t1.cell (by simp [t2, hb])⟩, t1.free b⟩
theorem Pln.set_ne {a n C k : Nat} {F : Nat → Nat → Int} {w : World} (h : Pln a n C k F w) {p : Addr} (hp : p.block < a ∨ a + n < p.block) (v : Value) : Pln a n C k F (w.setCell p v) :=
  h.keep fun b h0 h1 => Below.heap_setCell _ _ _ _ (by omega)
theorem Pln.step {a n C : Nat} {F : Nat → Nat → Int} {w : World} {i b : Nat} (h : Pln a n C (i * C + b) F w) (hi : i < n) (hb : b < C) {x : Int} (hx : x = F i b) : Pln a n C (i * C + (b + 1)) F (w.setCell ⟨a + 1 + i, b, none⟩ (.int .i32 x)) := by
  obtain ⟨⟨hd, h1, h2⟩, h3⟩ := h
  refine ⟨⟨hd, h1.set_ne (by show a ≠ a + 1 + i; omega) _, h2⟩, fun i' hi' => ?_⟩
  obtain ⟨tab, t1, t2, t3⟩ := h3 i' hi'
  by_cases e : i' = i
  · subst e
    refine ⟨_, t1.set b _, by simpa using t2, fun b' hb' hk => ?_⟩
    rw [Array.getElem?_setIfInBounds]
    split
    · rename_i e; subst e; rw [if_pos (by omega), hx]
    · exact t3 b' hb' (by omega)
  · refine ⟨tab, t1.set_ne (by show a + 1 + i' ≠ a + 1 + i; omega) _, t2, fun b' hb' hk => t3 b' hb' ?_⟩
    rcases Nat.lt_or_ge i' i with hlt | hge
    · have : (i' + 1) * C ≤ i * C := Nat.mul_le_mul_right C hlt
      rw [Nat.succ_mul] at this
      omega
    · have : (i + 1) * C ≤ i' * C := Nat.mul_le_mul_right C (by omega)
      rw [Nat.succ_mul] at this
      omega
theorem Pln.ext {a n C k k' : Nat} {F : Nat → Nat → Int} {w : World} (h : Pln a n C k F w) (e : k = k') : Pln a n C k' F w := e ▸ h
theorem Pln.whole {a n C : Nat} {F : Nat → Nat → Int} {w : World} (h : Pln a n C (n * C) F w) : Vw (a + n + 1) (.slice (some ⟨a, 0, none⟩) n n) n C F w := by
  refine ⟨a, 0, n, rfl, by omega, fun i hi => ?_⟩
  obtain ⟨tab, t1, t2, t3⟩ := h.row i hi
  refine ⟨a + 1 + i, 0, C, by omega, by rw [Nat.zero_add]; exact h.at_head hi, fun b hb => ?_⟩
  have : (i + 1) * C ≤ n * C := Nat.mul_le_mul_right C hi
  rw [Nat.succ_mul] at this
  rw [Nat.zero_add]
  exact t1.cell (t3 b hb (by omega))

def Yes (C : Prop) (w : World) (e : Ending) (w' : World) : Prop := w' = w ∧ ((e = .returned (.bool true) ∧ C) ∨ (e = .returned (.bool false) ∧ ¬ C))
theorem Yes.yes {C : Prop} {w w' : World} {e : Ending} (h : Yes C w e w') (c : C) : e = .returned (.bool true) ∧ w' = w := by
  obtain ⟨hw, ⟨h, _⟩ | ⟨_, h⟩⟩ := h
  · exact ⟨h, hw⟩
  · exact absurd c h
theorem Yes.no {C : Prop} {w w' : World} {e : Ending} (h : Yes C w e w') (c : ¬ C) : e = .returned (.bool false) ∧ w' = w := by
  obtain ⟨hw, ⟨_, h⟩ | ⟨h, _⟩⟩ := h
  · exact absurd h c
  · exact ⟨h, hw⟩

end Qnt
end Go.Proofs.YtcaifpjbjghhaaaGreatDoor

/-
  Lists of lists of lists of numbers in memory: what is only read (V1, V2, V3), what was made and may be written (Grd, Cub), their lengths (L3). Plain facts, no walk; no function of the program is in it.
-/
namespace Go.Proofs.YtcaifpjbjghhaaaGreatDoor
set_option linter.unusedVariables false
open Go.RowKit
namespace Sub
open Bank (Blk But)
open Poly (Reads cell_keep alloc_size enc enc_get)

def V1 (k : IntKind) (hi : Nat) (v : Value) (C : Nat) (f : Nat → Int) (w : World) : Prop :=
  ∃ b o c, v = .slice (some ⟨b, o, none⟩) C c ∧ C ≤ c ∧ b < hi ∧ ∀ j, j < C → w.cell? ⟨b, o + j, none⟩ = some (.int k (f j))
def V2 (k : IntKind) (hi : Nat) (v : Value) (n C : Nat) (F : Nat → Nat → Int) (w : World) : Prop :=
  ∃ b o c, v = .slice (some ⟨b, o, none⟩) n c ∧ n ≤ c ∧ b < hi ∧ ∀ i, i < n → ∃ u, w.cell? ⟨b, o + i, none⟩ = some u ∧ V1 k hi u C (F i) w
def V3 (k : IntKind) (hi : Nat) (v : Value) (N n C : Nat) (F : Nat → Nat → Nat → Int) (w : World) : Prop :=
  ∃ b o c, v = .slice (some ⟨b, o, none⟩) N c ∧ N ≤ c ∧ b < hi ∧ ∀ i, i < N → ∃ u, w.cell? ⟨b, o + i, none⟩ = some u ∧ V2 k hi u n C (F i) w
section
variable {k : IntKind} {hi hi' : Nat} {v : Value} {N n C : Nat} {w w' : World}
theorem V1.keep {f : Nat → Int} (h : V1 k hi v C f w) (hk : ∀ b, b < hi → w'.heap[b]? = w.heap[b]?) : V1 k hi v C f w' := by
  obtain ⟨b, o, c, rfl, hc, hb, hx⟩ := h
  exact ⟨b, o, c, rfl, hc, hb, fun j hj => (cell_keep (hk b hb)).trans (hx j hj)⟩
theorem V2.keep {F : Nat → Nat → Int} (h : V2 k hi v n C F w) (hk : ∀ b, b < hi → w'.heap[b]? = w.heap[b]?) : V2 k hi v n C F w' := by
  obtain ⟨b, o, c, rfl, hc, hb, hx⟩ := h
  refine ⟨b, o, c, rfl, hc, hb, fun j hj => ?_⟩
  obtain ⟨u, hu, h1⟩ := hx j hj
  exact ⟨u, (cell_keep (hk b hb)).trans hu, h1.keep hk⟩
theorem V3.keep {F : Nat → Nat → Nat → Int} (h : V3 k hi v N n C F w) (hk : ∀ b, b < hi → w'.heap[b]? = w.heap[b]?) : V3 k hi v N n C F w' := by
  obtain ⟨b, o, c, rfl, hc, hb, hx⟩ := h
  refine ⟨b, o, c, rfl, hc, hb, fun j hj => ?_⟩
  obtain ⟨u, hu, h1⟩ := hx j hj
  exact ⟨u, (cell_keep (hk b hb)).trans hu, h1.keep hk⟩
theorem V1.below {B : Nat} {f : Nat → Int} (h : V1 k hi v C f w) (hb : Below B w w') (hB : hi ≤ B) : V1 k hi v C f w' := h.keep fun b h => hb.block b (by omega)
theorem V2.below {B : Nat} {F : Nat → Nat → Int} (h : V2 k hi v n C F w) (hb : Below B w w') (hB : hi ≤ B) : V2 k hi v n C F w' := h.keep fun b h => hb.block b (by omega)
theorem V3.below {B : Nat} {F : Nat → Nat → Nat → Int} (h : V3 k hi v N n C F w) (hb : Below B w w') (hB : hi ≤ B) : V3 k hi v N n C F w' := h.keep fun b h => hb.block b (by omega)
theorem V1.mono {f : Nat → Int} (h : V1 k hi v C f w) (hh : hi ≤ hi') : V1 k hi' v C f w := by
  obtain ⟨b, o, c, rfl, hc, hb, hx⟩ := h
  exact ⟨b, o, c, rfl, hc, by omega, hx⟩
theorem V2.mono {F : Nat → Nat → Int} (h : V2 k hi v n C F w) (hh : hi ≤ hi') : V2 k hi' v n C F w := by
  obtain ⟨b, o, c, rfl, hc, hb, hx⟩ := h
  refine ⟨b, o, c, rfl, hc, by omega, fun j hj => ?_⟩
  obtain ⟨u, hu, h1⟩ := hx j hj
  exact ⟨u, hu, h1.mono hh⟩
theorem V3.mono {F : Nat → Nat → Nat → Int} (h : V3 k hi v N n C F w) (hh : hi ≤ hi') : V3 k hi' v N n C F w := by
  obtain ⟨b, o, c, rfl, hc, hb, hx⟩ := h
  refine ⟨b, o, c, rfl, hc, by omega, fun j hj => ?_⟩
  obtain ⟨u, hu, h1⟩ := hx j hj
  exact ⟨u, hu, h1.mono hh⟩
theorem V1.form {f : Nat → Int} (h : V1 k hi v C f w) : ∃ b o c, v = .slice (some ⟨b, o, none⟩) C c := by obtain ⟨b, o, c, h, _⟩ := h; exact ⟨b, o, c, h⟩
theorem V2.form {F : Nat → Nat → Int} (h : V2 k hi v n C F w) : ∃ b o c, v = .slice (some ⟨b, o, none⟩) n c := by obtain ⟨b, o, c, h, _⟩ := h; exact ⟨b, o, c, h⟩
theorem V3.form {F : Nat → Nat → Nat → Int} (h : V3 k hi v N n C F w) : ∃ b o c, v = .slice (some ⟨b, o, none⟩) N c := by obtain ⟨b, o, c, h, _⟩ := h; exact ⟨b, o, c, h⟩
theorem V1.at {f : Nat → Int} {b o l c : Nat} (h : V1 k hi (.slice (some ⟨b, o, none⟩) l c) C f w) : l = C ∧ b < hi ∧ ∀ j, j < C → w.cell? ⟨b, o + j, none⟩ = some (.int k (f j)) := by
  obtain ⟨b', o', c', he, hc, hb, hx⟩ := h
  cases he
  exact ⟨rfl, hb, hx⟩
theorem V2.at {F : Nat → Nat → Int} {b o l c : Nat} (h : V2 k hi (.slice (some ⟨b, o, none⟩) l c) n C F w) : l = n ∧ b < hi ∧ ∀ i, i < n → ∃ b1 o1 c1, b1 < hi ∧ w.cell? ⟨b, o + i, none⟩ = some (.slice (some ⟨b1, o1, none⟩) C c1) ∧ V1 k hi (.slice (some ⟨b1, o1, none⟩) C c1) C (F i) w := by
  obtain ⟨b', o', c', he, hc, hb, hx⟩ := h
  cases he
  refine ⟨rfl, hb, fun i hi => ?_⟩
  obtain ⟨u, hu, h1⟩ := hx i hi
  obtain ⟨b1, o1, c1, rfl⟩ := h1.form
  exact ⟨b1, o1, c1, h1.at.2.1, hu, h1⟩
theorem V3.at {F : Nat → Nat → Nat → Int} {b o l c : Nat} (h : V3 k hi (.slice (some ⟨b, o, none⟩) l c) N n C F w) : l = N ∧ b < hi ∧ ∀ i, i < N → ∃ b1 o1 c1, b1 < hi ∧ w.cell? ⟨b, o + i, none⟩ = some (.slice (some ⟨b1, o1, none⟩) n c1) ∧ V2 k hi (.slice (some ⟨b1, o1, none⟩) n c1) n C (F i) w := by
  obtain ⟨b', o', c', he, hc, hb, hx⟩ := h
  cases he
  refine ⟨rfl, hb, fun i hi => ?_⟩
  obtain ⟨u, hu, h1⟩ := hx i hi
  obtain ⟨b1, o1, c1, rfl⟩ := h1.form
  exact ⟨b1, o1, c1, h1.at.2.1, hu, h1⟩
theorem V1.ext {f g : Nat → Int} (h : V1 k hi v C f w) (e : ∀ j, j < C → f j = g j) : V1 k hi v C g w := by
  obtain ⟨b, o, c, rfl, hc, hb, hx⟩ := h
  exact ⟨b, o, c, rfl, hc, hb, fun j hj => (e j hj) ▸ hx j hj⟩
theorem V2.ext {F G : Nat → Nat → Int} (h : V2 k hi v n C F w) (e : ∀ i, i < n → ∀ j, j < C → F i j = G i j) : V2 k hi v n C G w := by
  obtain ⟨b, o, c, rfl, hc, hb, hx⟩ := h
  refine ⟨b, o, c, rfl, hc, hb, fun i hi => ?_⟩
  obtain ⟨u, hu, h1⟩ := hx i hi
  exact ⟨u, hu, h1.ext (e i hi)⟩
theorem V3.ext {F G : Nat → Nat → Nat → Int} (h : V3 k hi v N n C F w) (e : ∀ i, i < N → ∀ j, j < n → ∀ b, b < C → F i j b = G i j b) : V3 k hi v N n C G w := by
  obtain ⟨b, o, c, rfl, hc, hb, hx⟩ := h
  refine ⟨b, o, c, rfl, hc, hb, fun i hi => ?_⟩
  obtain ⟨u, hu, h1⟩ := hx i hi
  exact ⟨u, hu, h1.ext (e i hi)⟩
theorem V2.vw {F : Nat → Nat → Int} (h : V2 .i32 hi v n C F w) : Qnt.Vw hi v n C F w := by
  obtain ⟨b, o, c, rfl, hc, hb, hx⟩ := h
  refine ⟨b, o, c, rfl, hb, fun i hi => ?_⟩
  obtain ⟨u, hu, h1⟩ := hx i hi
  obtain ⟨b1, o1, c1, rfl⟩ := h1.form
  exact ⟨b1, o1, c1, h1.at.2.1, hu, h1.at.2.2⟩
theorem V3.all {F : Nat → Nat → Nat → Int} {b o l c : Nat} (h : V3 k hi (.slice (some ⟨b, o, none⟩) l c) N n C F w) {i j x : Nat} (hi' : i < N) (hj : j < n) (hx : x < C) :
    ∃ b1 o1 c1 b2 o2 c2, b < hi ∧ b1 < hi ∧ b2 < hi ∧ w.cell? ⟨b, o + i, none⟩ = some (.slice (some ⟨b1, o1, none⟩) n c1) ∧ w.cell? ⟨b1, o1 + j, none⟩ = some (.slice (some ⟨b2, o2, none⟩) C c2) ∧ w.cell? ⟨b2, o2 + x, none⟩ = some (.int k (F i j x)) := by
  obtain ⟨_, h0, h1⟩ := h.at
  obtain ⟨b1, o1, c1, k1, e1, h2⟩ := h1 i hi'
  obtain ⟨_, _, h3⟩ := h2.at
  obtain ⟨b2, o2, c2, k2, e2, h4⟩ := h3 j hj
  exact ⟨b1, o1, c1, b2, o2, c2, h0, k1, k2, e1, e2, h4.at.2.2 x hx⟩
theorem V2.all {F : Nat → Nat → Int} {b o l c : Nat} (h : V2 k hi (.slice (some ⟨b, o, none⟩) l c) n C F w) {j x : Nat} (hj : j < n) (hx : x < C) :
    ∃ b2 o2 c2, b < hi ∧ b2 < hi ∧ w.cell? ⟨b, o + j, none⟩ = some (.slice (some ⟨b2, o2, none⟩) C c2) ∧ w.cell? ⟨b2, o2 + x, none⟩ = some (.int k (F j x)) := by
  obtain ⟨_, h0, h3⟩ := h.at
  obtain ⟨b2, o2, c2, k2, e2, h4⟩ := h3 j hj
  exact ⟨b2, o2, c2, h0, k2, e2, h4.at.2.2 x hx⟩
end

def rl (C : Nat) (f : Nat → Int) : List Int := (List.range C).map f
def zl (n C : Nat) (F : Nat → Nat → Int) : List (List Int) := (List.range n).map fun i => rl C (F i)
theorem rl_length (C : Nat) (f : Nat → Int) : (rl C f).length = C := by simp [rl]
theorem rl_get {C : Nat} {f : Nat → Int} {j : Nat} (h : j < C) : (rl C f).getD j 0 = f j := by simp [rl, List.getD, h]
theorem zl_length (n C : Nat) (F : Nat → Nat → Int) : (zl n C F).length = n := by simp [zl]
theorem zl_get {n C : Nat} {F : Nat → Nat → Int} {i : Nat} (h : i < n) : (zl n C F).getD i [] = rl C (F i) := by simp [zl, List.getD, h]
theorem V1.reads {k : IntKind} {hi C : Nat} {v : Value} {f : Nat → Int} {w : World} (h : V1 k hi v C f w) (hf : ∀ j, (Lit.int k (f j)).wf = true) : Reads k 0 hi w v (rl C f) := by
  obtain ⟨b, o, c, rfl, hc, hb, hx⟩ := h
  refine ⟨_, c, by rw [rl_length], by rw [rl_length]; exact hc, fun z hz => ?_, .inr ⟨b, o, rfl, Nat.zero_le _, hb, fun j hj => ?_⟩⟩
  · obtain ⟨j, _, rfl⟩ := List.mem_map.1 hz; exact hf j
  · rw [rl_length] at hj
    rw [rl_get hj]; exact hx j hj
theorem V2.rows {k : IntKind} {hi n C : Nat} {v : Value} {F : Nat → Nat → Int} {w : World} (h : V2 k hi v n C F w) (hf : ∀ i j, (Lit.int k (F i j)).wf = true) : Poly.Rows k 0 hi w v (zl n C F) := by
  obtain ⟨b, o, c, rfl, hc, hb, hx⟩ := h
  refine ⟨_, c, by rw [zl_length], by rw [zl_length]; exact hc, .inr ⟨b, o, rfl, Nat.zero_le _, hb, fun i hi => ?_⟩⟩
  rw [zl_length] at hi
  obtain ⟨u, hu, h1⟩ := hx i hi
  rw [zl_get hi]
  exact ⟨u, hu, h1.reads (hf i)⟩
theorem wf64 {z : Int} : (Lit.int .i64 z).wf = true ↔ -9223372036854775808 ≤ z ∧ z ≤ 9223372036854775807 := by simp [Lit.wf, IntKind.min, IntKind.max, IntKind.signed, IntKind.bits]

def L3 (hi : Nat) (v : Value) (N : Nat) (l : Nat → Nat) (m : Nat → Nat → Nat) (w : World) : Prop :=
  ∃ a c, v = .slice a N c ∧ (N = 0 ∨ ∃ b o, a = some ⟨b, o, none⟩ ∧ b < hi ∧ ∀ i, i < N → ∃ u, w.cell? ⟨b, o + i, none⟩ = some u ∧ Qnt.Hd hi u (l i) (m i) w)
theorem L3.form {hi : Nat} {v : Value} {N : Nat} {l : Nat → Nat} {m : Nat → Nat → Nat} {w : World} (h : L3 hi v N l m w) : ∃ a c, v = .slice a N c := by obtain ⟨a, c, h, _⟩ := h; exact ⟨a, c, h⟩
theorem L3.at {hi : Nat} {a : Option Addr} {x c : Nat} {N : Nat} {l : Nat → Nat} {m : Nat → Nat → Nat} {w : World} (h : L3 hi (.slice a x c) N l m w) (hN : 0 < N) : ∃ b o, a = some ⟨b, o, none⟩ ∧ b < hi ∧ ∀ i, i < N → ∃ a1 c1, w.cell? ⟨b, o + i, none⟩ = some (.slice a1 (l i) c1) ∧ Qnt.Hd hi (.slice a1 (l i) c1) (l i) (m i) w := by
  obtain ⟨a', c', he, h⟩ := h
  cases he
  rcases h with rfl | ⟨b, o, rfl, hb, hx⟩
  · omega
  · refine ⟨b, o, rfl, hb, fun i hi => ?_⟩
    obtain ⟨u, hu, h1⟩ := hx i hi
    obtain ⟨a1, c1, rfl⟩ := h1.form
    exact ⟨a1, c1, hu, h1⟩
theorem L3.below {hi B : Nat} {v : Value} {N : Nat} {l : Nat → Nat} {m : Nat → Nat → Nat} {w w' : World} (h : L3 hi v N l m w) (hb : Below B w w') (hB : hi ≤ B) : L3 hi v N l m w' := by
  obtain ⟨a, c, rfl, h⟩ := h
  refine ⟨a, c, rfl, ?_⟩
  rcases h with h | ⟨b, o, rfl, h0, hx⟩
  · exact .inl h
  · refine .inr ⟨b, o, rfl, h0, fun i hi => ?_⟩
    obtain ⟨u, hu, h1⟩ := hx i hi
    exact ⟨u, (cell_keep (hb.block b (by omega))).trans hu, h1.below hb hB⟩
def isL (N : Nat) (l : Nat → Nat) (m : Nat → Nat → Nat) (x y z : Int) : Prop := (N : Int) = x ∧ ∀ i, i < N → (l i : Int) = y ∧ ∀ j, j < l i → (m i j : Int) = z
theorem V2.hd {k : IntKind} {hi n C : Nat} {v : Value} {F : Nat → Nat → Int} {w : World} (h : V2 k hi v n C F w) : Qnt.Hd hi v n (fun _ => C) w := by
  obtain ⟨b, o, c, rfl, hc, hb, hx⟩ := h
  refine ⟨_, c, rfl, .inr ⟨b, o, rfl, hb, fun i hi => ?_⟩⟩
  obtain ⟨u, hu, h1⟩ := hx i hi
  obtain ⟨b1, o1, c1, rfl⟩ := h1.form
  exact ⟨_, c1, hu⟩
theorem V3.l3 {k : IntKind} {hi N n C : Nat} {v : Value} {F : Nat → Nat → Nat → Int} {w : World} (h : V3 k hi v N n C F w) : L3 hi v N (fun _ => n) (fun _ _ => C) w := by
  obtain ⟨b, o, c, rfl, hc, hb, hx⟩ := h
  refine ⟨_, c, rfl, .inr ⟨b, o, rfl, hb, fun i hi => ?_⟩⟩
  obtain ⟨u, hu, h1⟩ := hx i hi
  exact ⟨u, hu, h1.hd⟩

structure Grd (k : IntKind) (tE tR : TypeId) (a n C : Nat) (F : Nat → Nat → Int) (w : World) : Prop where
  head : ∃ hd : Array Value, Blk w a hd tR ∧ hd.size = n ∧ ∀ i, i < n → hd[i]? = some (.slice (some ⟨a + 1 + i, 0, none⟩) C C)
  row : ∀ i, i < n → ∃ tab : Array Value, Blk w (a + 1 + i) tab tE ∧ tab.size = C ∧ ∀ b, b < C → tab[b]? = some (.int k (F i b))
section
variable {k : IntKind} {tE tR : TypeId} {a n C : Nat} {F G : Nat → Nat → Int} {w w' : World}
theorem Grd.keep (h : Grd k tE tR a n C F w) (hk : ∀ b, a ≤ b → b ≤ a + n → w'.heap[b]? = w.heap[b]?) : Grd k tE tR a n C F w' := by
  obtain ⟨⟨hd, h1, h2⟩, h3⟩ := h
  refine ⟨⟨hd, (hk a (Nat.le_refl _) (by omega)).trans h1, h2⟩, fun c hc => ?_⟩
  obtain ⟨tab, t1, t2⟩ := h3 c hc
  exact ⟨tab, (hk _ (by omega) (by omega)).trans t1, t2⟩
theorem Grd.lt (h : Grd k tE tR a n C F w) : a + n < w.heap.size := by
  rcases Nat.eq_zero_or_pos n with h0 | h0
  · obtain ⟨⟨hd, h1, _⟩, _⟩ := h
    have := h1.lt; omega
  · obtain ⟨tab, t1, _⟩ := h.row (n - 1) (by omega)
    have := t1.lt; omega
theorem Grd.below {B : Nat} (h : Grd k tE tR a n C F w) (hb : Below B w w') (hB : a + n < B) : Grd k tE tR a n C F w' := h.keep fun b h0 h1 => hb.block b (by omega)
theorem Grd.drewN (h : Grd k tE tR a n C F w) (m : Nat) : Grd k tE tR a n C F (w.drewN m) := ⟨h.head, h.row⟩
theorem Grd.drew (h : Grd k tE tR a n C F w) : Grd k tE tR a n C F w.drew := ⟨h.head, h.row⟩
theorem Grd.at_head (h : Grd k tE tR a n C F w) {i : Nat} (hi : i < n) : w.cell? ⟨a, i, none⟩ = some (.slice (some ⟨a + 1 + i, 0, none⟩) C C) := by
  obtain ⟨⟨hd, h1, _, h2⟩, _⟩ := h
  exact h1.cell (h2 i hi)
theorem Grd.at (h : Grd k tE tR a n C F w) {i b : Nat} (hi : i < n) (hb : b < C) : w.cell? ⟨a + 1 + i, b, none⟩ = some (.int k (F i b)) ∧ w.frozen? ⟨a + 1 + i, b, none⟩ = false := by
  obtain ⟨tab, t1, t2, t3⟩ := h.row i hi
  exact ⟨t1.cell (t3 b hb), t1.free b⟩
theorem Grd.set_ne (h : Grd k tE tR a n C F w) {p : Addr} (hp : p.block < a ∨ a + n < p.block) (v : Value) : Grd k tE tR a n C F (w.setCell p v) :=
  h.keep fun b h0 h1 => Below.heap_setCell _ _ _ _ (by omega)
theorem Grd.set (h : Grd k tE tR a n C F w) {i b : Nat} (hi : i < n) (hb : b < C) {x : Int} (hx : x = G i b) (ho : ∀ i' b', i' < n → b' < C → (i' ≠ i ∨ b' ≠ b) → G i' b' = F i' b') : Grd k tE tR a n C G (w.setCell ⟨a + 1 + i, b, none⟩ (.int k x)) := by
  obtain ⟨⟨hd, h1, h2⟩, h3⟩ := h
  refine ⟨⟨hd, h1.set_ne (by show a ≠ a + 1 + i; omega) _, h2⟩, fun i' hi' => ?_⟩
  obtain ⟨tab, t1, t2, t3⟩ := h3 i' hi'
  by_cases e : i' = i
  · subst e
    refine ⟨_, t1.set b _, by simpa using t2, fun b' hb' => ?_⟩
    rw [Array.getElem?_setIfInBounds]
    split
    · rename_i e; subst e; rw [if_pos (by omega), hx]
    · rename_i e; rw [ho i' b' hi' hb' (.inr (fun h => e h.symm))]; exact t3 b' hb'
  · refine ⟨tab, t1.set_ne (by show a + 1 + i' ≠ a + 1 + i; omega) _, t2, fun b' hb' => ?_⟩
    rw [ho i' b' hi' hb' (.inl e)]; exact t3 b' hb'
theorem Grd.ext (h : Grd k tE tR a n C F w) (e : ∀ i, i < n → ∀ b, b < C → F i b = G i b) : Grd k tE tR a n C G w := by
  obtain ⟨h1, h2⟩ := h
  refine ⟨h1, fun i hi => ?_⟩
  obtain ⟨tab, t1, t2, t3⟩ := h2 i hi
  exact ⟨tab, t1, t2, fun b hb => e i hi b hb ▸ t3 b hb⟩
theorem Grd.v2 (h : Grd k tE tR a n C F w) : V2 k (a + n + 1) (.slice (some ⟨a, 0, none⟩) n n) n C F w := by
  refine ⟨a, 0, n, rfl, Nat.le_refl _, by omega, fun i hi => ⟨_, by rw [Nat.zero_add]; exact h.at_head hi, a + 1 + i, 0, C, rfl, Nat.le_refl _, by omega, fun b hb => ?_⟩⟩
  rw [Nat.zero_add]; exact (h.at hi hb).1
end

structure Cub (k : IntKind) (tE tR tM : TypeId) (a E N n C : Nat) (p : Nat → Nat) (F : Nat → Nat → Nat → Int) (w : World) : Prop where
  lo : ∀ i, i < N → a < p i ∧ p i + n < E
  ord : ∀ i i', i < i' → i' < N → p i + n < p i'
  top : ∃ hd : Array Value, Blk w a hd tM ∧ hd.size = N ∧ ∀ i, i < N → hd[i]? = some (.slice (some ⟨p i, 0, none⟩) n n)
  grd : ∀ i, i < N → Grd k tE tR (p i) n C (F i) w
section
variable {k : IntKind} {tE tR tM : TypeId} {a E N n C : Nat} {p : Nat → Nat} {F G : Nat → Nat → Nat → Int} {w w' : World}
theorem Cub.keep (h : Cub k tE tR tM a E N n C p F w) (hE : a < E) (hk : ∀ b, a ≤ b → b < E → w'.heap[b]? = w.heap[b]?) : Cub k tE tR tM a E N n C p F w' := by
  obtain ⟨h0, h1, ⟨hd, h2, h3⟩, h4⟩ := h
  exact ⟨h0, h1, ⟨hd, (hk a (Nat.le_refl _) hE).trans h2, h3⟩, fun i hi => (h4 i hi).keep fun b k0 k1 => hk b (by have := h0 i hi; omega) (by have := h0 i hi; omega)⟩
theorem Cub.below {B : Nat} (h : Cub k tE tR tM a E N n C p F w) (hE : a < E) (hb : Below B w w') (hB : E ≤ B) : Cub k tE tR tM a E N n C p F w' := h.keep hE fun b h0 h1 => hb.block b (by omega)
theorem Cub.drewN (h : Cub k tE tR tM a E N n C p F w) (m : Nat) : Cub k tE tR tM a E N n C p F (w.drewN m) := ⟨h.lo, h.ord, h.top, fun i hi => (h.grd i hi).drewN m⟩
theorem Cub.drew (h : Cub k tE tR tM a E N n C p F w) : Cub k tE tR tM a E N n C p F w.drew := ⟨h.lo, h.ord, h.top, fun i hi => (h.grd i hi).drew⟩
theorem Cub.at_top (h : Cub k tE tR tM a E N n C p F w) {i : Nat} (hi : i < N) : w.cell? ⟨a, i, none⟩ = some (.slice (some ⟨p i, 0, none⟩) n n) := by
  obtain ⟨hd, h1, _, h2⟩ := h.top
  exact h1.cell (h2 i hi)
theorem Cub.set_ne (h : Cub k tE tR tM a E N n C p F w) (hE : a < E) {q : Addr} (hp : q.block < a ∨ E ≤ q.block) (v : Value) : Cub k tE tR tM a E N n C p F (w.setCell q v) :=
  h.keep hE fun b h0 h1 => Below.heap_setCell _ _ _ _ (by omega)
theorem Cub.set (h : Cub k tE tR tM a E N n C p F w) {i j b : Nat} (hi : i < N) (hj : j < n) (hb : b < C) {x : Int} (hx : x = G i j b) (ho : ∀ i' j' b', i' < N → j' < n → b' < C → (i' ≠ i ∨ j' ≠ j ∨ b' ≠ b) → G i' j' b' = F i' j' b') :
    Cub k tE tR tM a E N n C p G (w.setCell ⟨p i + 1 + j, b, none⟩ (.int k x)) := by
  obtain ⟨h0, h1, ⟨hd, h2, h3⟩, h4⟩ := h
  refine ⟨h0, h1, ⟨hd, h2.set_ne (by show a ≠ p i + 1 + j; have := h0 i hi; omega) _, h3⟩, fun i' hi' => ?_⟩
  by_cases e : i' = i
  · subst e
    exact (h4 i' hi').set hj hb hx fun j' b' hj' hb' hne => ho i' j' b' hi hj' hb' (.inr hne)
  · refine ((h4 i' hi').set_ne ?_ _).ext fun j' hj' b' hb' => (ho i' j' b' hi' hj' hb' (.inl e)).symm
    show p i + 1 + j < p i' ∨ p i' + n < p i + 1 + j
    rcases Nat.lt_or_gt_of_ne e with hl | hl
    · have := h1 i' i hl hi; omega
    · have := h1 i i' hl hi'; omega
theorem Cub.ext (h : Cub k tE tR tM a E N n C p F w) (e : ∀ i, i < N → ∀ j, j < n → ∀ b, b < C → F i j b = G i j b) : Cub k tE tR tM a E N n C p G w := ⟨h.lo, h.ord, h.top, fun i hi => (h.grd i hi).ext (e i hi)⟩
theorem Cub.v3 (h : Cub k tE tR tM a E N n C p F w) (hE : a < E) : V3 k E (.slice (some ⟨a, 0, none⟩) N N) N n C F w := by
  refine ⟨a, 0, N, rfl, Nat.le_refl _, hE, fun i hi => ⟨_, by rw [Nat.zero_add]; exact h.at_top hi, ?_⟩⟩
  exact (h.grd i hi).v2.mono (by have := h.lo i hi; omega)
end

end Sub
end Go.Proofs.YtcaifpjbjghhaaaGreatDoor

