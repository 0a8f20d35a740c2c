/-
  What the laws of layer 8 lean on: lines behind blocks, the chapter's example. Conditions: the polynomial's numbers stand as their initialiser lays them; one goroutine.
-/
import Derived.Test.YtkmkackifihhjaaDoorPolyJoin
import Derived.Test.YtkmkackifihhjaaDoorPolyRefJ
namespace Go.Proofs.YtkmkackifihhjaaDoor
set_option linter.unusedVariables false
open Go.RowKit
namespace M

/-- a splitter's line behind blocks -/
def lineS (m : Nat) : List (List Int) → List Int → List Int
  | [], xs => xs
  | b :: r, xs => lineS m r (nx m b xs)
/-- a joiner's line behind blocks -/
def lineJ (m : Nat) : List (List Int) → List Int → List Int
  | [], l => l
  | b :: r, l => lineJ m r (nj m b l)
theorem lineS_snoc (m : Nat) (zss : List (List Int)) (b xs : List Int) : lineS m (zss ++ [b]) xs = nx m b (lineS m zss xs) := by
  induction zss generalizing xs with
  | nil => rfl
  | cons a r ih => exact ih _
theorem lineJ_snoc (m : Nat) (zss : List (List Int)) (b xs : List Int) : lineJ m (zss ++ [b]) xs = nj m b (lineJ m zss xs) := by
  induction zss generalizing xs with
  | nil => rfl
  | cons a r ih => exact ih _
theorem take_snoc {zss : List (List Int)} {k : Nat} (h : k < zss.length) : zss.take (k + 1) = zss.take k ++ [zss.getD k []] := by
  rw [List.take_add_one]
  simp [List.getD, h]

theorem getD_append (A B : List Int) (i : Nat) : (A ++ B).getD i 0 = if i < A.length then A.getD i 0 else B.getD (i - A.length) 0 := by
  simp only [List.getD]
  split
  · rename_i h; rw [List.getElem?_append_left h]
  · rename_i h; rw [List.getElem?_append_right (by omega)]
theorem getD_take {A : List Int} {n i : Nat} (h : i < n) : (A.take n).getD i 0 = A.getD i 0 := by
  simp only [List.getD]
  rw [List.getElem?_take, if_pos h]
theorem getD_rep (n i : Nat) : (List.replicate n (0 : Int)).getD i 0 = 0 := by
  simp only [List.getD]
  rw [List.getElem?_replicate]
  split <;> rfl
/-- the line reads as all that came, the newest ahead -/
theorem lineS_news (m : Nat) (zss : List (List Int)) : ∀ n, ∀ i, i < 10 * m → (lineS m (zss.take n) (List.replicate (10 * m) 0)).getD i 0 = (news (zss.take n)).getD i 0 := by
  intro n
  induction n with
  | zero =>
    intro i hi
    rw [List.take_zero]
    show (List.replicate (10 * m) (0 : Int)).getD i 0 = _
    rw [getD_rep]; rfl
  | succ n ih =>
    intro i hi
    rcases Nat.lt_or_ge n zss.length with h | h
    · rw [take_snoc h, lineS_snoc, news_snoc]
      unfold nx
      rw [getD_take hi, getD_append, getD_append]
      split
      · rfl
      · exact ih _ (by omega)
    · have e : zss.take (n + 1) = zss.take n := by rw [List.take_of_length_le (by omega), List.take_of_length_le h]
      rw [e]; exact ih i hi
theorem lineJ_allv (m : Nat) (zss : List (List Int)) : ∀ n, ∀ i, i < 20 * m → (lineJ m (zss.take n) (List.replicate (20 * m) 0)).getD i 0 = (allv m (zss.take n)).getD i 0 := by
  intro n
  induction n with
  | zero =>
    intro i hi
    rw [List.take_zero]
    show (List.replicate (20 * m) (0 : Int)).getD i 0 = _
    rw [getD_rep]; rfl
  | succ n ih =>
    intro i hi
    rcases Nat.lt_or_ge n zss.length with h | h
    · rw [take_snoc h, lineJ_snoc, allv_snoc]
      unfold nj
      rw [getD_take hi, getD_append, getD_append]
      split
      · rfl
      · exact ih _ (by omega)
    · have e : zss.take (n + 1) = zss.take n := by rw [List.take_of_length_le (by omega), List.take_of_length_le h]
      rw [e]; exact ih i hi

/-- k blocks of nothing but 0 -/
def zeroS (m : Nat) (k : Nat) (xs : List Int) : List Int := lineS m (List.replicate k (List.replicate m 0)) xs
def zeroJ (m : Nat) (k : Nat) (l : List Int) : List Int := lineJ m (List.replicate k (List.replicate m 0)) l
theorem zeroS_succ (m k : Nat) (xs : List Int) : zeroS m (k + 1) xs = nx m (List.replicate m 0) (zeroS m k xs) := by
  unfold zeroS; rw [List.replicate_succ', lineS_snoc]
theorem zeroJ_succ (m k : Nat) (xs : List Int) : zeroJ m (k + 1) xs = nj m (List.replicate m 0) (zeroJ m k xs) := by
  unfold zeroJ; rw [List.replicate_succ', lineJ_snoc]
theorem ext_getD {A B : List Int} (hl : A.length = B.length) (h : ∀ i, i < A.length → A.getD i 0 = B.getD i 0) : A = B := by
  apply List.ext_getElem hl
  intro i h1 h2
  have := h i h1
  simp only [List.getD, List.getElem?_eq_getElem h1, List.getElem?_eq_getElem h2, Option.getD_some] at this
  exact this
theorem sat32_zero : sat32 0 = 0 := by decide
theorem sat16_zero : sat16 0 = 0 := by decide
theorem rnd14_zero : rnd 0 14 = 0 := by decide
theorem rnd15_zero : rnd 0 15 = 0 := by decide
theorem rnd17_zero : rnd 0 17 = 0 := by decide
theorem rnd18_zero : rnd 0 18 = 0 := by decide
theorem dot_zero (xs ys : List Int) (h : ∀ i, xs.getD i 0 = 0) (k : Nat) : Dot.dotTo xs ys k = 0 := by
  induction k with
  | zero => rfl
  | succ k ih => simp only [Dot.dotTo, ih, h, Int.zero_mul]; rfl
theorem vs_zero (m : Nat) : vs m (List.replicate m 0) = List.replicate (2 * m) 0 := by
  unfold vs
  apply ext_getD
  · simp
  · intro i hi
    have hi : i < 2 * m := by simpa using hi
    rw [getD_rep]
    simp only [List.getD, List.getElem?_map, List.getElem?_range hi, Option.map_some, Option.getD_some]
    rw [dot_zero _ _ (getD_rep m), rnd15_zero, sat32_zero]
theorem zeroS_length {m : Nat} (k : Nat) {xs : List Int} (h : xs.length = 10 * m) : (zeroS m k xs).length = 10 * m := by
  induction k with
  | zero => exact h
  | succ k ih => rw [zeroS_succ, nx_length ih]
theorem zeroJ_length {m : Nat} (k : Nat) {xs : List Int} (h : xs.length = 20 * m) : (zeroJ m k xs).length = 20 * m := by
  induction k with
  | zero => exact h
  | succ k ih => rw [zeroJ_succ, nj_length ih]
theorem zeroS_get {m : Nat} (k : Nat) {xs : List Int} (h : xs.length = 10 * m) (i : Nat) (hi : i < k * m) : (zeroS m k xs).getD i 0 = 0 := by
  induction k generalizing i with
  | zero => omega
  | succ k ih =>
    rw [zeroS_succ]
    rcases Nat.lt_or_ge i (10 * m) with h10 | h10
    · unfold nx
      rw [getD_take h10, getD_append]
      split
      · rw [List.reverse_replicate, getD_rep]
      · rename_i hh
        simp at hh ⊢
        exact ih _ (by rw [Nat.add_mul, Nat.one_mul] at hi; omega)
    · simp only [List.getD]
      rw [List.getElem?_eq_none (by rw [nx_length (zeroS_length k h)]; exact h10)]
      rfl
theorem zeroJ_get {m : Nat} (k : Nat) {xs : List Int} (h : xs.length = 20 * m) (i : Nat) (hi : i < k * (2 * m)) : (zeroJ m k xs).getD i 0 = 0 := by
  induction k generalizing i with
  | zero => omega
  | succ k ih =>
    rw [zeroJ_succ]
    rcases Nat.lt_or_ge i (20 * m) with h10 | h10
    · unfold nj
      rw [getD_take h10, getD_append, vs_zero]
      split
      · rw [getD_rep]
      · rename_i hh
        simp at hh ⊢
        exact ih _ (by rw [Nat.add_mul, Nat.one_mul] at hi; omega)
    · simp only [List.getD]
      rw [List.getElem?_eq_none (by rw [nj_length (zeroJ_length k h)]; exact h10)]
      rfl
/-- ten blocks of nothing but 0 leave nothing but 0 -/
theorem zeroS_ten {m k : Nat} {xs : List Int} (h : xs.length = 10 * m) (hk : 10 ≤ k) : zeroS m k xs = List.replicate (10 * m) 0 := by
  apply ext_getD
  · rw [zeroS_length k h]; simp
  · intro i hi
    rw [zeroS_length k h] at hi
    rw [getD_rep, zeroS_get k h i (Nat.lt_of_lt_of_le hi (Nat.mul_le_mul_right m hk))]
theorem zeroJ_ten {m k : Nat} {xs : List Int} (h : xs.length = 20 * m) (hk : 10 ≤ k) : zeroJ m k xs = List.replicate (20 * m) 0 := by
  apply ext_getD
  · rw [zeroJ_length k h]; simp
  · intro i hi
    rw [zeroJ_length k h] at hi
    have : 20 * m ≤ k * (2 * m) := Nat.le_trans (by omega : 20 * m ≤ 10 * (2 * m)) (Nat.mul_le_mul_right _ hk)
    rw [getD_rep, zeroJ_get k h i (by omega)]
theorem fo_zero (m j k n : Nat) : fo m (List.replicate n 0) j k = 0 := by
  induction k with
  | zero => rfl
  | succ k ih => simp only [fo, ih, getD_rep, Int.zero_mul, sgn_zero]; rfl
theorem fj_zero (m j k n : Nat) : fj m (List.replicate n 0) j k = 0 := by
  induction k with
  | zero => rfl
  | succ k ih => simp only [fj, ih, getD_rep, Int.zero_mul, Int.add_zero, sgn_zero]
theorem ys_zero (m n : Nat) (i : Nat) : (ys m (List.replicate n 0)).getD i 0 = 0 := by
  rcases Nat.lt_or_ge i (2 * m) with h | h
  · rw [ys_get h, fo_zero, rnd14_zero, sat32_zero]
  · simp only [List.getD]
    rw [List.getElem?_eq_none (by rw [ys_length]; exact h)]
    rfl
theorem spl_zero {m : Nat} (hm : m = 4 ∨ m = 8) (n : Nat) : spl m (List.replicate n 0) = List.replicate m 0 := by
  unfold spl
  apply ext_getD
  · simp
  · intro i hi
    have hi : i < m := by simpa using hi
    rw [getD_rep]
    simp only [List.getD, List.getElem?_map, List.getElem?_range hi, Option.map_some, Option.getD_some]
    rw [dot_zero _ _ (ys_zero m n)]
    rcases hm with rfl | rfl
    · show sat32 (rnd 0 17) = 0; rw [rnd17_zero, sat32_zero]
    · show sat32 (rnd 0 18) = 0; rw [rnd18_zero, sat32_zero]
theorem jn_zero (m n : Nat) : jn m (List.replicate n 0) = List.replicate m 0 := by
  unfold jn
  apply ext_getD
  · simp
  · intro i hi
    have hi : i < m := by simpa using hi
    rw [getD_rep]
    simp only [List.getD, List.getElem?_map, List.getElem?_range hi, Option.map_some, Option.getD_some]
    rw [fj_zero, rnd14_zero, sat16_zero]
theorem nx_zero (m : Nat) : nx m (List.replicate m 0) (List.replicate (10 * m) 0) = List.replicate (10 * m) 0 := by
  apply ext_getD
  · rw [nx_length (by simp)]; simp
  · intro i hi
    rw [nx_length (by simp)] at hi
    unfold nx
    rw [getD_rep, getD_take hi, getD_append]
    split
    · rw [List.reverse_replicate, getD_rep]
    · rw [getD_rep]

end M
namespace Poly
open Bank (Blk But)

/-- a new list of nothing but 0 -/
theorem reads_new16 (w : World) (n : Nat) : Reads .i16 w.heap.size (w.heap.size + 1) (w.alloc (.cells (enc .i16 (List.replicate n 0)).toArray 32)) (.slice (some ⟨w.heap.size, 0, none⟩) n n) (List.replicate n 0) := by
  have := reads_blk (Blk.new w (enc .i16 (List.replicate n 0)).toArray 32) (fit16.2 (zeros16 n))
  simpa using this
theorem reads_new32 (w : World) (n : Nat) : Reads .i32 w.heap.size (w.heap.size + 1) (w.alloc (.cells (enc .i32 (List.replicate n 0)).toArray 21)) (.slice (some ⟨w.heap.size, 0, none⟩) n n) (List.replicate n 0) := by
  have := reads_blk (Blk.new w (enc .i32 (List.replicate n 0)).toArray 21) (fit32.2 (zeros32 n))
  simpa using this
theorem new_below {B : Nat} {w w' : World} (h : Below B w w') (hB : w.heap.size = B) (c : Array Value) (t : TypeId) : Below B w (w'.alloc (.cells c t)) := h.alloc (by have := h.size; omega) _

end Poly
end Go.Proofs.YtkmkackifihhjaaDoor
