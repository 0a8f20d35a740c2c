/-
  Layer 10 in plain lists: channels, woven samples, the greatest, the sum of squares, what is taken. No walk.
-/
import Derived.Test.YtnnljamkomlglaaLists
namespace Go.Proofs.Ytnnljamkomlglaa
set_option linter.unusedVariables false
namespace M

/-- the k-th of c channels of n samples each -/
def chn (n : Nat) (xs : List Int) (k c : Nat) : List Int := (List.range n).map fun j => xs.getD (k + c * j) 0
/-- c channels of n samples each, woven -/
def wov (c n : Nat) (l : List (List Int)) : List Int := (List.range (c * n)).map fun i => (l.getD (i % c) []).getD (i / c) 0
def chs (n : Nat) (xs : List Int) (c : Nat) : List (List Int) := (List.range c).map fun k => chn n xs k c
theorem chn_length (n : Nat) (xs : List Int) (k c : Nat) : (chn n xs k c).length = n := by simp [chn]
theorem wov_length (c n : Nat) (l : List (List Int)) : (wov c n l).length = c * n := by simp [wov]
theorem chs_length (n : Nat) (xs : List Int) (c : Nat) : (chs n xs c).length = c := by simp [chs]
theorem getD_map_range {α : Type} (n i : Nat) (f : Nat → α) (d : α) (h : i < n) : ((List.range n).map f).getD i d = f i := by
  simp [List.getD, h]
theorem chs_get {n : Nat} {xs : List Int} {c k : Nat} (h : k < c) : (chs n xs c).getD k [] = chn n xs k c := getD_map_range _ _ _ _ h
theorem eq_of_getD {A B : List Int} (hl : A.length = B.length) (h : ∀ i, i < A.length → A.getD i 0 = B.getD i 0) : A = B := by
  apply List.ext_getElem hl
  intro i h1 h2
  have := h i h1
  simpa [List.getD, h1, h2] using this
theorem wov_chs {c n : Nat} {xs : List Int} (hc : 0 < c) (hx : xs.length = c * n) : wov c n (chs n xs c) = xs := by
  refine eq_of_getD (by rw [wov_length, hx]) fun i hi => ?_
  rw [wov_length] at hi
  unfold wov
  rw [getD_map_range _ _ _ _ hi, chs_get (Nat.mod_lt _ hc)]
  unfold chn
  rw [getD_map_range _ _ _ _ (Nat.div_lt_of_lt_mul hi), Nat.mod_add_div]
theorem chn_wov {c n k : Nat} {l : List (List Int)} (hk : k < c) (hl : (l.getD k []).length = n) : chn n (wov c n l) k c = l.getD k [] := by
  refine eq_of_getD (by rw [chn_length, hl]) fun j hj => ?_
  rw [chn_length] at hj
  have hb : k + c * j < c * n := by
    have : c * (j + 1) ≤ c * n := Nat.mul_le_mul_left c hj
    rw [Nat.mul_add] at this; omega
  unfold chn wov
  rw [getD_map_range _ _ _ _ hj, getD_map_range _ _ _ _ hb]
  rw [Nat.add_mul_mod_self_left, Nat.mod_eq_of_lt hk, Nat.add_mul_div_left _ _ (by omega), Nat.div_eq_of_lt hk, Nat.zero_add]

theorem fits_getD {xs : List Int} (h : fits16 xs) (i : Nat) : -32768 ≤ xs.getD i 0 ∧ xs.getD i 0 ≤ 32767 := by
  rw [List.getD_eq_getElem?_getD]
  rcases Nat.lt_or_ge i xs.length with hi | hi
  · rw [List.getElem?_eq_getElem hi]; exact h _ (List.getElem_mem _)
  · rw [List.getElem?_eq_none hi]; decide
theorem fits_map {n : Nat} {f : Nat → Int} (h : ∀ i, -32768 ≤ f i ∧ f i ≤ 32767) : fits16 ((List.range n).map f) := fun z hz => by
  obtain ⟨i, _, rfl⟩ := List.mem_map.1 hz
  exact h i
theorem chn_fits {n : Nat} {xs : List Int} {k c : Nat} (h : fits16 xs) : fits16 (chn n xs k c) := fits_map fun i => fits_getD h _
theorem wov_fits {c n : Nat} {l : List (List Int)} (h : ∀ k, fits16 (l.getD k [])) : fits16 (wov c n l) := fits_map fun i => fits_getD (h _) _

/-- the greatest so far, and one more -/
def pkn (p x : Int) : Int := max (max p x) (-x)
def pk (xs : List Int) : Nat → Int
  | 0 => 0
  | k + 1 => pkn (pk xs k) (xs.getD k 0)
theorem pk_bd {xs : List Int} (h : fits16 xs) (k : Nat) : 0 ≤ pk xs k ∧ pk xs k ≤ 32768 := by
  induction k with
  | zero => simp [pk]
  | succ k ih =>
    have := fits_getD h k
    show 0 ≤ pkn _ _ ∧ pkn _ _ ≤ 32768
    unfold pkn
    omega
/-- the sum of squares -/
def en (xs : List Int) : Nat → Int
  | 0 => 0
  | k + 1 => en xs k + xs.getD k 0 * xs.getD k 0
theorem sq_bd {x : Int} (h : -32768 ≤ x ∧ x ≤ 32767) : 0 ≤ x * x ∧ x * x ≤ 1073741824 := by
  have : x.natAbs ≤ 32768 := by omega
  have h2 : x.natAbs * x.natAbs ≤ 32768 * 32768 := Nat.mul_le_mul this this
  rw [← Int.natAbs_mul_self (a := x)]
  exact ⟨Int.natCast_nonneg _, by omega⟩
theorem en_bd {xs : List Int} (h : fits16 xs) (k : Nat) : 0 ≤ en xs k ∧ en xs k ≤ 1073741824 * (k : Int) := by
  induction k with
  | zero => simp [en]
  | succ k ih =>
    have := sq_bd (fits_getD h k)
    show 0 ≤ en xs k + xs.getD k 0 * xs.getD k 0 ∧ en xs k + xs.getD k 0 * xs.getD k 0 ≤ _
    omega

/-- the first n, and 0 where there are fewer -/
def tk (n : Nat) (q : List Int) : List Int := (List.range n).map fun i => q.getD i 0
theorem tk_length (n : Nat) (q : List Int) : (tk n q).length = n := by simp [tk]
theorem tk_get {n : Nat} {q : List Int} {i : Nat} (h : i < n) : (tk n q).getD i 0 = q.getD i 0 := getD_map_range _ _ _ _ h
theorem tk_fits {n : Nat} {q : List Int} (h : fits16 q) : fits16 (tk n q) := fits_map fun i => fits_getD h _
theorem tk_zero (q : List Int) : tk 0 q = [] := rfl
theorem tk_all (q : List Int) : tk q.length q = q := eq_of_getD (tk_length _ _) fun i hi => tk_get (by rw [tk_length] at hi; exact hi)
theorem take_tk (n : Nat) (q : List Int) : (tk n q).take (min q.length n) = q.take n := by
  refine eq_of_getD (by simp [tk_length]; omega) fun i hi => ?_
  simp [tk_length] at hi
  rw [getD_take (by omega), getD_take (by omega), tk_get (by omega)]
theorem fits_take {n : Nat} {q : List Int} (h : fits16 q) : fits16 (q.take n) := fun z hz => h z (List.mem_of_mem_take hz)
theorem fits_drop {n : Nat} {q : List Int} (h : fits16 q) : fits16 (q.drop n) := fun z hz => h z (List.mem_of_mem_drop hz)
theorem fits_append {p q : List Int} (hp : fits16 p) (hq : fits16 q) : fits16 (p ++ q) := fun z hz => by
  rcases List.mem_append.1 hz with h | h
  · exact hp z h
  · exact hq z h
theorem getD_out {q : List Int} {i : Nat} (h : q.length ≤ i) : q.getD i 0 = 0 := by simp [List.getD, h]
theorem getD_drop (q : List Int) (n i : Nat) : (q.drop n).getD i 0 = q.getD (n + i) 0 := by simp [List.getD]

end M
end Go.Proofs.Ytnnljamkomlglaa
