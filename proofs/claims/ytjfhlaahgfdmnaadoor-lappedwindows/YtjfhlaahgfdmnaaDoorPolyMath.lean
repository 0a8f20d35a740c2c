/-
  Layer 8 in plain arithmetic: the numbers that a splitter and a joiner reckon. No walk.
-/
import Derived.Test.YtjfhlaahgfdmnaaDoorBankMem
import Derived.Test.YtjfhlaahgfdmnaaDoorFixDot
namespace Go.Proofs.YtjfhlaahgfdmnaaDoor
namespace M

/-- the wave of a and b, of m bands -/
def wv (m a b : Int) : Int := cosine (a * b) (8 * m)
theorem wv_bd {m a b : Int} (hm : 1 ≤ m) : -32767 ≤ wv m a b ∧ wv m a b ≤ 32767 := cosine_bd _ (by omega)
theorem cosine_emod (n : Int) (d : Int) : cosine (n % d) d = cosine n d := by unfold cosine; rw [Int.emod_emod_of_dvd n (Int.dvd_refl d)]

/-- the signed product at place k of a fold -/
def sgn (odd : Bool) (k : Nat) (p : Int) : Int := if (k % 2 == 1) = odd then -p else p
theorem sgn_bd {odd : Bool} {k : Nat} {p B : Int} (h0 : -B ≤ p) (h1 : p ≤ B) : -B ≤ sgn odd k p ∧ sgn odd k p ≤ B := by
  unfold sgn; split <;> omega
theorem sgn_even {k : Nat} {p : Int} (h : k % 2 = 0) : sgn false k p = -p ∧ sgn true k p = p := by simp [sgn, h]
theorem sgn_odd {k : Nat} {p : Int} (h : k % 2 = 1) : sgn false k p = p ∧ sgn true k p = -p := by simp [sgn, h]
theorem sgn_zero (odd : Bool) (k : Nat) : sgn odd k 0 = 0 := by unfold sgn; split <;> simp

/-- the first k products of a splitter's fold at j: xs the line, m the bands -/
def fo (m : Nat) (xs : List Int) (j : Nat) : Nat → Int
  | 0 => 0
  | k + 1 => fo m xs j k + sgn false k (xs.getD (j + 2 * m * k) 0 * fil ((j + 2 * m * k : Nat) : Int) m)
/-- the numbers of the fold -/
def ys (m : Nat) (xs : List Int) : List Int := (List.range (2 * m)).map fun j => sat32 (rnd (fo m xs j 5) 14)
def sh (m : Nat) : Int := if m = 4 then 17 else 18
/-- the waves that a splitter's band i is summed over -/
def ws (m i : Nat) : List Int := (List.range (2 * m)).map fun j : Nat => wv m (2 * (i : Int) + 1) (2 * (j : Int) - m)
/-- a splitter's answer -/
def spl (m : Nat) (xs : List Int) : List Int := (List.range m).map fun i => sat32 (rnd (Dot.dotTo (ys m xs) (ws m i) (2 * m)) (sh m))
/-- the line behind a block of samples -/
def nx (m : Nat) (x xs : List Int) : List Int := (x.reverse ++ xs).take (10 * m)

/-- the waves that a joiner's number k is summed over -/
def wj (m k : Nat) : List Int := (List.range m).map fun i : Nat => wv m (2 * (i : Int) + 1) (2 * (k : Int) + m)
/-- the numbers that come with a block of bands -/
def vs (m : Nat) (s : List Int) : List Int := (List.range (2 * m)).map fun k => sat32 (rnd (Dot.dotTo s (wj m k) m) 15)
/-- a joiner's line behind a block of bands -/
def nj (m : Nat) (s l : List Int) : List Int := (vs m s ++ l).take (20 * m)
/-- the first i pairs of a joiner's sum at j -/
def fj (m : Nat) (l : List Int) (j : Nat) : Nat → Int
  | 0 => 0
  | i + 1 => fj m l j i + sgn true i (l.getD (4 * m * i + j) 0 * fil ((2 * m * i + j : Nat) : Int) m + l.getD (4 * m * i + 3 * m + j) 0 * fil ((2 * m * i + m + j : Nat) : Int) m)
/-- a joiner's answer -/
def jn (m : Nat) (l : List Int) : List Int := (List.range m).map fun j => sat16 (rnd (fj m l j 5) 14)

theorem fil_bd (i m : Int) : -32768 ≤ fil i m ∧ fil i m ≤ 32767 := sat16_bd _

def fits16 (zs : List Int) : Prop := ∀ z ∈ zs, -32768 ≤ z ∧ z ≤ 32767
def fits32 (zs : List Int) : Prop := ∀ z ∈ zs, -2147483648 ≤ z ∧ z ≤ 2147483647
theorem get_bd {B C : Int} {zs : List Int} (h : ∀ z ∈ zs, B ≤ z ∧ z ≤ C) (hB : B ≤ 0) (hC : 0 ≤ C) (i : Nat) : B ≤ zs.getD i 0 ∧ zs.getD i 0 ≤ C := by
  rcases Nat.lt_or_ge i zs.length with hi | hi
  · have e : zs.getD i 0 = zs[i] := by simp [List.getD, hi]
    rw [e]; exact h _ (List.getElem_mem hi)
  · have e : zs.getD i 0 = 0 := by simp [List.getD, hi]
    rw [e]; exact ⟨hB, hC⟩

theorem fo_bd {m : Nat} {xs : List Int} (hx : fits16 xs) (j k : Nat) : -(1073741824 * (k : Int)) ≤ fo m xs j k ∧ fo m xs j k ≤ 1073741824 * (k : Int) := by
  induction k with
  | zero => simp [fo]
  | succ k ih =>
    have a := get_bd hx (by decide) (by decide) (j + 2 * m * k)
    have b := fil_bd ((j + 2 * m * k : Nat) : Int) m
    have p := mul_bd (xs.getD (j + 2 * m * k) 0) (fil ((j + 2 * m * k : Nat) : Int) m) 32768 32768 (by omega) (by omega) (by omega) (by omega)
    have q := sgn_bd (odd := false) (k := k) p.1 p.2
    simp only [fo]
    omega

theorem pair_bd {m : Nat} {l : List Int} (hl : fits32 l) (p q r s : Nat) : -140737488355328 ≤ l.getD p 0 * fil (q : Int) m + l.getD r 0 * fil (s : Int) m ∧ l.getD p 0 * fil (q : Int) m + l.getD r 0 * fil (s : Int) m ≤ 140737488355328 := by
  have a := get_bd hl (by decide) (by decide) p
  have a' := get_bd hl (by decide) (by decide) r
  have b := fil_bd (q : Int) m
  have b' := fil_bd (s : Int) m
  have p1 := mul_bd (l.getD p 0) (fil (q : Int) m) 2147483648 32768 (by omega) (by omega) (by omega) (by omega)
  have p2 := mul_bd (l.getD r 0) (fil (s : Int) m) 2147483648 32768 (by omega) (by omega) (by omega) (by omega)
  omega

theorem fj_bd {m : Nat} {l : List Int} (hl : fits32 l) (j k : Nat) : -(140737488355328 * (k : Int)) ≤ fj m l j k ∧ fj m l j k ≤ 140737488355328 * (k : Int) := by
  induction k with
  | zero => simp [fj]
  | succ k ih =>
    have p := pair_bd (m := m) hl (4 * m * k + j) (2 * m * k + j) (4 * m * k + 3 * m + j) (2 * m * k + m + j)
    have q := sgn_bd (odd := true) (k := k) p.1 p.2
    simp only [fj]
    omega

theorem ys_fits (m : Nat) (xs : List Int) : fits32 (ys m xs) := by
  intro z hz
  unfold ys at hz
  obtain ⟨j, _, rfl⟩ := List.mem_map.1 hz
  exact sat32_bd _
theorem spl_fits (m : Nat) (xs : List Int) : fits32 (spl m xs) := by
  intro z hz
  unfold spl at hz
  obtain ⟨j, _, rfl⟩ := List.mem_map.1 hz
  exact sat32_bd _
theorem vs_fits (m : Nat) (s : List Int) : fits32 (vs m s) := by
  intro z hz
  unfold vs at hz
  obtain ⟨j, _, rfl⟩ := List.mem_map.1 hz
  exact sat32_bd _
theorem jn_fits (m : Nat) (s : List Int) : fits16 (jn m s) := by
  intro z hz
  unfold jn at hz
  obtain ⟨j, _, rfl⟩ := List.mem_map.1 hz
  exact sat16_bd _
theorem ws_fits {m : Nat} (hm : 1 ≤ m) (i : Nat) : fits16 (ws m i) := by
  intro z hz
  unfold ws at hz
  obtain ⟨j, _, rfl⟩ := List.mem_map.1 hz
  have := wv_bd (m := m) (a := 2 * (i : Int) + 1) (b := 2 * (j : Int) - m) (by omega)
  omega
theorem wj_fits {m : Nat} (hm : 1 ≤ m) (k : Nat) : fits16 (wj m k) := by
  intro z hz
  unfold wj at hz
  obtain ⟨j, _, rfl⟩ := List.mem_map.1 hz
  have := wv_bd (m := m) (a := 2 * (j : Int) + 1) (b := 2 * (k : Int) + m) (by omega)
  omega
theorem ys_length (m : Nat) (xs : List Int) : (ys m xs).length = 2 * m := by simp [ys]
theorem spl_length (m : Nat) (xs : List Int) : (spl m xs).length = m := by simp [spl]
theorem vs_length (m : Nat) (xs : List Int) : (vs m xs).length = 2 * m := by simp [vs]
theorem jn_length (m : Nat) (xs : List Int) : (jn m xs).length = m := by simp [jn]
theorem ws_length (m i : Nat) : (ws m i).length = 2 * m := by simp [ws]
theorem wj_length (m i : Nat) : (wj m i).length = m := by simp [wj]
theorem nx_fits {m : Nat} {x xs : List Int} (hx : fits16 x) (hs : fits16 xs) : fits16 (nx m x xs) := by
  intro z hz
  have hz := List.mem_of_mem_take hz
  rcases List.mem_append.1 hz with h | h
  · exact hx z (List.mem_reverse.1 h)
  · exact hs z h
theorem nj_fits {m : Nat} {s l : List Int} (hl : fits32 l) : fits32 (nj m s l) := by
  intro z hz
  have hz := List.mem_of_mem_take hz
  rcases List.mem_append.1 hz with h | h
  · exact vs_fits m s z h
  · exact hl z h
theorem nx_length {m : Nat} {x xs : List Int} (hs : xs.length = 10 * m) : (nx m x xs).length = 10 * m := by unfold nx; simp; omega
theorem nj_length {m : Nat} {s l : List Int} (hs : l.length = 20 * m) : (nj m s l).length = 20 * m := by unfold nj; simp [vs_length]; omega

/-- only what a line reads as counts -/
theorem fo_congr {m : Nat} {xs zs : List Int} (h : ∀ i, i < 10 * m → xs.getD i 0 = zs.getD i 0) {j k : Nat} (hj : j < 2 * m) (hk : k ≤ 5) : fo m xs j k = fo m zs j k := by
  induction k with
  | zero => rfl
  | succ k ih =>
    have hi : j + 2 * m * k < 10 * m := by
      have : 2 * m * k ≤ 2 * m * 4 := Nat.mul_le_mul_left _ (by omega)
      omega
    simp only [fo]
    rw [ih (by omega), h _ hi]
theorem ys_congr {m : Nat} {xs zs : List Int} (h : ∀ i, i < 10 * m → xs.getD i 0 = zs.getD i 0) : ys m xs = ys m zs := by
  unfold ys
  apply List.map_congr_left
  intro j hj
  rw [fo_congr h (List.mem_range.1 hj) (Nat.le_refl _)]
theorem spl_congr {m : Nat} {xs zs : List Int} (h : ∀ i, i < 10 * m → xs.getD i 0 = zs.getD i 0) : spl m xs = spl m zs := by
  unfold spl; rw [ys_congr h]
theorem fj_congr {m : Nat} {xs zs : List Int} (h : ∀ i, i < 20 * m → xs.getD i 0 = zs.getD i 0) {j k : Nat} (hj : j < m) (hk : k ≤ 5) : fj m xs j k = fj m zs j k := by
  induction k with
  | zero => rfl
  | succ k ih =>
    have : 4 * m * k ≤ 4 * m * 4 := Nat.mul_le_mul_left _ (by omega)
    simp only [fj]
    rw [ih (by omega), h (4 * m * k + j) (by omega), h (4 * m * k + 3 * m + j) (by omega)]
theorem jn_congr {m : Nat} {xs zs : List Int} (h : ∀ i, i < 20 * m → xs.getD i 0 = zs.getD i 0) : jn m xs = jn m zs := by
  unfold jn
  apply List.map_congr_left
  intro j hj
  rw [fj_congr h (List.mem_range.1 hj) (Nat.le_refl _)]

end M
end Go.Proofs.YtjfhlaahgfdmnaaDoor
