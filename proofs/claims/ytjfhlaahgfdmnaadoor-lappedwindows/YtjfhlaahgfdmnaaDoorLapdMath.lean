/-
  Layer 9 in plain arithmetic: the window, the waves, what a lapper and an unlapper reckon. No walk.
-/
import Derived.Test.YtjfhlaahgfdmnaaDoorPolyBase
namespace Go.Proofs.YtjfhlaahgfdmnaaDoor
set_option linter.unusedVariables false
namespace M

/-- a length of blocks -/
def len9 (n : Nat) : Prop := n = 40 ∨ n = 60 ∨ n = 80 ∨ n = 120
/-- the window's first half -/
def ris (n i : Nat) : Int := if i < n / 4 then 0 else if i < n / 4 + n / 2 then sine (2 * ((i - n / 4 : Nat) : Int) + 1) (8 * ((n / 2 : Nat) : Int)) else 32767
/-- the window -/
def wn (n j : Nat) : Int := if j < n then ris n j else ris n (2 * n - 1 - j)
def wns (n : Nat) : List Int := (List.range (2 * n)).map (wn n)
/-- the cosines of a whole turn of 8 n parts -/
def cn (n : Nat) : List Int := (List.range (8 * n)).map fun i : Nat => cosine i (8 * n : Nat)
theorem ris_bd (n i : Nat) (hn : 2 ≤ n) : -32767 ≤ ris n i ∧ ris n i ≤ 32767 := by
  unfold ris
  split
  · omega
  · split
    · exact sine_bd _ (by omega)
    · omega
theorem wn_bd (n j : Nat) (hn : 2 ≤ n) : -32767 ≤ wn n j ∧ wn n j ≤ 32767 := by
  unfold wn
  split
  · exact ris_bd _ _ hn
  · exact ris_bd _ _ hn
theorem wns_length (n : Nat) : (wns n).length = 2 * n := by simp [wns]
theorem wns_get {n j : Nat} (h : j < 2 * n) : (wns n).getD j 0 = wn n j := by simp [wns, List.getD, h]
theorem wns_fits {n : Nat} (hn : 2 ≤ n) : fits16 (wns n) := by
  intro z hz
  obtain ⟨j, _, rfl⟩ := List.mem_map.1 hz
  have := wn_bd n j hn
  omega
theorem cn_length (n : Nat) : (cn n).length = 8 * n := by simp [cn]
theorem cn_get {n i : Nat} (h : i < 8 * n) : (cn n).getD i 0 = cosine i (8 * n : Nat) := by simp [cn, List.getD, h]
theorem cn_fits {n : Nat} (hn : 1 ≤ n) : fits16 (cn n) := by
  intro z hz
  obtain ⟨i, _, rfl⟩ := List.mem_map.1 hz
  have := cosine_bd (i : Int) (d := ((8 * n : Nat) : Int)) (by omega)
  omega
theorem wn_lo {n j : Nat} (h : j < n) : wn n j = ris n j := if_pos h
theorem wn_hi {n j : Nat} (h : j < n) : wn n (2 * n - 1 - j) = ris n j := by
  unfold wn
  rw [if_neg (by omega)]
  congr 1
  omega

/-- the sum of the first k numbers times f -/
def sm (zs : List Int) (f : Nat → Int) : Nat → Int
  | 0 => 0
  | k + 1 => sm zs f k + zs.getD k 0 * f k
theorem sm_bd {zs : List Int} {f : Nat → Int} (hz : fits32 zs) (hf : ∀ i, -32767 ≤ f i ∧ f i ≤ 32767) (k : Nat) : -(70368744177664 * (k : Int)) ≤ sm zs f k ∧ sm zs f k ≤ 70368744177664 * (k : Int) := by
  induction k with
  | zero => simp [sm]
  | succ k ih =>
    have a := get_bd hz (by decide) (by decide) k
    have b := hf k
    have p := mul_bd (zs.getD k 0) (f k) 2147483648 32768 (by omega) (by omega) (by omega) (by omega)
    simp only [sm]
    omega
theorem sm_congr {zs : List Int} {f g : Nat → Int} {k : Nat} (h : ∀ i, i < k → f i = g i) : sm zs f k = sm zs g k := by
  induction k with
  | zero => rfl
  | succ k ih =>
    simp only [sm]
    rw [ih (fun i hi => h i (by omega)), h k (by omega)]
theorem sm_rep (n : Nat) (f : Nat → Int) (k : Nat) : sm (List.replicate n 0) f k = 0 := by
  induction k with
  | zero => rfl
  | succ k ih =>
    simp only [sm]
    rw [ih, getD_rep]
    simp

/-- the wave at place i of a sum that starts at 'from' and goes by 'step' -/
def wf (n : Nat) (fr st : Int) (i : Nat) : Int := cosine (fr + st * (i : Int)) (8 * n : Nat)
theorem wf_bd {n : Nat} (hn : 1 ≤ n) (fr st : Int) (i : Nat) : -32767 ≤ wf n fr st i ∧ wf n fr st i ≤ 32767 := cosine_bd _ (by omega)
theorem wf_get {n : Nat} {fr st : Int} {i p : Nat} (hp : p < 8 * n) (e : (p : Int) = (fr + st * (i : Int)) % (8 * n : Nat)) : (cn n).getD p 0 = wf n fr st i := by
  rw [cn_get hp, e]
  unfold wf
  exact cosine_emod _ _
/-- where a sum stands at place i -/
def pl (N fr st : Int) (i : Nat) : Int := (fr + st * (i : Int)) % N
theorem pl_zero (N fr st : Int) : pl N fr st 0 = fr % N := by unfold pl; simp
theorem pl_bd {N : Int} (hN : 1 ≤ N) (fr st : Int) (i : Nat) : 0 ≤ pl N fr st i ∧ pl N fr st i < N := ⟨Int.emod_nonneg _ (by omega), Int.emod_lt_of_pos _ (by omega)⟩
theorem pl_add (N fr st : Int) (i : Nat) : pl N fr st (i + 1) = (pl N fr st i + st % N) % N := by
  unfold pl
  rw [Int.emod_add_emod, Int.add_emod_emod]
  congr 1
  rw [Int.natCast_add, Int.mul_add]
  simp
  omega
theorem pl_step {N : Int} (hN : 1 ≤ N) (fr st : Int) (i : Nat) : (pl N fr st i + st % N < N ∧ pl N fr st (i + 1) = pl N fr st i + st % N) ∨ (N ≤ pl N fr st i + st % N ∧ pl N fr st (i + 1) = pl N fr st i + st % N - N) := by
  have a := pl_bd hN fr st i
  have b0 := Int.emod_nonneg st (show N ≠ 0 by omega)
  have b1 := Int.emod_lt_of_pos st (show 0 < N by omega)
  rw [pl_add]
  rcases Int.lt_or_le (pl N fr st i + st % N) N with h | h
  · exact .inl ⟨h, Int.emod_eq_of_lt (by omega) h⟩
  · refine .inr ⟨h, ?_⟩
    have e : (pl N fr st i + st % N) % N = (pl N fr st i + st % N - N) % N := by rw [Int.sub_emod_right]
    rw [e]
    exact Int.emod_eq_of_lt (by omega) (by omega)

/-- the number at place j that a lapper sums: the last samples and those of x, seen through the window -/
def aw (n : Nat) (o x : List Int) (j : Nat) : Int := rnd ((if j < n then o.getD j 0 else x.getD (j - n) 0) * wn n j) 15
def aws (n : Nat) (o x : List Int) : List Int := (List.range (2 * n)).map (aw n o x)
theorem rnd15_small {s v : Int} (s0 : -32768 ≤ s) (s1 : s ≤ 32767) (v0 : -32767 ≤ v) (v1 : v ≤ 32767) : -32768 ≤ rnd (s * v) 15 ∧ rnd (s * v) 15 ≤ 32768 := by
  have p := mul_bd s v 32768 32767 (by omega) (by omega) (by omega) (by omega)
  have h := rnd_near (s * v) 15 (by decide) (by decide)
  have e1 : (2 : Int) ^ (15 - 1 : Int).toNat = 16384 := by decide
  have e2 : (2 : Int) ^ (15 : Int).toNat = 32768 := by decide
  rw [e1, e2] at h
  omega
theorem sat32_id {x : Int} (h0 : -2147483648 ≤ x) (h1 : x ≤ 2147483647) : sat32 x = x := clip_id h0 h1
theorem aw_bd {n : Nat} {o x : List Int} (hn : 2 ≤ n) (ho : fits16 o) (hx : fits16 x) (j : Nat) : -32768 ≤ aw n o x j ∧ aw n o x j ≤ 32768 := by
  unfold aw
  have w := wn_bd n j hn
  split
  · have a := get_bd ho (by decide) (by decide) j
    exact rnd15_small a.1 a.2 w.1 w.2
  · have a := get_bd hx (by decide) (by decide) (j - n)
    exact rnd15_small a.1 a.2 w.1 w.2
theorem aws_length (n : Nat) (o x : List Int) : (aws n o x).length = 2 * n := by simp [aws]
theorem aws_get {n j : Nat} {o x : List Int} (h : j < 2 * n) : (aws n o x).getD j 0 = aw n o x j := by simp [aws, List.getD, h]
theorem aws_fits {n : Nat} {o x : List Int} (hn : 2 ≤ n) (ho : fits16 o) (hx : fits16 x) : fits32 (aws n o x) := by
  intro z hz
  obtain ⟨j, _, rfl⟩ := List.mem_map.1 hz
  have := aw_bd hn ho hx j
  omega
theorem aw_lo {n j : Nat} {o x : List Int} (h : j < n) : aw n o x j = rnd (o.getD j 0 * wn n j) 15 := by unfold aw; rw [if_pos h]
theorem aw_hi {n j : Nat} {o x : List Int} : aw n o x (n + j) = rnd (x.getD j 0 * wn n (n + j)) 15 := by unfold aw; rw [if_neg (by omega), Nat.add_sub_cancel_left]
/-- a lapper's number k -/
def lk (n : Nat) (o x : List Int) (k : Nat) : Int := sat32 (rnd (sm (aws n o x) (wf n (((n : Int) + 1) * (2 * (k : Int) + 1)) (2 * (2 * (k : Int) + 1))) (2 * n)) 15)
def lp (n : Nat) (o x : List Int) : List Int := (List.range n).map (lk n o x)
theorem lp_length (n : Nat) (o x : List Int) : (lp n o x).length = n := by simp [lp]
theorem lp_fits (n : Nat) (o x : List Int) : fits32 (lp n o x) := by
  intro z hz
  obtain ⟨j, _, rfl⟩ := List.mem_map.1 hz
  exact sat32_bd _

/-- an unlapper's number at place j -/
def uv (n : Nat) (c : List Int) (j : Nat) : Int := rnd (sm c (wf n (2 * (j : Int) + 1 + n) (2 * (2 * (j : Int) + 1 + n))) n) 15
def uy (n : Nat) (c : List Int) (j : Nat) : Int := sat32 ((2 * uv n c j + ((n / 2 : Nat) : Int)) / n)
def uz (n : Nat) (c : List Int) (j : Nat) : Int := sat32 (rnd (uy n c j * wn n j) 15)
/-- an unlapper's answer over what overlaps -/
def un (n : Nat) (o c : List Int) : List Int := (List.range n).map fun j => sat32 (uz n c j + o.getD j 0)
/-- what overlaps then -/
def ov (n : Nat) (c : List Int) : List Int := (List.range n).map fun j => uz n c (n + j)
def bk (n : Nat) (c : List Int) : List Int := (List.range (2 * n)).map (uz n c)
theorem un_length (n : Nat) (o c : List Int) : (un n o c).length = n := by simp [un]
theorem ov_length (n : Nat) (c : List Int) : (ov n c).length = n := by simp [ov]
theorem bk_length (n : Nat) (c : List Int) : (bk n c).length = 2 * n := by simp [bk]
theorem bk_get {n j : Nat} {c : List Int} (h : j < 2 * n) : (bk n c).getD j 0 = uz n c j := by simp [bk, List.getD, h]
theorem ov_get {n j : Nat} {c : List Int} (h : j < n) : (ov n c).getD j 0 = uz n c (n + j) := by simp [ov, List.getD, h]
theorem un_fits (n : Nat) (o c : List Int) : fits32 (un n o c) := by
  intro z hz
  obtain ⟨j, _, rfl⟩ := List.mem_map.1 hz
  exact sat32_bd _
theorem ov_fits (n : Nat) (c : List Int) : fits32 (ov n c) := by
  intro z hz
  obtain ⟨j, _, rfl⟩ := List.mem_map.1 hz
  exact sat32_bd _
theorem uz_bd (n : Nat) (c : List Int) (j : Nat) : -2147483648 ≤ uz n c j ∧ uz n c j ≤ 2147483647 := sat32_bd _
theorem uz_zero {n : Nat} (hn : 1 ≤ n) (k j : Nat) : uz n (List.replicate k 0) j = 0 := by
  have e1 : uv n (List.replicate k 0) j = 0 := by unfold uv; rw [sm_rep]; decide
  have e2 : uy n (List.replicate k 0) j = 0 := by
    unfold uy
    rw [e1]
    have : (2 * 0 + ((n / 2 : Nat) : Int)) / (n : Int) = 0 := Int.ediv_eq_zero_of_lt (by omega) (by omega)
    rw [this]; decide
  unfold uz
  rw [e2, Int.zero_mul]
  decide
theorem ov_zero {n : Nat} (hn : 1 ≤ n) (k : Nat) : ov n (List.replicate k 0) = List.replicate n 0 := by
  unfold ov
  rw [List.eq_replicate_iff]
  refine ⟨by simp, fun z hz => ?_⟩
  obtain ⟨j, _, rfl⟩ := List.mem_map.1 hz
  exact uz_zero hn k _
theorem lp_zero {n : Nat} (k l : Nat) : lp n (List.replicate k 0) (List.replicate l 0) = List.replicate n 0 := by
  have ha : aws n (List.replicate k 0) (List.replicate l 0) = List.replicate (2 * n) 0 := by
    unfold aws
    rw [List.eq_replicate_iff]
    refine ⟨by simp, fun z hz => ?_⟩
    obtain ⟨j, _, rfl⟩ := List.mem_map.1 hz
    unfold aw
    have e : (if j < n then (List.replicate k (0 : Int)).getD j 0 else (List.replicate l (0 : Int)).getD (j - n) 0) = 0 := by
      split <;> exact getD_rep _ _
    rw [e, Int.zero_mul]; decide
  unfold lp
  rw [List.eq_replicate_iff]
  refine ⟨by simp, fun z hz => ?_⟩
  obtain ⟨j, _, rfl⟩ := List.mem_map.1 hz
  unfold lk
  rw [ha, sm_rep]
  decide
/-- the waves as the document says them -/
theorem wf_lap (n j k : Nat) : wf n (((n : Int) + 1) * (2 * (k : Int) + 1)) (2 * (2 * (k : Int) + 1)) j = cosine ((2 * (j : Int) + 1 + n) * (2 * (k : Int) + 1)) (8 * n : Nat) := by
  unfold wf
  congr 1
  grind
theorem wf_unlap (n j k : Nat) : wf n (2 * (j : Int) + 1 + n) (2 * (2 * (j : Int) + 1 + n)) k = cosine ((2 * (j : Int) + 1 + n) * (2 * (k : Int) + 1)) (8 * n : Nat) := by
  unfold wf
  congr 1
  grind
theorem wf_at {n p : Nat} {m : Int} (hp : p < 8 * n) (e : (p : Int) = m % (8 * n : Nat)) : (cn n).getD p 0 = cosine m (8 * n : Nat) := by
  rw [cn_get hp, e]
  exact cosine_emod _ _

/-- a block of samples: those there are, then 0 -/
def pd (n : Nat) (l : List Int) (p : Nat) : List Int := (List.range n).map fun i => l.getD (p + i) 0
theorem pd_length (n : Nat) (l : List Int) (p : Nat) : (pd n l p).length = n := by simp [pd]
theorem pd_get {n i : Nat} {l : List Int} {p : Nat} (h : i < n) : (pd n l p).getD i 0 = l.getD (p + i) 0 := by simp [pd, List.getD, h]
theorem pd_fits {n : Nat} {l : List Int} {B C : Int} (hl : ∀ z ∈ l, B ≤ z ∧ z ≤ C) (hB : B ≤ 0) (hC : 0 ≤ C) (p : Nat) : ∀ z ∈ pd n l p, B ≤ z ∧ z ≤ C := by
  intro z hz
  obtain ⟨j, _, rfl⟩ := List.mem_map.1 hz
  exact get_bd hl hB hC _

end M
end Go.Proofs.YtjfhlaahgfdmnaaDoor
