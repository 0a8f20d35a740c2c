/-
  What a row of calls has written is what the same calls read: plain arithmetic. No walk.
-/
import Derived.Test.YtafjepneekomiaaBitsActs
namespace Go.Proofs.Ytafjepneekomiaa
set_option linter.unusedVariables false
open Go.RowKit
namespace Bits

/-- the bits that calls take from the front, from the back -/
def hd (l : List Act) : Nat := (l.map fun z => if z.1 then 0 else z.2.2.toNat).sum
def tl (l : List Act) : Nat := (l.map fun z => if z.1 then z.2.2.toNat else 0).sum
theorem hd_nil : hd [] = 0 := rfl
theorem tl_nil : tl [] = 0 := rfl
theorem hd_append (l m : List Act) : hd (l ++ m) = hd l + hd m := by simp [hd]
theorem tl_append (l m : List Act) : tl (l ++ m) = tl l + tl m := by simp [tl]
theorem hd_cons (z : Act) (l : List Act) : hd (z :: l) = (if z.1 then 0 else z.2.2.toNat) + hd l := by simp [hd]
theorem tl_cons (z : Act) (l : List Act) : tl (z :: l) = (if z.1 then z.2.2.toNat else 0) + tl l := by simp [tl]
/-- the number of a call lies where it reads -/
def Lies (N : Nat) (B : Nat → Bool) (z : Act) (h t : Nat) : Prop :=
  0 ≤ z.2.2 ∧ z.2.2 ≤ 32 ∧ z.2.1 < 2 ^ z.2.2.toNat ∧ h + t + z.2.2.toNat ≤ N ∧
  (z.1 = true → ∀ j, j < z.2.2.toNat → B (N - (t + j + 1)) = z.2.1.testBit j) ∧ (z.1 = false → ∀ j, j < z.2.2.toNat → B (h + j) = z.2.1.testBit (z.2.2.toNat - 1 - j))
def Stored (N : Nat) (B : Nat → Bool) (l : List Act) : Prop := ∀ l1 z l2, l = l1 ++ z :: l2 → Lies N B z (hd l1) (tl l1)
theorem Stored.nil (N : Nat) (B : Nat → Bool) : Stored N B [] := fun l1 z l2 h => by simp at h
theorem Stored.snoc {N : Nat} {B B' : Nat → Bool} {l : List Act} {z : Act} (h : Stored N B l) (hz : Lies N B' z (hd l) (tl l)) (hB : ∀ j, j < hd l ∨ N - tl l ≤ j → B' j = B j) (hl : hd l + tl l ≤ N) : Stored N B' (l ++ [z]) := by
  intro l1 y l2 he
  rcases List.eq_nil_or_concat l2 with rfl | ⟨l3, y3, rfl⟩
  · obtain ⟨rfl, h2⟩ := List.append_inj' he rfl
    obtain rfl : z = y := by simpa using h2
    exact hz
  · have he' : l ++ [z] = (l1 ++ y :: l3) ++ [y3] := by rw [he]; simp
    obtain ⟨rfl, _⟩ := List.append_inj' he' rfl
    obtain ⟨a1, a2, a3, a4, a5, a6⟩ := h l1 y l3 rfl
    rw [hd_append, tl_append, hd_cons, tl_cons] at hB hl
    refine ⟨a1, a2, a3, a4, fun hy j hj => ?_, fun hy j hj => ?_⟩
    · rw [hy, if_pos rfl, if_pos rfl] at hB
      rw [hB _ (.inr (by omega))]
      exact a5 hy j hj
    · rw [hy] at hB
      rw [hB _ (.inl (by simp; omega))]
      exact a6 hy j hj
/-- a call that a pad takes -/
theorem lies_put {N : Nat} {B : Nat → Bool} {h t v : Nat} {k : Int} (bk : Bool) (he : M.mayv N h t v k = 0) : Lies N (M.nB (!bk) N B h t v k) (bk, v, k) h t := by
  obtain ⟨κ, rfl, h1, h2, h3⟩ := mayv_ok he
  unfold M.nB
  rw [if_pos he]
  refine ⟨by simp, (by show (κ : Int) ≤ 32; omega), h2, h3, fun hb j hj => ?_, fun hb j hj => ?_⟩
  · have hb' : bk = true := hb
    have hj' : j < κ := hj
    subst hb'
    rw [if_neg (by decide)]
    show M.pb B N t v κ _ = _
    rw [M.pb_at _ _ _ _ _ _ (by omega), if_pos (by omega), show N - (t + 1) - (N - (t + j + 1)) = j by omega]
  · have hb' : bk = false := hb
    have hj' : j < κ := hj
    subst hb'
    rw [if_pos (by decide)]
    show M.pf B h v κ κ _ = v.testBit (κ - 1 - j)
    rw [M.pf_at, if_pos (by omega), show h + j - h = j by omega]
theorem hd_put {l : List Act} {N v : Nat} {k : Int} (bk : Bool) (he : M.mayv N (hd l) (tl l) v k = 0) : hd (l ++ [(bk, v, k)]) = M.nh (!bk) N (hd l) (tl l) v k ∧ tl (l ++ [(bk, v, k)]) = M.nt (!bk) N (hd l) (tl l) v k := by
  unfold M.nh M.nt
  rw [hd_append, tl_append, hd_cons, tl_cons]
  cases bk <;> simp [he, hd_nil, tl_nil]
theorem Stored.put {N : Nat} {B : Nat → Bool} {l : List Act} {v : Nat} {k : Int} (h : Stored N B l) (bk : Bool) (hl : hd l + tl l ≤ N) (he : M.mayv N (hd l) (tl l) v k = 0) : Stored N (M.nB (!bk) N B (hd l) (tl l) v k) (l ++ [(bk, v, k)]) :=
  h.snoc (lies_put bk he) (fun j hj => nB_keep hl hj) hl
/-- the same call of an eye tells the number -/
theorem lies_get {N : Nat} {B : Nat → Bool} {z : Act} {h t : Nat} (hz : Lies N B z h t) : M.may N h t z.2.2 = 0 ∧ M.ev (!z.1) N B h t z.2.2 = z.2.1 := by
  obtain ⟨a1, a2, a3, a4, a5, a6⟩ := hz
  have he : M.may N h t z.2.2 = 0 := by
    unfold M.may
    rw [if_neg (by omega), if_neg (by omega)]
  refine ⟨he, ?_⟩
  unfold M.ev
  rw [if_pos he]
  cases hb : z.1 with
  | true => rw [if_neg (by decide)]; exact M.bv_all (a5 hb) a3
  | false => rw [if_pos (by decide)]; exact M.fv_all (a6 hb) a3
theorem Stored.at {N : Nat} {B : Nat → Bool} {l : List Act} (h : Stored N B l) {i : Nat} {z : Act} (hi : l[i]? = some z) : Lies N B z (hd (l.take i)) (tl (l.take i)) := by
  obtain ⟨hlt, he⟩ := List.getElem?_eq_some_iff.1 hi
  subst he
  exact h _ _ (l.drop (i + 1)) (by rw [List.getElem_cons_drop, List.take_append_drop])
theorem hd_take {l : List Act} {i : Nat} {z : Act} (hi : l[i]? = some z) {N : Nat} (he : M.may N (hd (l.take i)) (tl (l.take i)) z.2.2 = 0) :
    hd (l.take (i + 1)) = M.eh (!z.1) N (hd (l.take i)) (tl (l.take i)) z.2.2 ∧ tl (l.take (i + 1)) = M.et (!z.1) N (hd (l.take i)) (tl (l.take i)) z.2.2 := by
  obtain ⟨hlt, he'⟩ := List.getElem?_eq_some_iff.1 hi
  rw [List.take_add_one, hi]
  unfold M.eh M.et
  rw [hd_append, tl_append, Option.toList_some, hd_cons, tl_cons]
  cases hb : z.1 <;> simp [he, hd_nil, tl_nil]
theorem hd_le {N : Nat} {B : Nat → Bool} {l : List Act} (h : Stored N B l) {i : Nat} {z : Act} (hi : l[i]? = some z) : hd (l.take i) + tl (l.take i) ≤ N := by
  obtain ⟨_, _, _, a4, _⟩ := h.at hi
  omega

end Bits
end Go.Proofs.Ytafjepneekomiaa
