/-
  What bands need and the bits that they get, in plain numbers: the slice, what it has paid for, the two goes. No walk. Conditions: none.
-/
import Derived.Test.YthlpbekfjolenaaDoorFormMath
namespace Go.Proofs.YthlpbekfjolenaaDoor
set_option linter.unusedVariables false
open Go.RowKit
namespace M

def tab4 : List Int := [-1, 0, 0, 0, -2, 0, 0, 1, -2, 0, 0, 1, -2, 0, 0, 1]
def tab8 : List Int := [-2, 0, 0, 0, 0, 0, 0, 1, -3, 0, 0, 0, 0, 0, 1, 2, -4, 0, 0, 0, 0, 0, 1, 2, -4, 0, 0, 0, 0, 0, 1, 2]
/-- a band's offset: of so many bands, of this rate -/
def off (B r b : Nat) : Int := if B = 4 then tab4.getD (4 * r + b) 0 else tab8.getD (8 * r + b) 0
theorem off_bd (B r b : Nat) : -4 ≤ off B r b ∧ off B r b ≤ 2 := by
  unfold off
  split
  · have h : ∀ z ∈ tab4, -4 ≤ z ∧ z ≤ 2 := by decide
    by_cases hl : 4 * r + b < tab4.length
    · rw [List.getD_eq_getElem?_getD, List.getElem?_eq_getElem hl]; exact h _ (List.getElem_mem hl)
    · rw [List.getD_eq_getElem?_getD, List.getElem?_eq_none (by omega)]; decide
  · have h : ∀ z ∈ tab8, -4 ≤ z ∧ z ≤ 2 := by decide
    by_cases hl : 8 * r + b < tab8.length
    · rw [List.getD_eq_getElem?_getD, List.getElem?_eq_getElem hl]; exact h _ (List.getElem_mem hl)
    · rw [List.getD_eq_getElem?_getD, List.getElem?_eq_none (by omega)]; decide
/-- what a band of scale x and offset o needs by loudness -/
def loud (x o : Int) : Int := if x = 0 then -5 else if 0 < x - o then (x - o) / 2 else x - o
theorem loud_bd {x o : Int} (h0 : 0 ≤ x) (h1 : x ≤ 15) (o0 : -4 ≤ o) (o1 : o ≤ 2) : -5 ≤ loud x o ∧ loud x o ≤ 15 := by
  unfold loud; split
  · omega
  · split <;> omega
/-- a scale -/
def sca (zss : List (List Int)) (c b : Nat) : Int := (zss.getD c []).getD b 0
/-- what band b of channel c needs -/
def need (m : Int) (B r : Nat) (zss : List (List Int)) (c b : Nat) : Int := if m = 1 then sca zss c b else loud (sca zss c b) (off B r b)
/-- are these scales of B bands? -/
def okZ (B : Nat) (zss : List (List Int)) : Prop := ∀ zs ∈ zss, zs.length = B ∧ ∀ z ∈ zs, 0 ≤ z ∧ z ≤ 15
theorem sca_bd {B : Nat} {zss : List (List Int)} (h : okZ B zss) (c b : Nat) : 0 ≤ sca zss c b ∧ sca zss c b ≤ 15 := by
  unfold sca
  by_cases hc : c < zss.length
  · have h1 := h _ (List.getElem_mem hc)
    rw [List.getD_eq_getElem?_getD (l := zss), List.getElem?_eq_getElem hc]
    simp only [Option.getD_some]
    by_cases hb : b < (zss[c]).length
    · rw [List.getD_eq_getElem?_getD, List.getElem?_eq_getElem hb]; exact h1.2 _ (List.getElem_mem hb)
    · rw [List.getD_eq_getElem?_getD, List.getElem?_eq_none (by omega)]; decide
  · rw [List.getD_eq_getElem?_getD (l := zss), List.getElem?_eq_none (by omega)]; simp
theorem need_bd {m : Int} {B r : Nat} {zss : List (List Int)} (h : okZ B zss) (c b : Nat) : -5 ≤ need m B r zss c b ∧ need m B r zss c b ≤ 15 := by
  have := sca_bd h c b
  have := off_bd B r b
  unfold need; split
  · omega
  · exact loud_bd (by omega) (by omega) (by omega) (by omega)
/-- in the order in which they are gone through, C channels -/
def nd (m : Int) (C B r : Nat) (zss : List (List Int)) (j : Nat) : Int := need m B r zss (j % C) (j / C)
theorem nd_bd {m : Int} {C B r : Nat} {zss : List (List Int)} (h : okZ B zss) (j : Nat) : -5 ≤ nd m C B r zss j ∧ nd m C B r zss j ≤ 15 := need_bd h _ _
theorem nd_at {m : Int} {C B r : Nat} {zss : List (List Int)} {c b : Nat} (hc : c < C) : nd m C B r zss (b * C + c) = need m B r zss c b := by
  unfold nd
  rw [Nat.mul_comm b C, Nat.mul_add_mod, Nat.mod_eq_of_lt hc, Nat.mul_add_div (by omega), Nat.div_eq_of_lt hc, Nat.add_zero]

/-- the bits of a band that is x above the slice -/
def h16 (x : Int) : Int := if x < 2 then 0 else if x < 16 then x else 16
/-- its costs -/
def c16 (x : Int) : Int := if x = 1 then 2 else if 2 ≤ x ∧ x < 16 then 1 else 0
theorem h16_succ (x : Int) : h16 (x + 1) = h16 x + c16 x := by
  unfold h16 c16
  repeat' split
  all_goals omega
theorem h16_bd (x : Int) : 0 ≤ h16 x ∧ h16 x ≤ 16 := by unfold h16; repeat' split
                                                        all_goals omega
theorem c16_bd (x : Int) : 0 ≤ c16 x ∧ c16 x ≤ 2 := by unfold c16; repeat' split
                                                       all_goals omega
/-- what the slice s has paid for, of N bands -/
def tot (n : Nat → Int) : Nat → Int → Int
  | 0, _ => 0
  | N + 1, s => tot n N s + h16 (n N - s)
/-- the costs of N bands at the slice s -/
def cst (n : Nat → Int) : Nat → Int → Int
  | 0, _ => 0
  | N + 1, s => cst n N s + c16 (n N - s)
theorem tot_pred (n : Nat → Int) (N : Nat) (s : Int) : tot n N (s - 1) = tot n N s + cst n N s := by
  induction N with
  | zero => rfl
  | succ N ih =>
    have := h16_succ (n N - s)
    simp only [tot, cst, ih, show n N - (s - 1) = n N - s + 1 by omega]
    omega
theorem cst_bd (n : Nat → Int) (N : Nat) (s : Int) : 0 ≤ cst n N s ∧ cst n N s ≤ 2 * N := by
  induction N with
  | zero => simp [cst]
  | succ N ih => have := c16_bd (n N - s); simp only [cst]; omega
theorem tot_bd (n : Nat → Int) (N : Nat) (s : Int) : 0 ≤ tot n N s ∧ tot n N s ≤ 16 * N := by
  induction N with
  | zero => simp [tot]
  | succ N ih => have := h16_bd (n N - s); simp only [tot]; omega
theorem tot_top (n : Nat → Int) (N : Nat) (s : Int) (h : ∀ j, j < N → n j ≤ s + 1) : tot n N s = 0 := by
  induction N with
  | zero => rfl
  | succ N ih =>
    have := h N (by omega)
    simp only [tot]
    rw [ih (fun j hj => h j (by omega))]
    unfold h16
    rw [if_pos (by omega)]; rfl
theorem tot_low (n : Nat → Int) (N : Nat) (s : Int) (h : ∀ j, j < N → s + 16 ≤ n j) : tot n N s = 16 * N := by
  induction N with
  | zero => rfl
  | succ N ih =>
    have := h N (by omega)
    simp only [tot]
    rw [ih (fun j hj => h j (by omega))]
    unfold h16
    rw [if_neg (by omega), if_neg (by omega)]; omega
theorem tot_down (n : Nat → Int) (N : Nat) (s : Int) (k : Nat) : tot n N s ≤ tot n N (s - k) := by
  induction k with
  | zero => simp
  | succ k ih =>
    have h1 := tot_pred n N (s - k)
    have h2 := cst_bd n N (s - k)
    rw [show s - ((k + 1 : Nat) : Int) = s - k - 1 by omega]
    omega
theorem tot_mono (n : Nat → Int) (N : Nat) {s t : Int} (h : s ≤ t) : tot n N t ≤ tot n N s := by
  have := tot_down n N t (t - s).toNat
  rwa [show t - ((t - s).toNat : Int) = s by omega] at this
/-- the last slice -/
def lst (n : Nat → Int) (N : Nat) (p s : Int) : Prop := tot n N s < p ∧ p ≤ tot n N (s - 1)
theorem lst_one {n : Nat → Int} {N : Nat} {p s t : Int} (h : lst n N p s) (k : lst n N p t) : s = t := by
  rcases (by omega : s = t ∨ s ≤ t - 1 ∨ t ≤ s - 1) with e | e | e
  · exact e
  · have := tot_mono n N e; have := h.1; have := k.2; omega
  · have := tot_mono n N e; have := k.1; have := h.2; omega
/-- a slice that is not yet the last lies above it -/
theorem lst_lt {n : Nat → Int} {N : Nat} {p s t : Int} (h : lst n N p s) (k : tot n N (t - 1) < p) : s < t := by
  rcases (by omega : s < t ∨ t ≤ s) with e | e
  · exact e
  · have := tot_mono n N (show t - 1 ≤ s - 1 by omega); have := h.2; omega
theorem lst_le {n : Nat → Int} {N : Nat} {p s t : Int} (h : lst n N p s) (k : tot n N t < p) : s ≤ t := by
  rcases (by omega : s ≤ t ∨ t ≤ s - 1) with e | e
  · exact e
  · have := tot_mono n N e; have := h.2; omega
theorem lst_is {n : Nat → Int} {N : Nat} {p : Int} (hn : ∀ j, j < N → -5 ≤ n j) (h0 : 0 < p) (h1 : p ≤ 16 * N) (top : Int) (ht : tot n N top < p) : ∃ s, lst n N p s ∧ -21 < s ∧ s ≤ top := by
  have key : ∀ k : Nat, p ≤ tot n N (top - k) → ∃ s, lst n N p s ∧ top - k < s ∧ s ≤ top := by
    intro k
    induction k with
    | zero => intro h; simp at h; omega
    | succ k ih =>
      intro h
      by_cases hk : p ≤ tot n N (top - k)
      · obtain ⟨s, a, b, c⟩ := ih hk
        exact ⟨s, a, by omega, c⟩
      · refine ⟨top - k, ⟨by omega, ?_⟩, by omega, by omega⟩
        rw [show top - ((k + 1 : Nat) : Int) = top - k - 1 by omega] at h
        exact h
  have hl : tot n N (-21) = 16 * N := tot_low n N _ (fun j hj => by have := hn j hj; omega)
  have hlt : -21 < top := by
    rcases (by omega : -21 < top ∨ top ≤ -21) with e | e
    · exact e
    · have := tot_mono n N e; omega
  obtain ⟨s, a, b, c⟩ := key (top + 21).toNat (by rw [show top - ((top + 21).toNat : Int) = -21 by omega]; omega)
  exact ⟨s, a, by omega, c⟩
/-- the slice behind it all: where the costs are just the pool it falls once more -/
def fin (n : Nat → Int) (N : Nat) (p s : Int) : Int := if tot n N (s - 1) = p then s - 1 else s
theorem fin_bd (n : Nat → Int) (N : Nat) (p s : Int) : s - 1 ≤ fin n N p s ∧ fin n N p s ≤ s := by unfold fin; split <;> omega
theorem fin_tot {n : Nat → Int} {N : Nat} {p s : Int} (h : lst n N p s) : tot n N (fin n N p s) ≤ p := by
  unfold fin; split
  · rename_i e; omega
  · have := h.1; omega

/-- the greatest -/
def mx (n : Nat → Int) : Nat → Int
  | 0 => -5
  | N + 1 => if mx n N < n N then n N else mx n N
theorem mx_ge (n : Nat → Int) (N j : Nat) (h : j < N) : n j ≤ mx n N := by
  induction N with
  | zero => omega
  | succ N ih =>
    simp only [mx]
    rcases (by omega : j < N ∨ j = N) with h' | rfl
    · have := ih h'; split <;> omega
    · split <;> omega
theorem mx_bd (n : Nat → Int) (N : Nat) (h : ∀ j, j < N → n j ≤ 15) : -5 ≤ mx n N ∧ mx n N ≤ 15 := by
  induction N with
  | zero => simp [mx]
  | succ N ih => have := ih (fun j hj => h j (by omega)); have := h N (by omega); simp only [mx]; split <;> omega
theorem mx_top (n : Nat → Int) (N : Nat) (s : Int) (h : mx n N ≤ s + 1) : tot n N s = 0 := tot_top n N s (fun j hj => by have := mx_ge n N j hj; omega)

/-- one band of a go with x as the sum: its bits -/
def bt1 (bg : Bool) (n s p x β : Int) : Int := if p - x ≤ 0 then β else if 2 ≤ β ∧ β < 16 then β + 1 else if bg = true ∧ n = s + 1 ∧ 2 ≤ p - x then 2 else β
/-- the sum behind it -/
def sg1 (bg : Bool) (n s p x β : Int) : Int := if p - x ≤ 0 then x else if 2 ≤ β ∧ β < 16 then x + 1 else if bg = true ∧ n = s + 1 ∧ 2 ≤ p - x then x + 2 else x
/-- the sum behind k bands of a go -/
def sg (bg : Bool) (n : Nat → Int) (s p : Int) (β : Nat → Int) (x : Int) : Nat → Int
  | 0 => x
  | k + 1 => sg1 bg (n k) s p (sg bg n s p β x k) (β k)
/-- the bits behind k bands of a go -/
def bts (bg : Bool) (n : Nat → Int) (s p : Int) (β : Nat → Int) (x : Int) (k j : Nat) : Int := if j < k then bt1 bg (n j) s p (sg bg n s p β x j) (β j) else β j
theorem sg_bd (bg : Bool) (n : Nat → Int) (s p : Int) (β : Nat → Int) (x : Int) (hx : 0 ≤ x ∧ x ≤ p) (k : Nat) : 0 ≤ sg bg n s p β x k ∧ sg bg n s p β x k ≤ p := by
  induction k with
  | zero => exact hx
  | succ k ih => simp only [sg, sg1]; repeat' split
                 all_goals omega
theorem bt1_bd {bg : Bool} {n s p x β : Int} (h : 0 ≤ β ∧ β ≤ 16) : 0 ≤ bt1 bg n s p x β ∧ bt1 bg n s p x β ≤ 16 := by
  unfold bt1; repeat' split
  all_goals omega
theorem bts_bd (bg : Bool) (n : Nat → Int) (s p : Int) (β : Nat → Int) (x : Int) (h : ∀ j, 0 ≤ β j ∧ β j ≤ 16) (k j : Nat) : 0 ≤ bts bg n s p β x k j ∧ bts bg n s p β x k j ≤ 16 := by
  unfold bts; split
  · exact bt1_bd (h j)
  · exact h j
theorem bts_zero (bg : Bool) (n : Nat → Int) (s p : Int) (β : Nat → Int) (x : Int) (j : Nat) : bts bg n s p β x 0 j = β j := by unfold bts; rw [if_neg (by omega)]
theorem bts_self (bg : Bool) (n : Nat → Int) (s p : Int) (β : Nat → Int) (x : Int) (k : Nat) : bts bg n s p β x k k = β k := by unfold bts; rw [if_neg (by omega)]
theorem bts_new (bg : Bool) (n : Nat → Int) (s p : Int) (β : Nat → Int) (x : Int) (k : Nat) : bts bg n s p β x (k + 1) k = bt1 bg (n k) s p (sg bg n s p β x k) (β k) := by unfold bts; rw [if_pos (by omega)]
theorem bts_old (bg : Bool) (n : Nat → Int) (s p : Int) (β : Nat → Int) (x : Int) {k j : Nat} (h : j ≠ k) : bts bg n s p β x (k + 1) j = bts bg n s p β x k j := by
  unfold bts
  by_cases hj : j < k
  · rw [if_pos (by omega), if_pos hj]
  · rw [if_neg (by omega), if_neg hj]
/-- when the pool is given out nothing turns any more -/
theorem sg_full (bg : Bool) (n : Nat → Int) (s p : Int) (β : Nat → Int) (x : Int) (k d : Nat) (h : p ≤ sg bg n s p β x k) : sg bg n s p β x (k + d) = sg bg n s p β x k := by
  induction d with
  | zero => rfl
  | succ d ih =>
    rw [← Nat.add_assoc]
    show sg1 bg (n (k + d)) s p (sg bg n s p β x (k + d)) (β (k + d)) = _
    rw [ih]; unfold sg1; rw [if_pos (by omega)]
theorem bts_full (bg : Bool) (n : Nat → Int) (s p : Int) (β : Nat → Int) (x : Int) (k d : Nat) (h : p ≤ sg bg n s p β x k) (j : Nat) : bts bg n s p β x (k + d) j = bts bg n s p β x k j := by
  unfold bts
  by_cases hj : j < k
  · rw [if_pos (by omega), if_pos hj]
  · rw [if_neg hj]
    by_cases hd : j < k + d
    · rw [if_pos hd]
      obtain ⟨i, rfl⟩ : ∃ i, j = k + i := ⟨j - k, by omega⟩
      rw [sg_full bg n s p β x k i h]
      unfold bt1; rw [if_pos (by omega)]
    · rw [if_neg hd]

/-- the bits of N bands, s the last slice -/
def b0 (n : Nat → Int) (N : Nat) (p s : Int) (j : Nat) : Int := h16 (n j - fin n N p s)
def x0 (n : Nat → Int) (N : Nat) (p s : Int) : Int := tot n N (fin n N p s)
def b1 (n : Nat → Int) (N : Nat) (p s : Int) (j : Nat) : Int := bts true n (fin n N p s) p (b0 n N p s) (x0 n N p s) N j
def x1 (n : Nat → Int) (N : Nat) (p s : Int) : Int := sg true n (fin n N p s) p (b0 n N p s) (x0 n N p s) N
def shr (n : Nat → Int) (N : Nat) (p s : Int) (j : Nat) : Int := bts false n (fin n N p s) p (b1 n N p s) (x1 n N p s) N j
theorem b0_bd (n : Nat → Int) (N : Nat) (p s : Int) (j : Nat) : 0 ≤ b0 n N p s j ∧ b0 n N p s j ≤ 16 := h16_bd _
theorem b1_bd (n : Nat → Int) (N : Nat) (p s : Int) (j : Nat) : 0 ≤ b1 n N p s j ∧ b1 n N p s j ≤ 16 := bts_bd _ _ _ _ _ _ (b0_bd n N p s) _ _
theorem shr_bd (n : Nat → Int) (N : Nat) (p s : Int) (j : Nat) : 0 ≤ shr n N p s j ∧ shr n N p s j ≤ 16 := bts_bd _ _ _ _ _ _ (b1_bd n N p s) _ _

end M
end Go.Proofs.YthlpbekfjolenaaDoor
