/-
  Bits turned side by side, by plain arithmetic: what is left of a sealed list of bytes never fits its sum. No walk.
-/
import Derived.Test.YtifafoecejnhkaaCheckBack
namespace Go.Proofs.Ytifafoecejnhkaa
set_option linter.unusedVariables false
namespace M

theorem horn_xor : ∀ (b0 b1 b2 b3 b4 b5 b6 b7 : Bool) (s : Fin 8), (horn [b0, b1, b2, b3, b4, b5, b6, b7] 0 ^^^ 2 ^ (7 - s.val)) = horn (([b0, b1, b2, b3, b4, b5, b6, b7]).set s.val (!([b0, b1, b2, b3, b4, b5, b6, b7].getD s.val false))) 0 := by decide +kernel
theorem xor_byte (B : Nat → Bool) (i : Nat) : byteOf B (i / 8) ^^^ 2 ^ (7 - i % 8) = byteOf (upd B i (!B i)) (i / 8) := by
  have h := horn_xor (B (8 * (i / 8))) (B (8 * (i / 8) + 1)) (B (8 * (i / 8) + 2)) (B (8 * (i / 8) + 3)) (B (8 * (i / 8) + 4)) (B (8 * (i / 8) + 5)) (B (8 * (i / 8) + 6)) (B (8 * (i / 8) + 7)) ⟨i % 8, by omega⟩
  refine Eq.trans h ?_
  obtain ⟨q, hq⟩ : ∃ q, q = i / 8 := ⟨_, rfl⟩
  rw [← hq]
  have e : i = 8 * q + i % 8 := by omega
  rcases (by omega : i % 8 = 0 ∨ i % 8 = 1 ∨ i % 8 = 2 ∨ i % 8 = 3 ∨ i % 8 = 4 ∨ i % 8 = 5 ∨ i % 8 = 6 ∨ i % 8 = 7) with k | k | k | k | k | k | k | k <;> (rw [k] at e; subst e; simp [byteOf, upd])
/-- m bits turned from place f on -/
def flip (B : Nat → Bool) (f T : Nat) : Nat → Nat → Bool
  | 0 => B
  | m + 1 => if T.testBit m then upd (flip B f T m) (f + m) (!(flip B f T m (f + m))) else flip B f T m
/-- whether one of the first m was turned -/
def anyT (T : Nat) : Nat → Bool
  | 0 => false
  | m + 1 => T.testBit m || anyT T m
theorem flip_at (B : Nat → Bool) (f T m i : Nat) : flip B f T m i = (B i ^^ (decide (f ≤ i ∧ i < f + m) && T.testBit (i - f))) := by
  induction m generalizing i with
  | zero => rw [decide_eq_false (by omega)]; simp [flip]
  | succ m ih =>
    show (if T.testBit m then upd (flip B f T m) (f + m) (!(flip B f T m (f + m))) else flip B f T m) i = _
    by_cases hi : i = f + m
    · subst hi
      rw [decide_eq_true (show f ≤ f + m ∧ f + m < f + (m + 1) by omega), show f + m - f = m by omega, Bool.true_and]
      have h0 : flip B f T m (f + m) = B (f + m) := by rw [ih, decide_eq_false (by omega)]; simp
      cases hT : T.testBit m
      · simp [h0]
      · simp [upd, h0]
    · have e : decide (f ≤ i ∧ i < f + (m + 1)) = decide (f ≤ i ∧ i < f + m) := by
        by_cases c : f ≤ i ∧ i < f + m
        · rw [decide_eq_true c, decide_eq_true (by omega)]
        · rw [decide_eq_false c, decide_eq_false (by omega)]
      rw [e, ← ih]
      split
      · unfold upd; rw [if_neg hi]
      · rfl
theorem anyT_false (T m : Nat) (h : anyT T m = false) : ∀ j, j < m → T.testBit j = false := by
  induction m with
  | zero => intro j hj; omega
  | succ m ih =>
    have h' : (T.testBit m || anyT T m) = false := h
    rw [Bool.or_eq_false_iff] at h'
    intro j hj
    rcases Nat.lt_or_ge j m with c | c
    · exact ih h'.2 j c
    · obtain rfl : j = m := by omega
      exact h'.1
theorem anyT_true (T m : Nat) (h : anyT T m = true) : ∃ j, j < m ∧ T.testBit j = true := by
  induction m with
  | zero => cases h
  | succ m ih =>
    have h' : (T.testBit m || anyT T m) = true := h
    rcases Bool.or_eq_true_iff.1 h' with c | c
    · exact ⟨m, by omega, c⟩
    · obtain ⟨j, hj, e⟩ := ih c
      exact ⟨j, by omega, e⟩
theorem flip_none (B : Nat → Bool) (f T m : Nat) (h : anyT T m = false) : flip B f T m = B := by
  funext i
  rw [flip_at]
  by_cases c : f ≤ i ∧ i < f + m
  · rw [anyT_false T m h (i - f) (by omega)]; simp
  · rw [decide_eq_false c]; simp

/-- bits as a list of bytes -/
def listOf (B : Nat → Bool) (L : Nat) : List Nat := (List.range L).map (byteOf B)
theorem listOf_length (B : Nat → Bool) (L : Nat) : (listOf B L).length = L := by simp [listOf]
theorem listOf_lt (B : Nat → Bool) (L : Nat) : ∀ x ∈ listOf B L, x < 256 := by
  intro x hx
  obtain ⟨j, _, rfl⟩ := List.mem_map.1 hx
  exact byteOf_lt B j
theorem listOf_getElem (B : Nat → Bool) (L i x : Nat) (h : (listOf B L)[i]? = some x) : i < L ∧ x = byteOf B i := by
  have hlt := (List.getElem?_eq_some_iff.1 h).1
  rw [listOf_length] at hlt
  simp [listOf, hlt] at h
  exact ⟨hlt, h.symm⟩
theorem bitL_listOf (B : Nat → Bool) (L i : Nat) (h : i < 8 * L) : bitL (listOf B L) i = B i := by
  have e : bitL (listOf B L) i = bitsOf (byteOf B) i := by
    unfold bitL bitsOf
    simp [listOf, List.getD, show i / 8 < L by omega]
  rw [e, bitsOf_byteOf]
theorem listOf_bitL (ys : List Nat) (h : ∀ x ∈ ys, x < 256) : listOf (bitL ys) ys.length = ys := by
  refine List.ext_getElem (by rw [listOf_length]) fun j h1 h2 => ?_
  simp only [listOf, List.getElem_map, List.getElem_range]
  have e : ys.getD j 0 = ys[j] := by simp [List.getD, List.getElem?_eq_getElem h2]
  have := byteOf_bitsOf (fun i => ys.getD i 0) j (by show ys.getD j 0 < 256; rw [e]; exact h _ (List.getElem_mem h2))
  exact this.trans e

/-- what fits its sum leaves nothing -/
theorem fits_zero (n s p N m : Nat) (zs : List Nat) (hn : n = 8 * N) (hp : p < 2 ^ n) (hs : s < 2 ^ n) (hl : zs.length = m + N) (h : zs.drop m = tail N (run n p (bitL (zs.take m)) s (8 * m))) : run n p (bitL zs) s (8 * (m + N)) = 0 := by
  have hd : zs = zs.take m ++ zs.drop m := (List.take_append_drop m zs).symm
  have htl : (zs.take m).length = m := by simp; omega
  have h1 : run n p (bitL zs) s (8 * m) = run n p (bitL (zs.take m)) s (8 * m) := by
    refine run_congr _ _ _ _ _ _ fun i hi => ?_
    conv => lhs; rw [hd]
    rw [bitL_append, if_pos (by omega)]
  obtain ⟨R, hR⟩ : ∃ R, R = run n p (bitL (zs.take m)) s (8 * m) := ⟨_, rfl⟩
  have hRl : R < 2 ^ n := by rw [hR]; exact run_lt _ _ _ _ _ hp hs
  rw [← hR] at h h1
  rw [show 8 * (m + N) = 8 * m + n by omega, run_add, h1]
  rw [run_congr n p R _ (fun i => R.testBit (n - 1 - i)) n fun i hi => ?_]
  · exact run_out n p R hRl
  · show bitL zs (8 * m + i) = _
    rw [hd, bitL_append, htl, if_neg (by omega), show 8 * m + i - 8 * m = i by omega, h, bitL_tail N R i (by omega), hn]
/-- turned bits leave something -/
theorem turned (n s p N m f T : Nat) (ys : List Nat) (hn : n = 8 * N) (hn0 : 0 < n) (hodd : p % 2 = 1) (hp : p < 2 ^ n) (hs : s < 2 ^ n) (hl : ys.length = m + N) (hy : ys.drop m = tail N (run n p (bitL (ys.take m)) s (8 * m))) (hf : f + n ≤ 8 * (m + N)) (hany : anyT T n = true) :
    (listOf (flip (bitL ys) f T n) (m + N)).drop m ≠ tail N (run n p (bitL ((listOf (flip (bitL ys) f T n) (m + N)).take m)) s (8 * m)) := by
  intro h
  have z1 := fits_zero n s p N m ys hn hp hs hl hy
  have z2 := fits_zero n s p N m _ hn hp hs (listOf_length _ _) h
  rw [run_congr n p s _ (fun i => bitL ys i ^^ (decide (f ≤ i ∧ i < f + n) && T.testBit (i - f))) _ fun i hi => by rw [bitL_listOf _ _ _ hi, flip_at]] at z2
  have hx := run_xor n p s 0 (bitL ys) (fun i => decide (f ≤ i ∧ i < f + n) && T.testBit (i - f)) (8 * (m + N))
  rw [Nat.xor_zero, z2, z1, Nat.zero_xor] at hx
  obtain ⟨j, hj, hT⟩ := anyT_true T n hany
  refine run_burst n p f (8 * (m + N) - f - n) (fun i => decide (f ≤ i ∧ i < f + n) && T.testBit (i - f)) hn0 hodd hp (fun i hi => ?_) (fun i h1 h2 => ?_) j hj ?_ ?_
  · show (decide (f ≤ i ∧ i < f + n) && _) = false
    rw [decide_eq_false (by omega)]; rfl
  · show (decide (f ≤ i ∧ i < f + n) && _) = false
    rw [decide_eq_false (by omega)]; rfl
  · show (decide (f ≤ f + j ∧ f + j < f + n) && T.testBit (f + j - f)) = true
    rw [decide_eq_true (by omega), show f + j - f = j by omega, hT]; rfl
  · rw [show f + n + (8 * (m + N) - f - n) = 8 * (m + N) by omega]
    exact hx.symm

end M
end Go.Proofs.Ytifafoecejnhkaa
