/-
  Calls in memory (lists of structs), what a row of calls writes and reads, and one contract for every call, right or wrong. Conditions: as told at each.
-/
import Derived.Test.YtafjepneekomiaaBitsLaws
import Derived.Deep.Slices
import Derived.Deep.AppendLies
namespace Go.Proofs.Ytafjepneekomiaa
set_option linter.unusedVariables false
open Go.RowKit
namespace M

/-- what a call of a pad leaves: f, whether from the front -/
def nB (f : Bool) (N : Nat) (B : Nat → Bool) (h t v : Nat) (k : Int) : Nat → Bool := if mayv N h t v k = 0 then (if f then pf B h v k.toNat k.toNat else pb B N t v k.toNat) else B
def nh (f : Bool) (N h t v : Nat) (k : Int) : Nat := if mayv N h t v k = 0 ∧ f = true then h + k.toNat else h
def nt (f : Bool) (N h t v : Nat) (k : Int) : Nat := if mayv N h t v k = 0 ∧ f = false then t + k.toNat else t
/-- what is not taken is 0 -/
def Good (N : Nat) (B : Nat → Bool) (h t : Nat) : Prop := h + t ≤ N ∧ ∀ j, h ≤ j → j < N - t → B j = false
theorem Good.zero (N : Nat) : Good N (fun _ => false) 0 0 := ⟨by omega, fun _ _ _ => rfl⟩
/-- what a call of an eye tells and leaves -/
def ev (f : Bool) (N : Nat) (B : Nat → Bool) (h t : Nat) (k : Int) : Nat := if may N h t k = 0 then (if f then fv B h k.toNat else bv B N t k.toNat) else 0
def eh (f : Bool) (N h t : Nat) (k : Int) : Nat := if may N h t k = 0 ∧ f = true then h + k.toNat else h
def et (f : Bool) (N h t : Nat) (k : Int) : Nat := if may N h t k = 0 ∧ f = false then t + k.toNat else t

end M
namespace Bits

theorem nB_keep {f : Bool} {N : Nat} {B : Nat → Bool} {h t v : Nat} {k : Int} (hl : h + t ≤ N) {j : Nat} (hj : j < h ∨ N - t ≤ j) : M.nB f N B h t v k j = B j := by
  unfold M.nB
  by_cases he : M.mayv N h t v k = 0
  · rw [if_pos he]
    obtain ⟨κ, rfl, h1, h2, h3⟩ := mayv_ok he
    cases f
    · rw [if_neg (by decide), M.pb_at _ _ _ _ _ _ (by omega), if_neg (by omega)]
    · rw [if_pos rfl, M.pf_at, if_neg (by omega)]
  · rw [if_neg he]
theorem Good.next {f : Bool} {N : Nat} {B : Nat → Bool} {h t : Nat} (g : M.Good N B h t) (v : Nat) (k : Int) : M.Good N (M.nB f N B h t v k) (M.nh f N h t v k) (M.nt f N h t v k) := by
  obtain ⟨g1, g2⟩ := g
  unfold M.nB M.nh M.nt
  by_cases he : M.mayv N h t v k = 0
  · obtain ⟨κ, rfl, h1, h2, h3⟩ := mayv_ok he
    cases f
    · rw [if_pos he, if_neg (by decide), if_neg (fun h => by cases h.2), if_pos ⟨he, rfl⟩]
      refine ⟨by omega, fun j a b => ?_⟩
      rw [M.pb_at _ _ _ _ _ _ (by omega), if_neg (by omega)]
      exact g2 j (by omega) (by omega)
    · rw [if_pos he, if_pos rfl, if_pos ⟨he, rfl⟩, if_neg (fun h => by cases h.2)]
      refine ⟨by omega, fun j a b => ?_⟩
      rw [M.pf_at, if_neg (by omega)]
      exact g2 j (by omega) (by omega)
  · rw [if_neg he, if_neg (fun h => he h.1), if_neg (fun h => he h.1)]
    exact ⟨g1, g2⟩
theorem eyes_le {f : Bool} {N h t : Nat} (g : h + t ≤ N) (k : Int) : M.eh f N h t k + M.et f N h t k ≤ N := by
  unfold M.eh M.et
  by_cases he : M.may N h t k = 0
  · obtain ⟨κ, rfl, h1, h3⟩ := may_ok he
    cases f <;> simp [he] <;> omega
  · simp [he]; exact g

theorem FrontP_any (p b c d n h t v : Nat) (k : Int) (B : Nat → Bool) (w : World) (ho : Own 62 w p b c d n B h t) (hn : n ≤ 512) (hg : M.Good (8 * n) B h t) (hv : v < 4294967296) :
    Calls Try.prog 11 #[.pointer (some ⟨p, 0, none⟩), .int .u32 v, .int .i64 k] w fun e w' => e = .returned (.int .i64 (M.mayv (8 * n) h t v k)) ∧ But b d w w' ∧
      Own 62 w' p b c d n (M.nB true (8 * n) B h t v k) (M.nh true (8 * n) h t v k) (M.nt true (8 * n) h t v k) := by
  unfold M.nB M.nh M.nt
  by_cases he : M.mayv (8 * n) h t v k = 0
  · obtain ⟨κ, rfl, h1, h2, h3⟩ := mayv_ok he
    refine (FrontP_ok p b c d n h t v κ B w ho hn h3 hv he h1 hg.2).mono ?_
    rintro e w' ⟨rfl, q1, q2⟩
    rw [he, if_pos rfl, if_pos rfl, if_pos ⟨rfl, rfl⟩, if_neg (fun h => by cases h.2)]
    exact ⟨rfl, q1, q2⟩
  · refine (FrontP_err p b c d n h t v k B w ho hn hg.1 hv he).mono ?_
    rintro e w' ⟨rfl, m, rfl⟩
    rw [if_neg he, if_neg (fun h => he h.1), if_neg (fun h => he h.1)]
    exact ⟨rfl, (But.refl b d w).drewN m, ho.drewN m⟩

theorem BackP_any (p b c d n h t v : Nat) (k : Int) (B : Nat → Bool) (w : World) (ho : Own 62 w p b c d n B h t) (hn : n ≤ 512) (hg : M.Good (8 * n) B h t) (hv : v < 4294967296) :
    Calls Try.prog 10 #[.pointer (some ⟨p, 0, none⟩), .int .u32 v, .int .i64 k] w fun e w' => e = .returned (.int .i64 (M.mayv (8 * n) h t v k)) ∧ But b d w w' ∧
      Own 62 w' p b c d n (M.nB false (8 * n) B h t v k) (M.nh false (8 * n) h t v k) (M.nt false (8 * n) h t v k) := by
  unfold M.nB M.nh M.nt
  by_cases he : M.mayv (8 * n) h t v k = 0
  · obtain ⟨κ, rfl, h1, h2, h3⟩ := mayv_ok he
    refine (BackP_ok p b c d n h t v κ B w ho hn h3 hv he h1 hg.2).mono ?_
    rintro e w' ⟨rfl, q1, q2⟩
    rw [he, if_pos rfl, if_neg (by decide), if_neg (fun h => by cases h.2), if_pos ⟨rfl, rfl⟩]
    exact ⟨rfl, q1, q2⟩
  · refine (BackP_err p b c d n h t v k B w ho hn hg.1 hv he).mono ?_
    rintro e w' ⟨rfl, m, rfl⟩
    rw [if_neg he, if_neg (fun h => he h.1), if_neg (fun h => he h.1)]
    exact ⟨rfl, (But.refl b d w).drewN m, ho.drewN m⟩

theorem FrontE_any (p b c d n h t : Nat) (k : Int) (B : Nat → Bool) (w : World) (ho : Own 67 w p b c d n B h t) (hn : n ≤ 512) (hl : h + t ≤ 8 * n) :
    Calls Try.prog 20 #[.pointer (some ⟨p, 0, none⟩), .int .i64 k] w fun e w' => e = .returned (.tuple #[.int .u32 (M.ev true (8 * n) B h t k), .int .i64 (M.may (8 * n) h t k)]) ∧ But b b w w' ∧
      Own 67 w' p b c d n B (M.eh true (8 * n) h t k) (M.et true (8 * n) h t k) := by
  unfold M.ev M.eh M.et
  by_cases he : M.may (8 * n) h t k = 0
  · obtain ⟨κ, rfl, h1, h3⟩ := may_ok he
    refine (FrontE_ok p b c d n h t κ B w ho hn h3 he h1).mono ?_
    rintro e w' ⟨rfl, q1, q2⟩
    rw [he, if_pos rfl, if_pos rfl, if_pos ⟨rfl, rfl⟩, if_neg (fun h => by cases h.2)]
    exact ⟨rfl, q1, q2⟩
  · refine (FrontE_err p b c d n h t k B w ho hn hl he).mono ?_
    rintro e w' ⟨rfl, m, rfl⟩
    rw [if_neg he, if_neg (fun h => he h.1), if_neg (fun h => he h.1)]
    exact ⟨rfl, (But.refl b b w).drewN m, ho.drewN m⟩

theorem BackE_any (p b c d n h t : Nat) (k : Int) (B : Nat → Bool) (w : World) (ho : Own 67 w p b c d n B h t) (hn : n ≤ 512) (hl : h + t ≤ 8 * n) :
    Calls Try.prog 19 #[.pointer (some ⟨p, 0, none⟩), .int .i64 k] w fun e w' => e = .returned (.tuple #[.int .u32 (M.ev false (8 * n) B h t k), .int .i64 (M.may (8 * n) h t k)]) ∧ But b b w w' ∧
      Own 67 w' p b c d n B (M.eh false (8 * n) h t k) (M.et false (8 * n) h t k) := by
  unfold M.ev M.eh M.et
  by_cases he : M.may (8 * n) h t k = 0
  · obtain ⟨κ, rfl, h1, h3⟩ := may_ok he
    refine (BackE_ok p b c d n h t κ B w ho hn h3 he h1).mono ?_
    rintro e w' ⟨rfl, q1, q2⟩
    rw [he, if_pos rfl, if_neg (by decide), if_neg (fun h => by cases h.2), if_pos ⟨rfl, rfl⟩]
    exact ⟨rfl, q1, q2⟩
  · refine (BackE_err p b c d n h t k B w ho hn hl he).mono ?_
    rintro e w' ⟨rfl, m, rfl⟩
    rw [if_neg he, if_neg (fun h => he h.1), if_neg (fun h => he h.1)]
    exact ⟨rfl, (But.refl b b w).drewN m, ho.drewN m⟩

/-- a fact that the walk does not look into -/
def Hid (p : Prop) : Prop := p

/-- a call: from the back?, the number, how many bits -/
abbrev Act := Bool × Nat × Int

/-- a list of calls as it lies in memory -/
def Acts (w : World) (v : Value) (zs : List Act) : Prop :=
  ∃ a c, v = .slice a zs.length c ∧ (∀ z ∈ zs, z.2.1 < 4294967296) ∧ (zs = [] ∨ ∃ b off, a = some ⟨b, off, none⟩ ∧ b < w.heap.size ∧
    ∀ (i : Nat) (bk : Bool) (x : Nat) (k : Int), zs[i]? = some (bk, x, k) → w.cell? ⟨b, off + i * 3, none⟩ = some (.bool bk) ∧ w.cell? ⟨b, off + i * 3 + 1, none⟩ = some (.int .u32 x) ∧ w.cell? ⟨b, off + i * 3 + 2, none⟩ = some (.int .i64 k))

theorem open_acts {H : Type} {enc : TypeId × Value → H} {w : World} {base : Nat} {spare : Nat → Bool} {held : Bool} {fuel : Nat} {a : Option Addr} {len cap : Nat} {x : DataW H × List MemPlace}
    (h : DataW.trod enc Try.prog w base spare held fuel 22 [.slice a len cap] = some x) : ∃ zs, Acts w (.slice a len cap) zs := by
  rcases Deep.open_slice Try.underlying22 h with ⟨hcs, _⟩ | ⟨a', len', cap', m, n, D, Pl, hcs, hb, hl, hm, hmm, _, hx⟩
  · simp at hcs
    obtain ⟨rfl, rfl, rfl⟩ := hcs
    exact ⟨[], none, _, rfl, (fun z hz => absurd hz (by simp)), .inl rfl⟩
  · simp at hcs
    obtain ⟨rfl, rfl, rfl⟩ := hcs
    have hlm : len ≤ m := by rw [hmm]; split <;> omega
    have each : ∀ i, i < len → ∃ z : Act, z.2.1 < 4294967296 ∧ w.cell? (a'.add (i * 3)) = some (.bool z.1) ∧ w.cell? (a'.add (i * 3 + 1)) = some (.int .u32 z.2.1) ∧ w.cell? (a'.add (i * 3 + 2)) = some (.int .i64 z.2.2) := by
      intro i hi
      obtain ⟨cs', h1, h2⟩ := hx i (by omega)
      have ce : Try.prog.cellsOf 33 = 3 := by kernel_rfl
      rw [ce] at h1
      obtain ⟨_, hlen, hcell⟩ := World.cells?_some h1
      obtain ⟨xs, k, hk, hxy, _, hxl, hf⟩ := DataW.trod_struct Try.underlying33 h2
      match xs, hxl, cs', hlen with
      | [y0, y1, y2], _, [v0, v1, v2], _ =>
        have c4 : Try.prog.cellsOf 4 = 1 := by kernel_rfl
        have c31 : Try.prog.cellsOf 31 = 1 := by kernel_rfl
        have c3 : Try.prog.cellsOf 3 = 1 := by kernel_rfl
        have g0 := hf 0 _ rfl
        have g1 := hf 1 _ rfl
        have g2 := hf 2 _ rfl
        simp [c4, c31, c3] at g0 g1 g2
        have e0 := hcell 0 (by omega)
        have e1 := hcell 1 (by omega)
        have e2 := hcell 2 (by omega)
        rw [Addr.add_add] at e0 e1 e2
        obtain ⟨b0, hb0, _⟩ := DataW.trod_bool Try.underlying4 g0
        obtain ⟨n1, hn1, _, u1⟩ := DataW.trod_int Try.underlying31 g1
        obtain ⟨n2, hn2, _, _⟩ := DataW.trod_int Try.underlying3 g2
        obtain rfl := List.singleton_inj.1 hb0
        obtain rfl := List.singleton_inj.1 hn1
        obtain rfl := List.singleton_inj.1 hn2
        have w1 : 0 ≤ n1 ∧ n1 < 4294967296 := by
          simp [Lit.wf, IntKind.min, IntKind.max, IntKind.bits, IntKind.signed] at u1
          omega
        obtain ⟨N1, rfl⟩ := Int.eq_ofNat_of_zero_le w1.1
        exact ⟨(b0, N1, n2), (by have := w1.2; show N1 < 4294967296; omega), by simpa using e0, by simpa using e1, by simpa using e2⟩
    obtain ⟨q, hq⟩ := Deep.choose_lt each
    refine ⟨(List.range len).map q, some a', cap, by simp, fun z hz => ?_, ?_⟩
    · obtain ⟨i, hi, rfl⟩ := List.mem_map.1 hz
      exact (hq i (List.mem_range.1 hi)).1
    · rcases Nat.eq_zero_or_pos len with h0 | h0
      · exact .inl (by rw [h0]; rfl)
      · obtain ⟨b, off, spot⟩ := a'
        have hspot : spot = none := by simpa [Addr.add] using World.cell?_spot (hq 0 h0).2.1
        subst hspot
        refine .inr ⟨b, off, rfl, ?_, fun i bk x k hi => ?_⟩
        · have := World.block_lt_of_cell? w _ (hq 0 h0).2.1
          simpa [Addr.add] using this
        · obtain ⟨i', hi', he⟩ : ∃ i', (List.range len)[i]? = some i' ∧ q i' = (bk, x, k) := by simpa using hi
          have hlt : i < len := by have := (List.getElem?_eq_some_iff.1 hi').1; simpa using this
          obtain rfl : i = i' := by rw [List.getElem?_range hlt] at hi'; exact Option.some.inj hi'
          obtain ⟨_, k0, k1, k2⟩ := hq i hlt
          rw [he] at k0 k1 k2
          rw [Go.WideShapes.add_plain] at k0 k1 k2
          exact ⟨k0, by simpa [Nat.add_assoc] using k1, by simpa [Nat.add_assoc] using k2⟩

/-- the cells of calls -/
def flat : List Act → List Value
  | [] => []
  | z :: l => .bool z.1 :: .int .u32 z.2.1 :: .int .i64 z.2.2 :: flat l
theorem flat_length : ∀ l, (flat l).length = l.length * 3
  | [] => rfl
  | z :: l => by simp [flat, flat_length l]; omega
theorem flat_append : ∀ (l : List Act) (z : Act), flat (l ++ [z]) = flat l ++ [.bool z.1, .int .u32 z.2.1, .int .i64 z.2.2]
  | [], z => rfl
  | y :: l, z => by simp [flat, flat_append l z]
theorem flat_get : ∀ (l : List Act) (i : Nat) (z : Act), l[i]? = some z → (flat l)[i * 3]? = some (.bool z.1) ∧ (flat l)[i * 3 + 1]? = some (.int .u32 z.2.1) ∧ (flat l)[i * 3 + 2]? = some (.int .i64 z.2.2)
  | [], i, z, h => by simp at h
  | y :: l, 0, z, h => by
    obtain rfl : y = z := by simpa using h
    exact ⟨rfl, rfl, rfl⟩
  | y :: l, i + 1, z, h => by
    have := flat_get l i z (by simpa using h)
    rw [show (i + 1) * 3 = i * 3 + 3 by omega]
    exact this
theorem acts_of_owns {w : World} {base n cap : Nat} {a : Option Addr} {zs : List Act} (h : w.ownsRow base 33 3 (.slice a n cap) n (flat zs)) (hv : ∀ z ∈ zs, z.2.1 < 4294967296) : Acts w (.slice a n cap) zs ∧ n = zs.length := by
  have hl : zs.length = n := by have := h.1; rw [flat_length] at this; omega
  subst hl
  refine ⟨⟨a, cap, rfl, hv, ?_⟩, rfl⟩
  obtain ⟨_, ⟨_, h0⟩ | ⟨g, cap', cur, he, hg, hh, h1, h2, h3, h4⟩⟩ := h
  · exact .inl (List.length_eq_zero_iff.1 h0)
  · cases he
    refine .inr ⟨g, 0, rfl, (Array.getElem?_eq_some_iff.1 hh).1, fun i bk x k hi => ?_⟩
    have hlt : i < zs.length := (List.getElem?_eq_some_iff.1 hi).1
    obtain ⟨k0, k1, k2⟩ := flat_get zs i _ hi
    have cell : ∀ j u, j < zs.length * 3 → (flat zs)[j]? = some u → w.cell? ⟨g, j, none⟩ = some u := fun j u hj hu => by
      rw [← h4, List.getElem?_take_of_lt hj, Array.getElem?_toList] at hu
      simp [World.cell?, hh, hu]
    refine ⟨?_, ?_, ?_⟩
    · rw [Nat.zero_add]; exact cell _ _ (by omega) k0
    · rw [Nat.zero_add]; exact cell _ _ (by omega) k1
    · rw [Nat.zero_add]; exact cell _ _ (by omega) k2
theorem Acts.below {N : Nat} {w w' : World} {v : Value} {zs : List Act} (h : Acts w v zs) (u : Below N w w') (hN : w.heap.size ≤ N) : Acts w' v zs := by
  obtain ⟨a, c, rfl, hv, h | ⟨b, off, ha, hb, hx⟩⟩ := h
  · exact ⟨a, c, rfl, hv, .inl h⟩
  · refine ⟨a, c, rfl, hv, .inr ⟨b, off, ha, by have := u.size; omega, fun i bk x k hi => ?_⟩⟩
    rw [u.cell (show b < N by omega), u.cell (show b < N by omega), u.cell (show b < N by omega)]
    exact hx i bk x k hi

theorem owns_but {w w' : World} {base n size b d : Nat} {e : TypeId} {v : Value} {xs : List Value} (h : w.ownsRow base e size v n xs) (u : But b d w w') (hb : b < base) (hd : d < base) : w'.ownsRow base e size v n xs := by
  obtain ⟨h0, h1 | ⟨g, cap, cur, hv, hg, hh, h2⟩⟩ := h
  · exact ⟨h0, .inl h1⟩
  · exact ⟨h0, .inr ⟨g, cap, cur, hv, hg, (u.block g (Array.getElem?_eq_some_iff.1 hh).1 (by omega) (by omega)).trans hh, h2⟩⟩
theorem But.cell {b d : Nat} {w w' : World} (h : But b d w w') {a : Addr} (ha : a.block < w.heap.size) (hb : a.block ≠ b) (hd : a.block ≠ d) : w'.cell? a = w.cell? a := World.cell?_of_block (w := w) (h.block a.block ha hb hd)
theorem own_block {w : World} {base n size : Nat} {e : TypeId} {v : Value} {xs : List Value} (h : w.ownsRow base e size v n xs) : ∀ k, v.ownBlock = some k → base ≤ k := by
  obtain ⟨h0, ⟨rfl, _⟩ | ⟨g, cap, cur, rfl, hg, hh, h2⟩⟩ := h
  · intro k hk; cases hk
  · intro k hk; cases hk; exact hg

theorem own_form {w : World} {base n size : Nat} {e : TypeId} {v : Value} {xs : List Value} (h : w.ownsRow base e size v n xs) : ∃ a c, v = .slice a n c := by
  obtain ⟨h0, ⟨rfl, h1⟩ | ⟨g, cap, cur, rfl, _⟩⟩ := h
  · exact ⟨none, 0, by rw [h1]⟩
  · exact ⟨_, cap, rfl⟩
theorem src_of_owns {w : World} {base n cap : Nat} {a : Option Addr} {B : Nat → Bool} (h : w.ownsRow base 5 1 (.slice a n cap) n ((bytesL n B).map fun x : Nat => Value.int .u8 x)) : Src w (.slice a n cap) (bytesL n B) := by
  rcases Nat.eq_zero_or_pos n with h0 | h0
  · subst h0
    obtain ⟨_, ⟨he, _⟩ | ⟨g, cap', cur, he, _⟩⟩ := h
    · cases he; exact .inl ⟨rfl, rfl⟩
    · cases he; exact .inr ⟨⟨g, 0, none⟩, cap, rfl, fun i x hx => by simp [bytesL] at hx⟩
  · obtain ⟨g, rfl, _, _⟩ := owns_cell h h0
    refine .inr ⟨⟨g, 0, none⟩, cap, by rw [bytesL_length], fun i x hx => ?_⟩
    have hlt : i < n := by have := (List.getElem?_eq_some_iff.1 hx).1; rwa [bytesL_length] at this
    obtain ⟨g', he, _, hc⟩ := owns_cell h hlt
    cases he
    rw [add_at, hc]
    simp [List.getD, hx]
theorem snoc_lt {l : List Act} {bk : Bool} {x : Nat} {k : Int} (h : ∀ z ∈ l, z.2.1 < 4294967296) (hx : x < 4294967296) : ∀ z ∈ l ++ [(bk, x, k)], z.2.1 < 4294967296 := fun z hz => by
  rcases List.mem_append.1 hz with h1 | h1
  · exact h z h1
  · rw [List.mem_singleton.1 h1]; exact hx
theorem n_err {N h t v : Nat} {k : Int} {B : Nat → Bool} (f : Bool) (he : M.mayv N h t v k ≠ 0) : M.nB f N B h t v k = B ∧ M.nh f N h t v k = h ∧ M.nt f N h t v k = t := by
  unfold M.nB M.nh M.nt
  exact ⟨if_neg he, if_neg (fun h => he h.1), if_neg (fun h => he h.1)⟩
theorem own_ne {w : World} {base n size b0 : Nat} {e : TypeId} {v : Value} {xs : List Value} (h : w.ownsRow base e size v n xs) (hb : b0 < base) : some b0 ≠ v.ownBlock := fun e => by
  have := own_block h b0 e.symm; omega

end Bits
end Go.Proofs.Ytafjepneekomiaa
