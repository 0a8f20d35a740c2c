/-
  Calls in memory (lists of structs), what a row of calls writes and reads, and one contract for every call, right or wrong. Conditions: as told at each.
-/
import Derived.Test.YtknolfpjhfpfaaaBitsLaws
import Derived.Deep.Slices
import Derived.Deep.AppendLies
namespace Go.Proofs.Ytknolfpjhfpfaaa
set_option linter.unusedVariables false
open Go.RowKit
namespace M

/-- what a call of a pad leaves: f, whether from the front -/
def nB (f : Bool) (N : Nat) (B : Nat → Bool) (h t v : Nat) (k : Int) : Nat → Bool := if mayv N h t v k = 0 then (if f then pf B h v k.toNat k.toNat else pb B N t v k.toNat) else B
def nh (f : Bool) (N h t v : Nat) (k : Int) : Nat := if mayv N h t v k = 0 ∧ f = true then h + k.toNat else h
def nt (f : Bool) (N h t v : Nat) (k : Int) : Nat := if mayv N h t v k = 0 ∧ f = false then t + k.toNat else t
/-- what is not taken is 0 -/
def Good (N : Nat) (B : Nat → Bool) (h t : Nat) : Prop := h + t ≤ N ∧ ∀ j, h ≤ j → j < N - t → B j = false
theorem Good.zero (N : Nat) : Good N (fun _ => false) 0 0 := ⟨by omega, fun _ _ _ => rfl⟩
/-- what a call of an eye tells and leaves -/
def ev (f : Bool) (N : Nat) (B : Nat → Bool) (h t : Nat) (k : Int) : Nat := if may N h t k = 0 then (if f then fv B h k.toNat else bv B N t k.toNat) else 0
def eh (f : Bool) (N h t : Nat) (k : Int) : Nat := if may N h t k = 0 ∧ f = true then h + k.toNat else h
def et (f : Bool) (N h t : Nat) (k : Int) : Nat := if may N h t k = 0 ∧ f = false then t + k.toNat else t

end M
namespace Bits

theorem nB_keep {f : Bool} {N : Nat} {B : Nat → Bool} {h t v : Nat} {k : Int} (hl : h + t ≤ N) {j : Nat} (hj : j < h ∨ N - t ≤ j) : M.nB f N B h t v k j = B j := by
  unfold M.nB
  by_cases he : M.mayv N h t v k = 0
  · rw [if_pos he]
    obtain ⟨κ, rfl, h1, h2, h3⟩ := mayv_ok he
    cases f
    · rw [if_neg (by decide), M.pb_at _ _ _ _ _ _ (by omega), if_neg (by omega)]
    · rw [if_pos rfl, M.pf_at, if_neg (by omega)]
  · rw [if_neg he]
theorem Good.next {f : Bool} {N : Nat} {B : Nat → Bool} {h t : Nat} (g : M.Good N B h t) (v : Nat) (k : Int) : M.Good N (M.nB f N B h t v k) (M.nh f N h t v k) (M.nt f N h t v k) := by
  obtain ⟨g1, g2⟩ := g
  unfold M.nB M.nh M.nt
  by_cases he : M.mayv N h t v k = 0
  · obtain ⟨κ, rfl, h1, h2, h3⟩ := mayv_ok he
    cases f
    · rw [if_pos he, if_neg (by decide), if_neg (fun h => by cases h.2), if_pos ⟨he, rfl⟩]
      refine ⟨by omega, fun j a b => ?_⟩
      rw [M.pb_at _ _ _ _ _ _ (by omega), if_neg (by omega)]
      exact g2 j (by omega) (by omega)
    · rw [if_pos he, if_pos rfl, if_pos ⟨he, rfl⟩, if_neg (fun h => by cases h.2)]
      refine ⟨by omega, fun j a b => ?_⟩
      rw [M.pf_at, if_neg (by omega)]
      exact g2 j (by omega) (by omega)
  · rw [if_neg he, if_neg (fun h => he h.1), if_neg (fun h => he h.1)]
    exact ⟨g1, g2⟩
theorem eyes_le {f : Bool} {N h t : Nat} (g : h + t ≤ N) (k : Int) : M.eh f N h t k + M.et f N h t k ≤ N := by
  unfold M.eh M.et
  by_cases he : M.may N h t k = 0
  · obtain ⟨κ, rfl, h1, h3⟩ := may_ok he
    cases f <;> simp [he] <;> omega
  · simp [he]; exact g

/-- a fact that the walk does not look into -/
def Hid (p : Prop) : Prop := p

/-- a call: from the back?, the number, how many bits -/
abbrev Act := Bool × Nat × Int

/-- a list of calls as it lies in memory -/
def Acts (w : World) (v : Value) (zs : List Act) : Prop :=
  ∃ a c, v = .slice a zs.length c ∧ (∀ z ∈ zs, z.2.1 < 4294967296) ∧ (zs = [] ∨ ∃ b off, a = some ⟨b, off, none⟩ ∧ b < w.heap.size ∧
    ∀ (i : Nat) (bk : Bool) (x : Nat) (k : Int), zs[i]? = some (bk, x, k) → w.cell? ⟨b, off + i * 3, none⟩ = some (.bool bk) ∧ w.cell? ⟨b, off + i * 3 + 1, none⟩ = some (.int .u32 x) ∧ w.cell? ⟨b, off + i * 3 + 2, none⟩ = some (.int .i64 k))

theorem owns_but {w w' : World} {base n size b d : Nat} {e : TypeId} {v : Value} {xs : List Value} (h : w.ownsRow base e size v n xs) (u : But b d w w') (hb : b < base) (hd : d < base) : w'.ownsRow base e size v n xs := by
  obtain ⟨h0, h1 | ⟨g, cap, cur, hv, hg, hh, h2⟩⟩ := h
  · exact ⟨h0, .inl h1⟩
  · exact ⟨h0, .inr ⟨g, cap, cur, hv, hg, (u.block g (Array.getElem?_eq_some_iff.1 hh).1 (by omega) (by omega)).trans hh, h2⟩⟩
theorem But.cell {b d : Nat} {w w' : World} (h : But b d w w') {a : Addr} (ha : a.block < w.heap.size) (hb : a.block ≠ b) (hd : a.block ≠ d) : w'.cell? a = w.cell? a := World.cell?_of_block (w := w) (h.block a.block ha hb hd)
theorem own_block {w : World} {base n size : Nat} {e : TypeId} {v : Value} {xs : List Value} (h : w.ownsRow base e size v n xs) : ∀ k, v.ownBlock = some k → base ≤ k := by
  obtain ⟨h0, ⟨rfl, _⟩ | ⟨g, cap, cur, rfl, hg, hh, h2⟩⟩ := h
  · intro k hk; cases hk
  · intro k hk; cases hk; exact hg

theorem own_form {w : World} {base n size : Nat} {e : TypeId} {v : Value} {xs : List Value} (h : w.ownsRow base e size v n xs) : ∃ a c, v = .slice a n c := by
  obtain ⟨h0, ⟨rfl, h1⟩ | ⟨g, cap, cur, rfl, _⟩⟩ := h
  · exact ⟨none, 0, by rw [h1]⟩
  · exact ⟨_, cap, rfl⟩
theorem src_of_owns {w : World} {base n cap : Nat} {a : Option Addr} {B : Nat → Bool} (h : w.ownsRow base 5 1 (.slice a n cap) n ((bytesL n B).map fun x : Nat => Value.int .u8 x)) : Src w (.slice a n cap) (bytesL n B) := by
  rcases Nat.eq_zero_or_pos n with h0 | h0
  · subst h0
    obtain ⟨_, ⟨he, _⟩ | ⟨g, cap', cur, he, _⟩⟩ := h
    · cases he; exact .inl ⟨rfl, rfl⟩
    · cases he; exact .inr ⟨⟨g, 0, none⟩, cap, rfl, fun i x hx => by simp [bytesL] at hx⟩
  · obtain ⟨g, rfl, _, _⟩ := owns_cell h h0
    refine .inr ⟨⟨g, 0, none⟩, cap, by rw [bytesL_length], fun i x hx => ?_⟩
    have hlt : i < n := by have := (List.getElem?_eq_some_iff.1 hx).1; rwa [bytesL_length] at this
    obtain ⟨g', he, _, hc⟩ := owns_cell h hlt
    cases he
    rw [add_at, hc]
    simp [List.getD, hx]
theorem snoc_lt {l : List Act} {bk : Bool} {x : Nat} {k : Int} (h : ∀ z ∈ l, z.2.1 < 4294967296) (hx : x < 4294967296) : ∀ z ∈ l ++ [(bk, x, k)], z.2.1 < 4294967296 := fun z hz => by
  rcases List.mem_append.1 hz with h1 | h1
  · exact h z h1
  · rw [List.mem_singleton.1 h1]; exact hx
theorem n_err {N h t v : Nat} {k : Int} {B : Nat → Bool} (f : Bool) (he : M.mayv N h t v k ≠ 0) : M.nB f N B h t v k = B ∧ M.nh f N h t v k = h ∧ M.nt f N h t v k = t := by
  unfold M.nB M.nh M.nt
  exact ⟨if_neg he, if_neg (fun h => he h.1), if_neg (fun h => he h.1)⟩
theorem own_ne {w : World} {base n size b0 : Nat} {e : TypeId} {v : Value} {xs : List Value} (h : w.ownsRow base e size v n xs) (hb : b0 < base) : some b0 ≠ v.ownBlock := fun e => by
  have := own_block h b0 e.symm; omega

end Bits
end Go.Proofs.Ytknolfpjhfpfaaa
