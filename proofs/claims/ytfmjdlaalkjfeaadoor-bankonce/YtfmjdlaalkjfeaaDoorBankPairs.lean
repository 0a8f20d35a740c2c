/-
  Questions in memory, and one contract for every question, right or wrong. Conditions: each number fits its kind; the polynomial's numbers stand as their initialiser lays them; one goroutine.
-/
import Derived.Test.YtfmjdlaalkjfeaaDoorBankAlive
import Derived.OpenShut
namespace Go.Proofs.YtfmjdlaalkjfeaaDoor
open Go.RowKit
namespace Bank

/-- a list of questions as it lies in memory -/
def Pairs (w : World) (v : Value) (zs : List (Int × Int)) : Prop :=
  (v = .slice none 0 0 ∧ zs = []) ∨ ∃ a cap, v = .slice (some a) zs.length cap ∧ zs.length ≤ cap ∧ cap ≤ maxLen ∧ ∀ i k n, zs[i]? = some (k, n) → w.cell? (a.add (i * 2)) = some (.int .i64 k) ∧ w.cell? (a.add (i * 2 + 1)) = some (.int .i64 n) ∧ (Lit.int .i64 k).wf = true ∧ (Lit.int .i64 n).wf = true
/-- .. the address written out -/
def Pairs' (w : World) (v : Value) (zs : List (Int × Int)) : Prop :=
  ∃ a c, v = .slice a zs.length c ∧ (zs = [] ∨ ∃ b off, a = some ⟨b, off, none⟩ ∧ b < w.heap.size ∧ ∀ i k n, zs[i]? = some (k, n) → w.cell? ⟨b, off + i * 2, none⟩ = some (.int .i64 k) ∧ w.cell? ⟨b, off + i * 2 + 1, none⟩ = some (.int .i64 n))
theorem Pairs.out {w : World} {v : Value} {zs : List (Int × Int)} (h : Pairs w v zs) : Pairs' w v zs := by
  rcases h with ⟨rfl, rfl⟩ | ⟨a, cap, rfl, _, _, hx⟩
  · exact ⟨none, 0, rfl, .inl rfl⟩
  · refine ⟨some a, cap, rfl, ?_⟩
    cases hz : zs with
    | nil => exact .inl rfl
    | cons q r =>
      rw [← hz]
      obtain ⟨b, off, spot⟩ := a
      have h0 := hx 0 q.1 q.2 (by rw [hz]; rfl)
      have hspot : spot = none := by simpa [Addr.add] using World.cell?_spot h0.1
      subst hspot
      refine .inr ⟨b, off, rfl, ?_, fun i k n hi => ?_⟩
      · have := World.block_lt_of_cell? w _ h0.1
        simpa [Addr.add] using this
      · have := hx i k n hi
        rw [Go.WideShapes.add_plain, Go.WideShapes.add_plain] at this
        exact ⟨this.1, this.2.1⟩

def okTDec (κ n : Nat) : Decidable (M.okT κ n) := show Decidable ((κ = 0 ∧ 4 ≤ n ∧ n ≤ 1024 ∧ n % 4 = 0) ∨ (κ = 1 ∧ 1 ≤ n ∧ n ≤ 128) ∨ (κ = 2 ∧ (n = 4 ∨ n = 8))) from instDecidableOr
def Right (k n : Int) : Prop := 0 ≤ n ∧ M.okT (kap k) n.toNat
def rightDec (k n : Int) : Decidable (Right k n) := @instDecidableAnd (0 ≤ n) (M.okT (kap k) n.toNat) (Int.decLe 0 n) (okTDec (kap k) n.toNat)
def xsOf (k n : Int) : List Value := @ite (List Value) (Right k n) (rightDec k n) (M.tabl (kap k) n.toNat) []
def cOf (k n : Int) : Int := @ite Int (Right k n) (rightDec k n) 0 1
def insOf (D : List (Nat × Nat)) (k n : Int) : List (Nat × Nat) := @ite (List (Nat × Nat)) (Right k n) (rightDec k n) (ins D (kap k) n.toNat) D
def tOf (t k n : Int) : Int := @ite Int (Right k n) (rightDec k n) (t + 1) t
theorem xsOf_ints (k n : Int) : ∀ u ∈ xsOf k n, ∃ x, u = Value.int .i16 x := by
  unfold xsOf; split
  · exact tabl_ints _ _
  · intro u hu; cases hu
theorem xsOf_len (k n : Int) : (xsOf k n).length ≤ 1024 := by
  unfold xsOf; split
  · rename_i h; rw [M.tabl_length]; exact (M.ts_bd h.2).2
  · simp
theorem insOf_len (D : List (Nat × Nat)) (k n : Int) : D.length ≤ (insOf D k n).length ∧ (insOf D k n).length ≤ D.length + 1 := by
  unfold insOf ins; split
  · split <;> simp
  · simp
theorem insOf_again (D : List (Nat × Nat)) (k n : Int) : insOf (insOf D k n) k n = insOf D k n := by
  unfold insOf
  by_cases h : Right k n
  · rw [if_pos h, if_pos h]
    exact if_pos (mem_ins D _ _)
  · rw [if_neg h, if_neg h]
theorem tOf_bd (t k n : Int) : t ≤ tOf t k n ∧ tOf t k n ≤ t + 1 := by
  unfold tOf; split <;> omega

/-- what any question leaves: v what the bank told, r what the document says -/
def Ans (b : Nat) (k n : Int) (D : List (Nat × Nat)) (t : Int) (v r : Value) (w w' : World) : Prop :=
  ∃ X B, w'.ownsRow X 35 1 v (xsOf k n).length (xsOf k n) ∧ w'.ownsRow B 35 1 r (xsOf k n).length (xsOf k n) ∧ w.heap.size ≤ X ∧ Bank b (insOf D k n) (tOf t k n) X w' ∧ But b w w'

theorem ask_all (b : Nat) (k n : Int) (D : List (Nat × Nat)) (t : Int) (N : Nat) (w : World) (hT : Wave.Tab w) (hB : Bank b D t N w) (hD : D.length ≤ 1000000) (t0 : 0 ≤ t) (t1 : t ≤ 1000000) :
    Calls Tryd.prog 8 #[.pointer (some ⟨b, 0, none⟩), .agg #[.int .i64 k, .int .i64 n]] w fun e w' => ∃ v r, e = .returned (.tuple #[v, .int .i64 (cOf k n), r]) ∧ Ans b k n D t v r w w' := by
  by_cases h : Right k n
  · obtain ⟨m, rfl⟩ : ∃ m : Nat, n = m := ⟨n.toNat, by have := h.1; omega⟩
    have e1 : xsOf k m = M.tabl (kap k) m := if_pos h
    have e2 : cOf k m = 0 := if_pos h
    have e3 : insOf D k m = ins D (kap k) m := if_pos h
    have e4 : tOf t k m = t + 1 := if_pos h
    refine (ask_ok b m k D t N w h.2 hT hB hD t0 t1).mono ?_
    rintro e w' ⟨v, r, rfl, ⟨X, h1, h2, h3, h4⟩, B, h5⟩
    refine ⟨v, r, by rw [e2], X, B, ?_, ?_, h2, ?_, h4⟩
    · rw [e1, M.tabl_length]; exact h1
    · rw [e1, M.tabl_length]; exact h5
    · rw [e3, e4]; exact h3
  · have e1 : xsOf k n = [] := if_neg h
    have e2 : cOf k n = 1 := if_neg h
    have e3 : insOf D k n = D := if_neg h
    have e4 : tOf t k n = t := if_neg h
    refine (ask_err b k n w (fun m hm ho => h ⟨by omega, by rw [hm]; exact ho⟩)).mono ?_
    rintro e w' ⟨rfl, hb⟩
    refine ⟨_, _, by rw [e2], w'.heap.size, 0, ?_, ?_, hb.size, ?_, But.of_below hb (Nat.le_refl _)⟩
    · rw [e1]; exact World.ownsRow_nil _ _ _ _
    · rw [e1]; exact World.ownsRow_nil _ _ _ _
    · rw [e3, e4]; exact (hB.below hb hB.2.1).keep (fun _ _ => rfl) (by have := hB.2.1; have := hb.size; omega) (Nat.le_refl _)

end Bank
end Go.Proofs.YtfmjdlaalkjfeaaDoor
