import Derived.Test.YtcaifpjbjghhaaaGreatDoorProg
import Derived.OwnWalk
import Derived.Laws.OwnMore
import Derived.Lib.SliceRun
import Derived.Laws.BytesArg
import Derived.Laws.IdiomStrings
import Derived.ChangeSlices
import Derived.ProofKit
import Derived.Test.YtcaifpjbjghhaaaGreatDoorSubP02
/-
  Bytes in memory that are only read, slices of them, bytes.Clone, bytes.Equal, conversions from and to strings. Conditions: as told at each. No function of the program is in it.
-/
namespace Go.Proofs.YtcaifpjbjghhaaaGreatDoor
set_option linter.unusedVariables false
open Go.RowKit
namespace Byt
open Bits (Blk But add_at wrap_id)

def Given (w : World) (v : Value) (xs : List Nat) : Prop :=
  ∃ a c, v = .slice a xs.length c ∧ xs.length ≤ c ∧ (∀ x ∈ xs, x < 256) ∧ (a = none → c = 0) ∧ (xs = [] ∨ ∃ b off, a = some ⟨b, off, none⟩ ∧ b < w.heap.size ∧ ∀ (i x : Nat), xs[i]? = some x → w.cell? ⟨b, off + i, none⟩ = some (.int .u8 x))
theorem Given.below {N : Nat} {w w' : World} {v : Value} {xs : List Nat} (h : Given w v xs) (u : Below N w w') (hN : w.heap.size ≤ N) : Given w' v xs := by
  obtain ⟨a, c, rfl, hl, hv, hnil, h | ⟨b, off, ha, hb, hx⟩⟩ := h
  · exact ⟨a, c, rfl, hl, hv, hnil, .inl h⟩
  · refine ⟨a, c, rfl, hl, hv, hnil, .inr ⟨b, off, ha, by have := u.size; omega, fun i x hi => ?_⟩⟩
    rw [u.cell (show b < N by omega)]
    exact hx i x hi
theorem Given.drewN {w : World} {v : Value} {xs : List Nat} (h : Given w v xs) (m : Nat) : Given (w.drewN m) v xs := h
theorem Given.nil (w : World) : Given w (.slice none 0 0) [] := ⟨none, 0, rfl, Nat.le_refl _, fun x hx => absurd hx (by simp), fun _ => rfl, .inl rfl⟩
theorem Given.lt {w : World} {v : Value} {xs : List Nat} (h : Given w v xs) : ∀ x ∈ xs, x < 256 := by
  obtain ⟨_, _, _, _, hv, _⟩ := h; exact hv
theorem Given.form {w : World} {v : Value} {xs : List Nat} (h : Given w v xs) : ∃ a c, v = .slice a xs.length c ∧ xs.length ≤ c := by
  obtain ⟨a, c, hv, hl, _⟩ := h; exact ⟨a, c, hv, hl⟩
def from_ (a : Option Addr) (c m : Nat) : Option Addr := if c = m then a else a.map (·.add m)
theorem Given.drop {w : World} {a : Option Addr} {c : Nat} {xs : List Nat} {l : Nat} (h : Given w (.slice a l c) xs) (m : Nat) (hm : m ≤ xs.length) : Given w (.slice (from_ a c m) (l - m) (c - m)) (xs.drop m) := by
  obtain ⟨a', c', he, hl, hv, hnil, h⟩ := h
  cases he
  refine ⟨from_ a c m, c - m, by simp, by simp; omega, fun x hx => hv x (List.mem_of_mem_drop hx), fun hn => ?_, ?_⟩
  · unfold from_ at hn
    split at hn
    · have := hnil hn; omega
    · have := hnil (by simpa using hn); omega
  · rcases h with h | ⟨b, off, ha, hb, hx⟩
    · exact .inl (by rw [h]; simp)
    · by_cases hc : c = m
      · exact .inl (by apply List.eq_nil_of_length_eq_zero; simp; omega)
      · refine .inr ⟨b, off + m, ?_, hb, fun i x hi => ?_⟩
        · unfold from_
          rw [if_neg hc, ha]
          show some (Addr.add _ _) = _
          rw [Go.WideShapes.add_plain]
        · rw [List.getElem?_drop] at hi
          rw [Nat.add_assoc]
          exact hx _ _ hi
theorem Given.cell {w : World} {a : Option Addr} {c l : Nat} {xs : List Nat} (h : Given w (.slice a l c) xs) {i : Nat} (hi : i < xs.length) : ∃ b off, a = some ⟨b, off, none⟩ ∧ b < w.heap.size ∧ w.cell? ⟨b, off + i, none⟩ = some (.int .u8 (xs.getD i 0 : Nat)) := by
  obtain ⟨a', c', he, hl, hv, hnil, h | ⟨b, off, ha, hb, hx⟩⟩ := h
  · rw [h] at hi; simp at hi
  · cases he
    exact ⟨b, off, ha, hb, by rw [hx i _ (List.getElem?_eq_getElem hi)]; simp [List.getD, List.getElem?_eq_getElem hi]⟩

theorem elem8 : Tryz.prog.elem 47 = 5 := by simp [Program.elem, Tryz.underlying47]
theorem info8 : (Tryz.prog.info? 5).map (fun i => (i.zero, i.size, i.bytes)) = some (some (.int .u8 0), 1, 1) := by kernel_rfl
theorem size8 (w : World) : (Go.sizeOf 5).run Tryz.prog w = .ok 1 w := by kernel_rfl
def head_ (a : Option Addr) (c : Nat) : Option Addr := if c = 0 then a else a.map (·.add (0 * 1))
theorem run_head (a : Option Addr) (l c m : Nat) (hm : m ≤ c) (w : World) : (Instr.slice 47 (.slice a l c) none (some (.int .i64 (m : Int))) none).run Tryz.prog w = .ok (.slice (head_ a c) m c) w := by
  rw [run_slice_h (P := Tryz.prog) w 47 a l c (by rw [elem8]; exact Tryz.underlying47) .i64 m (by omega) (by omega), elem8, size8]
  show Result.ok (Go.sliced a 0 (m : Int).toNat c 1) w = _
  unfold Go.sliced head_
  simp
theorem Given.head {w : World} {a : Option Addr} {c : Nat} {xs : List Nat} {l : Nat} (h : Given w (.slice a l c) xs) (m : Nat) (hm : m ≤ xs.length) : Given w (.slice (head_ a c) m c) (xs.take m) := by
  obtain ⟨a', c', he, hl, hv, hnil, h⟩ := h
  cases he
  refine ⟨head_ a c, c, by simp [Nat.min_eq_left hm], by simp; omega, fun x hx => hv x (List.mem_of_mem_take hx), fun hn => ?_, ?_⟩
  · unfold head_ at hn
    split at hn
    · exact hnil hn
    · exact hnil (by simpa using hn)
  · rcases h with h | ⟨b, off, ha, hb, hx⟩
    · exact .inl (by rw [h]; simp)
    · refine .inr ⟨b, off, ?_, hb, fun i x hi => hx i x ?_⟩
      · unfold head_
        subst ha
        split
        · rfl
        · show some (Addr.add _ _) = _
          rw [Go.WideShapes.add_plain]
          simp
      · rw [List.getElem?_take] at hi
        split at hi
        · exact hi
        · cases hi
theorem run_rest (a : Option Addr) (l c m : Nat) (hm : m ≤ l) (w : World) : (Instr.slice 47 (.slice a l c) (some (.int .i64 (m : Int))) none none).run Tryz.prog w = .ok (.slice (from_ a c m) (l - m) (c - m)) w := by
  rw [run_slice_l (P := Tryz.prog) w 47 a l c (by rw [elem8]; exact Tryz.underlying47) .i64 m (by omega) (by omega), elem8, size8]
  show Result.ok (Go.sliced a (m : Int).toNat l c 1) w = _
  unfold Go.sliced from_
  simp
def str (xs : List Nat) : ByteArray := strOfNums (xs.map fun x : Nat => (x : Int))
theorem str_inj {xs ys : List Nat} (hx : ∀ x ∈ xs, x < 256) (hy : ∀ y ∈ ys, y < 256) (h : str xs = str ys) : xs = ys := by
  have h1 := congrArg (fun s : ByteArray => s.data.toList.map UInt8.toNat) h
  simp only [str, strOfNums_data, List.map_map] at h1
  have e : ∀ zs : List Nat, (∀ z ∈ zs, z < 256) → zs.map (UInt8.toNat ∘ (fun n : Int => UInt8.ofNat n.toNat) ∘ fun x : Nat => (x : Int)) = zs := fun zs hz => by
    conv => rhs; rw [← List.map_id zs]
    refine List.map_congr_left fun z hm => ?_
    have hz' := hz z hm
    show (UInt8.ofNat (z : Int).toNat).toNat = z
    rw [Int.toNat_natCast, UInt8.toNat_ofNat']
    exact Nat.mod_eq_of_lt hz'
  rw [e _ hx, e _ hy] at h1
  exact h1
theorem str_eq {xs ys : List Nat} (hx : ∀ x ∈ xs, x < 256) (hy : ∀ y ∈ ys, y < 256) : ((str xs).toList == (str ys).toList) = decide (xs = ys) := by
  by_cases h : xs = ys
  · subst h; simp
  · rw [decide_eq_false h]
    refine beq_eq_false_iff_ne.2 fun e => h (str_inj hx hy ?_)
    rw [ByteArray.toList_eq, ByteArray.toList_eq] at e
    exact ByteArray.ext (Array.toList_inj.1 e)
theorem run_str {w : World} {v : Value} {xs : List Nat} (h : Given w v xs) : (convert 47 9 v).run Tryz.prog w = .ok (.string (str xs)) w := by
  obtain ⟨a, c, rfl, hl, hv, hnil, h | ⟨b, off, ha, hb, hx⟩⟩ := h
  · subst h
    cases a with
    | none => exact run_convert_bytes_nil w _ _ Tryz.underlying47 Tryz.underlying5 _ _ _ Tryz.underlying9
    | some a => exact run_convert_bytes_back w _ _ _ a c [] Tryz.underlying47 Tryz.underlying5 Tryz.underlying9 (fun j hj => by simp at hj)
  · subst ha
    refine run_convert_bytes_arg w _ _ Tryz.underlying47 Tryz.underlying5 b off _ c _ (by simp) (fun i hi => ?_) _ Tryz.underlying9
    rw [hx i _ (List.getElem?_eq_getElem hi)]
    simp [List.getD, List.getElem?_eq_getElem hi]

theorem given_own {w : World} {base : Nat} {v : Value} {xs : List Nat} (h : w.ownsRow base 5 1 v xs.length (xs.map fun x : Nat => Value.int .u8 x)) (hx : ∀ x ∈ xs, x < 256) : Given w v xs := by
  obtain ⟨_, ⟨rfl, h0⟩ | ⟨g, cap, cur, rfl, hg, hh, h1, h2, h3, h4⟩⟩ := h
  · have : xs = [] := List.eq_nil_of_length_eq_zero h0
    subst this
    exact Given.nil w
  · refine ⟨_, cap, rfl, by omega, hx, (fun h => by cases h), Or.inr ⟨g, 0, rfl, (Array.getElem?_eq_some_iff.1 hh).1, fun i x hi => ?_⟩⟩
    have hlt := (List.getElem?_eq_some_iff.1 hi).1
    have : (cur.toList.take (xs.length * 1))[i]? = (xs.map fun x : Nat => Value.int .u8 x)[i]? := by rw [h4]
    rw [List.getElem?_take_of_lt (by omega), Array.getElem?_toList, List.getElem?_map, hi] at this
    simp [World.cell?, hh, this]

theorem owns_below {w w' : World} {base n size N : Nat} {e : TypeId} {v : Value} {xs : List Value} (h : w.ownsRow base e size v n xs) (u : Below N w w') (hN : w.heap.size ≤ N) : w'.ownsRow base e size v n xs := by
  obtain ⟨h0, h1 | ⟨g, cap, cur, hv, hg, hh, h2⟩⟩ := h
  · exact ⟨h0, .inl h1⟩
  · have := (Array.getElem?_eq_some_iff.1 hh).1
    exact ⟨h0, .inr ⟨g, cap, cur, hv, hg, (u.block g (by omega)).trans hh, h2⟩⟩
theorem owns_base {w : World} {base base' n size : Nat} {e : TypeId} {v : Value} {xs : List Value} (h : w.ownsRow base e size v n xs) (hb : base' ≤ base) : w.ownsRow base' e size v n xs := by
  obtain ⟨h0, h1 | ⟨g, cap, cur, hv, hg, h2⟩⟩ := h
  · exact ⟨h0, .inl h1⟩
  · exact ⟨h0, .inr ⟨g, cap, cur, hv, by omega, h2⟩⟩
theorem owns_block {w : World} {base n size : Nat} {e : TypeId} {v : Value} {xs : List Value} (h : w.ownsRow base e size v n xs) : ∀ k, v.ownBlock = some k → base ≤ k := by
  obtain ⟨h0, ⟨rfl, _⟩ | ⟨g, cap, cur, rfl, hg, hh, h2⟩⟩ := h
  · intro k hk; cases hk
  · intro k hk; cases hk; exact hg

theorem equal_any (u v : Value) (xs ys : List Nat) (w : World) (hu : Given w u xs) (hv : Given w v ys) :
    Calls Tryz.prog 76 #[u, v] w fun e w' => e = .returned (.bool (decide (xs = ys))) ∧ w' = w := by
  have h1 := run_str hu
  have h2 := run_str hv
  go_enter Tryz.func76, Tryz.ntmps76
  go_wp2
  go_ret
  refine ⟨?_, rfl⟩
  rw [← str_eq hu.lt hv.lt]
  rfl

end Byt
end Go.Proofs.YtcaifpjbjghhaaaGreatDoor

