/-
  What the laws of layer 7 share: symbols of tables in memory, far, alive. Conditions: as told at each.
-/
import Derived.Test.YtknolfpjhfpfaaaArithOpen
import Derived.Deep.SlicePairs
namespace Go.Proofs.Ytknolfpjhfpfaaa
set_option linter.unusedVariables false
open Go.RowKit
namespace Ari
open Bits (Blk But add_at wrap_id bytesL)
open Num (Ints)

abbrev One := List Int × Int
/-- symbols of tables that lie somewhere, and are only read -/
def Ones (w : World) (v : Value) (zs : List One) : Prop :=
  ∃ a c, v = .slice a zs.length c ∧ (∀ z ∈ zs, -9223372036854775808 ≤ z.2 ∧ z.2 ≤ 9223372036854775807) ∧ (zs = [] ∨ ∃ b off, a = some ⟨b, off, none⟩ ∧ b < w.heap.size ∧
    ∀ (i : Nat) (t : List Int) (s : Int), zs[i]? = some (t, s) → ∃ u, w.cell? ⟨b, off + i * 2, none⟩ = some u ∧ w.cell? ⟨b, off + i * 2 + 1, none⟩ = some (.int .i64 s) ∧ Ints w u t)
theorem Ones.below {N : Nat} {w w' : World} {v : Value} {zs : List One} (h : Ones w v zs) (u : Below N w w') (hN : w.heap.size ≤ N) : Ones w' v zs := by
  obtain ⟨a, c, rfl, hv, h | ⟨b, off, ha, hb, hx⟩⟩ := h
  · exact ⟨a, c, rfl, hv, .inl h⟩
  · refine ⟨a, c, rfl, hv, .inr ⟨b, off, ha, by have := u.size; omega, fun i t s hi => ?_⟩⟩
    obtain ⟨q, h1, h2, h3⟩ := hx i t s hi
    exact ⟨q, (u.cell (show b < N by omega)).trans h1, (u.cell (show b < N by omega)).trans h2, h3.below u hN⟩
theorem Ones.drewN {w : World} {v : Value} {zs : List One} (h : Ones w v zs) (m : Nat) : Ones (w.drewN m) v zs := h
theorem Ones.form {w : World} {v : Value} {zs : List One} (h : Ones w v zs) : ∃ a c, v = .slice a zs.length c := by
  obtain ⟨a, c, hv, _⟩ := h; exact ⟨a, c, hv⟩
theorem Ones.cell {w : World} {a : Option Addr} {c l : Nat} {zs : List One} (h : Ones w (.slice a l c) zs) {i : Nat} {t : List Int} {s : Int} (hi : zs[i]? = some (t, s)) :
    ∃ b off, a = some ⟨b, off, none⟩ ∧ b < w.heap.size ∧ ∃ a' c', w.cell? ⟨b, off + i * 2, none⟩ = some (.slice a' t.length c') ∧ w.cell? ⟨b, off + i * 2 + 1, none⟩ = some (.int .i64 s) ∧ Ints w (.slice a' t.length c') t := by
  obtain ⟨a', c', he, hv, h | ⟨b, off, ha, hb, hx⟩⟩ := h
  · rw [h] at hi; simp at hi
  · cases he
    obtain ⟨q, h1, h2, h3⟩ := hx i t s hi
    obtain ⟨a', c', rfl, _⟩ := h3.form
    exact ⟨b, off, ha, hb, a', c', h1, h2, h3⟩

theorem open_ones {H : Type} {enc : TypeId × Value → H} {w : World} {base : Nat} {spare : Nat → Bool} {held : Bool} {fuel : Nat} {a : Option Addr} {len cap : Nat} {x : DataW H × List MemPlace}
    (h : DataW.trod enc Try.prog w base spare held fuel 22 [.slice a len cap] = some x) : ∃ zs, Ones w (.slice a len cap) zs := by
  rcases Deep.open_slice_pairs Try.underlying22 Try.underlying31 (by kernel_rfl) rfl rfl (by kernel_rfl) (by kernel_rfl) h with ⟨hcs, _⟩ | ⟨a', len', cap', m, n, V0, V1, D0, D1, P0, P1, hcs, _, hl, hm, hmm, _, hx⟩
  · simp at hcs
    obtain ⟨rfl, rfl, rfl⟩ := hcs
    exact ⟨[], none, _, rfl, (fun z hz => absurd hz (by simp)), .inl rfl⟩
  · simp at hcs
    obtain ⟨rfl, rfl, rfl⟩ := hcs
    have hlm : len ≤ m := by rw [hmm]; split <;> omega
    have each : ∀ i, i < len → ∃ z : One, (-9223372036854775808 ≤ z.2 ∧ z.2 ≤ 9223372036854775807) ∧ w.cell? (a'.add (i * 2)) = some (V0 i) ∧ w.cell? (a'.add (i * 2 + 1)) = some (.int .i64 z.2) ∧ Ints w (V0 i) z.1 := by
      intro i hi
      obtain ⟨q0, q1, s0, s1⟩ := hx i (by omega)
      obtain ⟨t, ht⟩ := Num.open_any s0
      obtain ⟨x1, hx1, _, u1⟩ := DataW.trod_int Try.underlying3 s1
      rw [List.singleton_inj.1 hx1] at q1
      exact ⟨(t, x1), by simpa [Lit.wf, IntKind.min, IntKind.max, IntKind.bits, IntKind.signed] using u1, q0, q1, ht⟩
    obtain ⟨q, hq⟩ := Deep.choose_lt each
    refine ⟨(List.range len).map q, some a', cap, by simp, fun z hz => ?_, ?_⟩
    · obtain ⟨i, hi, rfl⟩ := List.mem_map.1 hz
      exact (hq i (List.mem_range.1 hi)).1
    · rcases Nat.eq_zero_or_pos len with h0 | h0
      · exact .inl (by rw [h0]; rfl)
      · obtain ⟨b, off, spot⟩ := a'
        have hspot : spot = none := by simpa [Addr.add] using World.cell?_spot (hq 0 h0).2.1
        subst hspot
        refine .inr ⟨b, off, rfl, ?_, fun i t s hi => ?_⟩
        · have := World.block_lt_of_cell? w _ (hq 0 h0).2.1
          simpa [Addr.add] using this
        · obtain ⟨i', hi', he⟩ : ∃ i', (List.range len)[i]? = some i' ∧ q i' = (t, s) := by simpa using hi
          have hlt : i < len := by have := (List.getElem?_eq_some_iff.1 hi').1; simpa using this
          obtain rfl : i = i' := by rw [List.getElem?_range hlt] at hi'; exact Option.some.inj hi'
          obtain ⟨_, e0, e1, e2⟩ := hq i hlt
          rw [he] at e1 e2
          rw [Go.WideShapes.add_plain] at e0 e1
          exact ⟨V0 i, e0, by rw [Nat.add_assoc]; exact e1, e2⟩

/-- are symbols more than are looked at? -/
def Near (zs : List One) : Prop := zs.length ≤ 200 ∧ ∀ z ∈ zs, z.1.length ≤ 100
def nearDec (zs : List One) : Decidable (Near zs) := show Decidable (zs.length ≤ 200 ∧ ∀ z ∈ zs, z.1.length ≤ 100) from instDecidableAnd
def nearB (zs : List One) : Bool := @decide (Near zs) (nearDec zs)
theorem nearB_pos {zs : List One} (h : Near zs) : nearB zs = true := @decide_eq_true (Near zs) (nearDec zs) h
theorem nearB_neg {zs : List One} (h : ¬ Near zs) : nearB zs = false := @decide_eq_false (Near zs) (nearDec zs) h

theorem far_any (v : Value) (zs : List One) (w : World) (h : Ones w v zs) :
    Calls Try.prog 9 #[v] w fun e w' => e = .returned (.bool (!nearB zs)) ∧ w' = w := by
  obtain ⟨a, c, rfl⟩ := h.form
  by_cases h1 : 200 < zs.length
  · have e : (!nearB zs) = true := by rw [nearB_neg (fun h => by have := h.1; omega)]; rfl
    rw [e]
    have i1 : (200 : Int) < zs.length := by omega
    go_enter Try.func9, Try.ntmps9
    go_wp2
    go_ret
    exact ⟨rfl, rfl⟩
  · have i1 : ¬ (200 : Int) < zs.length := by omega
    go_enter Try.func9, Try.ntmps9
    go_wp2
    go_loopw [3] (fun i wr => ∃ m : Nat, m ≤ zs.length ∧ i = .int .i64 m ∧ wr = w ∧ ∀ j z, j < m → zs[j]? = some z → z.1.length ≤ 100) (fun i _ => zs.length - (intOf i).toNat)
    case atStart => exact ⟨0, by omega, rfl, rfl, fun j z hj => absurd hj (by omega)⟩
    case round =>
      obtain ⟨m, hm, rfl, rfl, hall⟩ := hrel
      by_cases hlt : m < zs.length
      · obtain ⟨⟨t, s⟩, hz⟩ : ∃ z, zs[m]? = some z := ⟨_, List.getElem?_eq_getElem hlt⟩
        obtain ⟨b0, off, rfl, hb0, a', c', k0, k1, _⟩ := h.cell hz
        have i2 : (0 : Int) ≤ m := by omega
        have i3 : (m : Int) < zs.length := by omega
        by_cases ht : 100 < t.length
        · have e : (!nearB zs) = true := by rw [nearB_neg (fun h => by have : t.length ≤ 100 := h.2 (t, s) (List.mem_of_getElem? hz); omega)]; rfl
          have i4 : (100 : Int) < t.length := by omega
          go_wp2
          go_ret
          exact ⟨by rw [e]; rfl, rfl⟩
        · have i4 : ¬ (100 : Int) < t.length := by omega
          go_wp2
          go_roundw
          case rel =>
            refine ⟨m + 1, by omega, by go_num, by first | rfl | trivial, fun j z hj hz' => ?_⟩
            rcases Nat.lt_or_ge j m with h | h
            · exact hall j z h hz'
            · obtain rfl : j = m := by omega
              rw [hz] at hz'; cases hz'; show t.length ≤ 100; omega
          case measure => simp [intOf]; omega
      · obtain rfl : m = zs.length := by omega
        have e : (!nearB zs) = false := by
          rw [nearB_pos ⟨by omega, fun z hz => by
            obtain ⟨j, hj, he⟩ := List.getElem_of_mem hz
            exact hall j z hj (by rw [← he]; exact List.getElem?_eq_getElem hj)⟩]; rfl
        go_wp2
        go_ret
        exact ⟨by rw [e]; rfl, rfl⟩

/-- the example's table in memory -/
theorem ints_two {w : World} {g : Nat} (h : Blk w g #[.int .i64 1, .int .i64 1] 3) : Ints w (.slice (some ⟨g, 0, none⟩) 2 2) [1, 1] := by
  refine ⟨_, 2, rfl, by simp, fun x hx => by simp at hx; omega, (fun h => by cases h), .inr ⟨g, 0, rfl, h.lt, fun i x hi => ?_⟩⟩
  match i, hi with
  | 0, hi => cases hi; exact h.cell rfl
  | 1, hi => cases hi; exact h.cell rfl
  | i + 2, hi => simp at hi
theorem tab_two : M.Tab [1, 1] := by unfold M.Tab; decide
theorem alive_bits : ((((M.Cod.new.put [1, 1] 1).put [1, 1] 0).put [1, 1] 1).end_).l = [true, false, true, false, true] := by decide +kernel
theorem alive_byte : bytL [true, false, true, false, true] = [168] := by decide +kernel

theorem end_D (c : M.Cod) : c.end_.D = c.D + 2 := by
  have := c.end_length
  show c.end_.l.length + 0 = _
  omega

set_option maxRecDepth 100000 in
set_option maxHeartbeats 2000000 in
theorem alive_any (w : World) : Calls Try.prog 8 #[] w fun e w' => e = .returned (.bool true) ∧ Below w.heap.size w w' := by
  have g0 := M.Cod.Good.new
  have g1 := g0.put tab_two (s := 1) (by decide)
  have g2 := g1.1.put tab_two (s := 0) (by decide)
  have g3 := g2.1.put tab_two (s := 1) (by decide)
  have d0 : M.Cod.new.D = 0 := rfl
  have hP1 := fun b N v w h hv => Put_ok b N 1 M.Cod.new v [1, 1] w h g0 (by omega) hv tab_two (by decide)
  have hP2 := fun b N v w h hv => Put_ok b N 0 (M.Cod.new.put [1, 1] 1) v [1, 1] w h g1.1 (by omega) hv tab_two (by decide)
  have hP3 := fun b N v w h hv => Put_ok b N 1 ((M.Cod.new.put [1, 1] 1).put [1, 1] 0) v [1, 1] w h g2.1 (by omega) hv tab_two (by decide)
  have hE := fun b N w h => End_any b N (((M.Cod.new.put [1, 1] 1).put [1, 1] 0).put [1, 1] 1) false w h (by omega)
  have e1 : endC (((M.Cod.new.put [1, 1] 1).put [1, 1] 0).put [1, 1] 1) false = ((((M.Cod.new.put [1, 1] 1).put [1, 1] 0).put [1, 1] 1).end_) := rfl
  rw [e1] at hE
  have hl := alive_bits
  have dl := (((M.Cod.new.put [1, 1] 1).put [1, 1] 0).put [1, 1] 1).end_length
  have dD := end_D (((M.Cod.new.put [1, 1] 1).put [1, 1] 0).put [1, 1] 1)
  have hN0 := NewCoder_any w
  generalize M.Cod.new = C0 at *
  generalize C0.put [1, 1] 1 = C1 at *
  generalize C1.put [1, 1] 0 = C2 at *
  generalize C2.put [1, 1] 1 = C3 at *
  generalize C3.end_ = C4 at *
  have hB := fun b N w h => Bits_any b N C4 true w h (by rw [hl]; decide)
  have hLn := fun b N w h => Len_any b N C4 true w h
  rw [hl] at hB hLn
  rw [alive_byte] at hB
  have hE2 := fun b N w h => End_any b N C4 true w h (by omega)
  clear g0 g1 g2 g3 d0 e1 hl dl dD
  rw [show endE false = 0 from rfl] at hE
  rw [show endE true = 250 from rfl] at hE2
  have hB' : ∀ b N w, CodAt w b N C4 true → Calls Try.prog 19 #[.pointer (some ⟨b, 0, none⟩)] w fun e w' => ∃ g cap, e = .returned (.slice (some ⟨g, 0, none⟩) 1 cap) ∧ w'.cell? ⟨g, 0, none⟩ = some (.int .u8 168) ∧ Below w.heap.size w w' := fun b N w h => (hB b N w h).mono fun e w' ⟨a, c, he, hown, hb⟩ => by
    obtain ⟨g, cap, hv, _, _⟩ := hown.form (by decide)
    cases hv
    exact ⟨g, c, he, hown.cellAt 0 (by decide), hb⟩
  clear hB
  go_enter Try.func8, Try.ntmps8
  go_wp2_with (first
    | (go_at_call 10; refine hN0.mono ?_; clear hN0; rintro e w1 ⟨b, rfl, lb, bel1, A0⟩; have ub := A0.lt; have T0 : Blk (w1.alloc (.cells #[.int .i64 1, .int .i64 1] 3)) w1.heap.size #[.int .i64 1, .int .i64 1] 3 := Blk.new _ _ _; have A0' := A0.below ((Below.refl w1.heap.size w1).alloc (Nat.le_refl _) (.cells #[.int .i64 1, .int .i64 1] 3)) (Nat.le_refl _); have nb : w1.heap.size ≠ b := by omega)
    | (go_at_call 14; refine (hP1 b _ _ _ A0' (ints_two T0)).mono ?_; clear hP1; rintro e w2 ⟨rfl, K2, A1⟩; have T1 := K2.blk T0 nb (by decide))
    | (go_at_call 14; refine (hP2 b _ _ _ A1 (ints_two T1)).mono ?_; clear hP2; rintro e w3 ⟨rfl, K3, A2⟩; have T2 := K3.blk T1 nb (by decide))
    | (go_at_call 14; refine (hP3 b _ _ _ A2 (ints_two T2)).mono ?_; clear hP3; rintro e w4 ⟨rfl, K4, A3⟩)
    | (go_at_call 16; refine (hE b _ _ A3).mono ?_; clear hE; rintro e w5 ⟨rfl, K5, A4⟩)
    | (go_at_call 19; refine (hB' b _ _ A4).mono ?_; clear hB'; rintro e w6 ⟨g6, c6, rfl, x6, bel6⟩; have A5 := A4.below bel6 (Nat.le_refl _))
    | (go_at_call 18; refine (hLn b _ _ A5).mono ?_; clear hLn; rintro e w' ⟨rfl, rfl⟩)
    | (go_at_call 16; refine (hE2 b _ _ A5).mono ?_; clear hE2; rintro e w7 ⟨rfl, K7, A7⟩))
  go_ret
  have sA := bel1.size
  have belA : Below w.heap.size w (w1.alloc (.cells #[.int .i64 1, .int .i64 1] 3)) := bel1.alloc sA _
  have s2 := K2.size; have s3 := K3.size; have s4 := K4.size; have s5 := K5.size; have s6 := bel6.size
  simp only [World.size_alloc] at s2
  have K6 := (K2.trans K3).trans (K4.trans K5)
  have belB := belA.trans (K6.below lb (by omega) (by simp; omega))
  exact ⟨rfl, (belB.trans (Bits.Below.less bel6 (by omega))).trans (K7.below lb (by omega) (by omega))⟩

end Ari
end Go.Proofs.Ytknolfpjhfpfaaa
