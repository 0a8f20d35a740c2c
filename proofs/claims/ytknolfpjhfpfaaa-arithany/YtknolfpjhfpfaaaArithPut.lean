/-
  Contracts of a coder's calls (package arith): NewCoder, Put, End, Len, Bits, of a coder and of nil. Conditions: the coder and the table stand in memory as told.
-/
import Derived.Test.YtknolfpjhfpfaaaArithCoder
import Derived.Test.YtknolfpjhfpfaaaBytes
namespace Go.Proofs.Ytknolfpjhfpfaaa
set_option linter.unusedVariables false
open Go.RowKit
namespace Ari
open Bits (Blk But add_at wrap_id bytesL)
open Num (Ints)

/-- a coder in block b: its state -/
def CodAt (w : World) (b N : Nat) (c : M.Cod) (en : Bool) : Prop := Cdr w b N c.L c.H c.o c.l en
theorem CodAt.drewN {w : World} {b N : Nat} {c : M.Cod} {en : Bool} (h : CodAt w b N c en) (m : Nat) : CodAt (w.drewN m) b N c en := h
theorem CodAt.lt {w : World} {b N : Nat} {c : M.Cod} {en : Bool} (h : CodAt w b N c en) : b < w.heap.size := Cdr.lt h
theorem CodAt.below {w w' : World} {b N W : Nat} {c : M.Cod} {en : Bool} (h : CodAt w b N c en) (k : Below W w w') (hW : w.heap.size ≤ W) : CodAt w' b N c en := Cdr.below h k hW
theorem CodAt.kept {w w' : World} {b N r R : Nat} {e : TypeId} {c : M.Cod} {en : Bool} (h : CodAt w b N c en) (k : Kept r e R w w') (hr : r < N) (hb : b ≠ r) (h1 : 70 ≠ e) (h2 : 5 ≠ e) : CodAt w' b N c en := Cdr.kept h k hr hb h1 h2

theorem widest_any (w : World) : Calls Try.prog 28 #[] w fun e w' => e = .returned (.agg #[.int .i64 0, .int .i64 65535, .int .i64 0]) ∧ Below w.heap.size w w' := by
  go_enter Try.func28, Try.ntmps28
  go_wp2
  refine bodyPost_ret (v := .agg #[.int .i64 0, .int .i64 65535, .int .i64 0]) (by simp [results, Try.results28, go_sem]) rfl ?_
  exact ⟨rfl, (Below.refl _ w).alloc (Nat.le_refl _) _⟩

theorem NewCoder_any (w : World) : Calls Try.prog 10 #[] w fun e w' => ∃ b, e = .returned (.pointer (some ⟨b, 0, none⟩)) ∧ w.heap.size ≤ b ∧ Below w.heap.size w w' ∧ CodAt w' b (b + 1) M.Cod.new false := by
  go_enter Try.func10, Try.ntmps10
  go_wp2_with (go_at_call 28; refine (widest_any _).mono ?_; rintro e w1 ⟨rfl, bel⟩)
  go_ret
  exact ⟨_, rfl, bel.size, bel.alloc bel.size _, .slice none 0 0, Blk.new _ _ _, World.ownsRow_nil _ _ _ _, by omega, by simp⟩

/-- what Put answers, and what it makes of a coder -/
def putE (en : Bool) (t : List Int) (s : Int) : Int := if en then 250 else @ite Int (M.Tab t ∧ 0 ≤ s ∧ s < t.length) (@instDecidableAnd _ _ (M.tabDec t) instDecidableAnd) 0 1
def putC (c : M.Cod) (en : Bool) (t : List Int) (s : Int) : M.Cod := if putE en t s = 0 then c.put t s.toNat else c

theorem Put_state (b N : Nat) (c : M.Cod) (a : Option Addr) (l k : Nat) (s : Int) (w : World) (h : CodAt w b N c true) :
    Calls Try.prog 14 #[.pointer (some ⟨b, 0, none⟩), .slice a l k, .int .i64 s] w fun e w' => e = .returned (.int .i64 250) ∧ w' = w := by
  obtain ⟨c0, c1, c2, c4, c5, fr⟩ := Cdr.cells h
  go_enter Try.func14, Try.ntmps14
  go_wp2
  go_ret
  exact ⟨rfl, rfl⟩

theorem Put_nil (v : Value) (s : Int) (w : World) :
    Calls Try.prog 14 #[.pointer none, v, .int .i64 s] w fun e w' => e = .returned (.int .i64 3) ∧ w' = w := by
  go_enter Try.func14, Try.ntmps14
  go_wp2
  go_ret
  exact ⟨rfl, rfl⟩

theorem Put_arg (b N : Nat) (c : M.Cod) (v : Value) (t : List Int) (s : Int) (w : World) (h : CodAt w b N c false) (hv : Ints w v t) (hl : t.length ≤ 65536) (hbad : ¬ (M.Tab t ∧ 0 ≤ s ∧ s < t.length)) :
    Calls Try.prog 14 #[.pointer (some ⟨b, 0, none⟩), v, .int .i64 s] w fun e w' => e = .returned (.int .i64 1) ∧ w' = w := by
  obtain ⟨c0, c1, c2, c4, c5, fr⟩ := Cdr.cells h
  have hC := Check_any v t w hv hl
  obtain ⟨a, k, rfl, hk⟩ := hv.form
  by_cases ht : M.Tab t
  · rw [show errT t = 0 from if_pos ht] at hC
    by_cases h0 : s < 0
    · go_enter Try.func14, Try.ntmps14
      go_wp2_with (go_at_call 12; refine hC.mono ?_; rintro e w' ⟨rfl, rfl⟩)
      go_ret
      exact ⟨rfl, rfl⟩
    · have h1 : (t.length : Int) ≤ s := by
        rcases Int.lt_or_le s t.length with h | h
        · exact absurd ⟨ht, by omega, h⟩ hbad
        · exact h
      go_enter Try.func14, Try.ntmps14
      go_wp2_with (go_at_call 12; refine hC.mono ?_; rintro e w' ⟨rfl, rfl⟩)
      go_ret
      exact ⟨rfl, rfl⟩
  · rw [show errT t = 1 from if_neg ht] at hC
    go_enter Try.func14, Try.ntmps14
    go_wp2_with (go_at_call 12; refine hC.mono ?_; rintro e w' ⟨rfl, rfl⟩)
    go_ret
    exact ⟨rfl, rfl⟩

set_option maxRecDepth 100000 in
theorem Put_ok (b N s : Nat) (c : M.Cod) (v : Value) (t : List Int) (w : World) (h : CodAt w b N c false) (hc : c.Good) (hD : c.D ≤ 39000) (hv : Ints w v t) (ht : M.Tab t) (hs : s < t.length) :
    Calls Try.prog 14 #[.pointer (some ⟨b, 0, none⟩), v, .int .i64 s] w fun e w' => e = .returned (.int .i64 0) ∧ Kept b 5 N w w' ∧ CodAt w' b N (c.put t s) false := by
  obtain ⟨c0, c1, c2, c4, c5, fr⟩ := Cdr.cells h
  have hC := Check_any v t w hv (by have := ht.2.1; omega)
  rw [show errT t = 0 from if_pos ht] at hC
  obtain ⟨sl, hb, hown, hbN, hNs⟩ := h
  have hN := narrow_any b s c.L c.H v t _ 70 w hb rfl rfl hv ht hs hc.low hc.high (M.wide_of hc.done).1
  obtain ⟨hok, _⟩ := hc.nar ht hs
  have hWd := fun w2 h2 => widenC b N (c.nar t s) false w2 h2 hok (by show c.D ≤ 40000; omega)
  have hfin : ∀ w2, But b b w w2 → Blk w2 b ((#[Value.int .i64 c.L, .int .i64 c.H, .int .i64 c.o, sl, .int .i64 c.l.length, .bool false].setIfInBounds 1 (.int .i64 (c.L + M.part (c.H - c.L + 1) (M.flo t (s + 1)) t.sum - 1))).setIfInBounds 0 (.int .i64 (c.L + M.part (c.H - c.L + 1) (M.flo t s) t.sum))) 70 → Cdr w2 b N (c.nar t s).L (c.nar t s).H (c.nar t s).o (c.nar t s).l false := fun w2 bt hb2 => by
    refine ⟨sl, hb2, ?_, hbN, Nat.le_trans hNs bt.size⟩
    obtain ⟨h0, h1 | ⟨g', cap', cur, hv, hg, hh, h2⟩⟩ := hown
    · exact ⟨h0, .inl h1⟩
    · exact ⟨h0, .inr ⟨g', cap', cur, hv, hg, bt.blk hh (by omega) (by omega), h2⟩⟩
  obtain ⟨a, k, rfl, hk⟩ := hv.form
  have i1 : ¬ (s : Int) < 0 := by omega
  have i2 : ¬ (t.length : Int) ≤ s := by omega
  go_enter Try.func14, Try.ntmps14
  go_wp2_with (first
    | (go_at_call 12; refine hC.mono ?_; clear hC; rintro e w' ⟨rfl, hw⟩; rw [hw]; clear hw w')
    | (go_at_call 29; refine hN.mono ?_; clear hN; rintro e w2 ⟨rfl, bt2, hb2⟩; have C2 := hfin w2 bt2 hb2)
    | (go_at_call 30; refine (hWd w2 C2).mono ?_; clear hWd; rintro e w3 ⟨rfl, K3, C3⟩))
  go_ret
  exact ⟨rfl, (Kept.of_but bt2).trans K3, C3⟩

theorem Put_any (b N : Nat) (c : M.Cod) (en : Bool) (v : Value) (t : List Int) (s : Int) (w : World) (h : CodAt w b N c en) (hc : c.Good) (hD : c.D ≤ 39000) (hv : Ints w v t) (hl : t.length ≤ 65536) :
    Calls Try.prog 14 #[.pointer (some ⟨b, 0, none⟩), v, .int .i64 s] w fun e w' => e = .returned (.int .i64 (putE en t s)) ∧ Kept b 5 N w w' ∧ CodAt w' b N (putC c en t s) en := by
  unfold putC
  cases en with
  | true =>
    have e : putE true t s = 250 := rfl
    rw [e, if_neg (by omega)]
    obtain ⟨a, k, rfl, hk⟩ := hv.form
    exact (Put_state b N c a _ k s w h).mono fun e w' ⟨he, hw⟩ => ⟨he, by rw [hw]; exact Kept.refl _ _ _ _, by rw [hw]; exact h⟩
  | false =>
    by_cases hg : M.Tab t ∧ 0 ≤ s ∧ s < t.length
    · have e : putE false t s = 0 := by unfold putE; rw [if_neg (by simp), if_pos hg]
      rw [e, if_pos rfl]
      obtain ⟨n, rfl⟩ := Int.eq_ofNat_of_zero_le hg.2.1
      exact Put_ok b N n c v t w h hc hD hv hg.1 (by omega)
    · have e : putE false t s = 1 := by unfold putE; rw [if_neg (by simp), if_neg hg]
      rw [e, if_neg (by omega)]
      exact (Put_arg b N c v t s w h hv hl hg).mono fun e w' ⟨he, hw⟩ => ⟨he, by rw [hw]; exact Kept.refl _ _ _ _, by rw [hw]; exact h⟩
theorem putC_good {c : M.Cod} {en : Bool} {t : List Int} {s : Int} (hc : c.Good) : (putC c en t s).Good ∧ (putC c en t s).D ≤ c.D + 14 := by
  unfold putC
  split
  · next h =>
    unfold putE at h
    split at h
    · omega
    · split at h
      · next hg => exact hc.put hg.1 (by omega)
      · omega
  · exact ⟨hc, by omega⟩

/-- what End answers, and what it makes of a coder -/
def endE (en : Bool) : Int := if en then 250 else 0
def endC (c : M.Cod) (en : Bool) : M.Cod := if en then c else c.end_

theorem End_nil (w : World) : Calls Try.prog 16 #[.pointer none] w fun e w' => e = .returned (.int .i64 3) ∧ w' = w := by
  go_enter Try.func16, Try.ntmps16
  go_wp2
  go_ret
  exact ⟨rfl, rfl⟩

set_option maxRecDepth 100000 in
theorem End_any (b N : Nat) (c : M.Cod) (en : Bool) (w : World) (h : CodAt w b N c en) (hD : c.D ≤ 39000) :
    Calls Try.prog 16 #[.pointer (some ⟨b, 0, none⟩)] w fun e w' => e = .returned (.int .i64 (endE en)) ∧ Kept b 5 N w w' ∧ CodAt w' b N (endC c en) true := by
  have h' := h
  obtain ⟨c0, c1, c2, c4, c5, fr⟩ := Cdr.cells h
  cases en with
  | true =>
    go_enter Try.func16, Try.ntmps16
    go_wp2
    go_ret
    exact ⟨rfl, Kept.refl _ _ _ _, h'⟩
  | false =>
    have f5 := fr 5
    have f2 := fr 2
    have C2 : Cdr ((w.setCell ⟨b, 5, none⟩ (.bool true)).setCell ⟨b, 2, none⟩ (.int .i64 ((c.o : Int) + 1))) b N c.L c.H (c.o + 1) c.l true := (Cdr.fin h).owe _ _ (by omega)
    have oD : c.l.length + c.o ≤ 39000 := hD
    by_cases hL : c.L < 16384
    · have hT := tell_any b N c.L c.H (c.o + 1) c.l true false 0 _ C2 (by omega) rfl
      have e : endC c false = M.Cod.mk c.L c.H 0 (c.l ++ false :: List.replicate (c.o + 1) (!false)) := by
        unfold endC M.Cod.end_ M.Cod.tell; rw [decide_eq_true hL]; rfl
      rw [e]
      go_enter Try.func16, Try.ntmps16
      go_wp2_with (go_at_call 34; refine hT.mono ?_; rintro e w1 ⟨rfl, K1, C1⟩)
      go_ret
      exact ⟨rfl, (((Kept.refl _ _ _ _).set 5 _).set 2 _).trans K1, C1⟩
    · have hT := tell_any b N c.L c.H (c.o + 1) c.l true true 1 _ C2 (by omega) rfl
      have e : endC c false = M.Cod.mk c.L c.H 0 (c.l ++ true :: List.replicate (c.o + 1) (!true)) := by
        unfold endC M.Cod.end_ M.Cod.tell; rw [decide_eq_false hL]; rfl
      rw [e]
      go_enter Try.func16, Try.ntmps16
      go_wp2_with (go_at_call 34; refine hT.mono ?_; rintro e w1 ⟨rfl, K1, C1⟩)
      go_ret
      exact ⟨rfl, (((Kept.refl _ _ _ _).set 5 _).set 2 _).trans K1, C1⟩

theorem Len_any (b N : Nat) (c : M.Cod) (en : Bool) (w : World) (h : CodAt w b N c en) :
    Calls Try.prog 18 #[.pointer (some ⟨b, 0, none⟩)] w fun e w' => e = .returned (.int .i64 c.l.length) ∧ w' = w := by
  obtain ⟨c0, c1, c2, c4, c5, fr⟩ := Cdr.cells h
  go_enter Try.func18, Try.ntmps18
  go_wp2
  go_ret
  exact ⟨rfl, rfl⟩

theorem Len_nil (w : World) : Calls Try.prog 18 #[.pointer none] w fun e w' => e = .returned (.int .i64 0) ∧ w' = w := by
  go_enter Try.func18, Try.ntmps18
  go_wp2
  go_ret
  exact ⟨rfl, rfl⟩

/-- the bytes of bits -/
def bytL (l : List Bool) : List Nat := bytesL ((l.length + 7) / 8) (bitF l)
theorem bytL_length (l : List Bool) : (bytL l).length = (l.length + 7) / 8 := Bits.bytesL_length _ _
theorem bytL_lt (l : List Bool) : ∀ x ∈ bytL l, x < 256 := fun x hx => by
  obtain ⟨i, _, rfl⟩ := List.mem_map.1 hx
  exact M.byteOf_lt _ _

theorem Bits_any (b N : Nat) (c : M.Cod) (en : Bool) (w : World) (h : CodAt w b N c en) (hD : c.l.length ≤ 60000) :
    Calls Try.prog 19 #[.pointer (some ⟨b, 0, none⟩)] w fun e w' => ∃ a' cap', e = .returned (.slice a' (bytL c.l).length cap') ∧ w'.ownsRow w.heap.size 5 1 (.slice a' (bytL c.l).length cap') (bytL c.l).length ((bytL c.l).map fun x : Nat => Value.int .u8 x) ∧ Below w.heap.size w w' := by
  obtain ⟨s, hb, hown, hbN, hNs⟩ := h
  have hg : Byt.Given w s (bytL c.l) := Byt.given_own (base := N) (by rw [bytL_length]; exact hown) (bytL_lt _)
  have hcl := Byt.clone_any s (bytL c.l) w hg (by rw [bytL_length]; omega)
  have c3 : w.cell? ⟨b, 3, none⟩ = some s := hb.cell rfl
  obtain ⟨a, k, rfl, _⟩ := hg.form
  go_enter Try.func19, Try.ntmps19
  go_wp2_with (go_at_call 35; refine hcl.mono ?_; rintro e w1 ⟨a', cap', rfl, hown', hbel⟩)
  go_ret
  exact ⟨a', cap', rfl, hown', hbel⟩

theorem Bits_nil (w : World) : Calls Try.prog 19 #[.pointer none] w fun e w' => e = .returned (.slice none 0 0) ∧ w' = w := by
  go_enter Try.func19, Try.ntmps19
  go_wp2
  go_ret
  exact ⟨rfl, rfl⟩

end Ari
end Go.Proofs.Ytknolfpjhfpfaaa
