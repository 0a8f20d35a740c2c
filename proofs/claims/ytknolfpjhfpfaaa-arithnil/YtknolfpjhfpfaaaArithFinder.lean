/-
  A finder in memory, and contracts of its calls (package arith): next, follow, symbol, widen with follow, NewFinder, Get, Read, of a finder and of nil. Conditions: the finder, its eye and the table stand in memory as told.
-/
import Derived.Test.YtknolfpjhfpfaaaArithPut
namespace Go.Proofs.Ytknolfpjhfpfaaa
set_option linter.unusedVariables false
open Go.RowKit
namespace Ari
open Bits (Blk But add_at wrap_id bytesL)
open Num (Ints)

/-- an eye in memory, below block N, and its bits -/
def EyeAt (w : World) (e : Value) (N : Nat) (B : Nat → Bool) : Prop :=
  (e = .pointer none ∧ ∀ i, B i = false) ∨ ∃ p b c d n B' h t, e = .pointer (some ⟨p, 0, none⟩) ∧ Bits.Own 81 w p b c d n B' h t ∧ n ≤ 512 ∧ (p < N ∧ b < N ∧ c < N ∧ d < N) ∧ ∀ i, B i = if i < 8 * n then B' i else false
theorem EyeAt.below {w w' : World} {e : Value} {N W : Nat} {B : Nat → Bool} (h : EyeAt w e N B) (k : Below W w w') (hW : N ≤ W) : EyeAt w' e N B := by
  rcases h with h | ⟨p, b, c, d, n, B', h, t, he, ⟨h1, h2, s, h3, a, cap, hs, hd, hnil⟩, hn, ⟨lp, lb, lc, ld⟩, hB⟩
  · exact .inl h
  · refine .inr ⟨p, b, c, d, n, B', h, t, he, ⟨Bits.Below.blk k h1 (by omega), Bits.Below.blk k h2 (by omega), s, Bits.Below.blk k h3 (by omega), a, cap, hs, fun h0 => ?_, hnil⟩, hn, ⟨lp, lb, lc, ld⟩, hB⟩
    obtain ⟨ha, cur, hb, hc⟩ := hd h0
    exact ⟨ha, cur, Bits.Below.blk k hb (by omega), hc⟩
theorem EyeAt.drewN {w : World} {e : Value} {N : Nat} {B : Nat → Bool} (h : EyeAt w e N B) (m : Nat) : EyeAt (w.drewN m) e N B := h
theorem EyeAt.but {w w' : World} {e : Value} {N f : Nat} {B : Nat → Bool} (h : EyeAt w e N B) (k : But f f w w') (hf : N ≤ f) (hw : N ≤ w.heap.size) : EyeAt w' e N B :=
  h.below (k.below hf hf hw) (Nat.le_refl _)
theorem EyeAt.form {w : World} {e : Value} {N : Nat} {B : Nat → Bool} (h : EyeAt w e N B) : ∃ a, e = .pointer a := by
  rcases h with ⟨h, _⟩ | ⟨p, b, c, d, n, B', h, t, he, _⟩
  · exact ⟨_, h⟩
  · exact ⟨_, he⟩

theorem Bit_any (e : Value) (N i : Nat) (B : Nat → Bool) (w : World) (h : EyeAt w e N B) :
    Calls Try.prog 50 #[e, .int .i64 i] w fun x w' => x = .returned (.int .i64 ((B i).toNat : Nat)) ∧ ∃ m, w' = w.drewN m := by
  rcases h with ⟨rfl, hB⟩ | ⟨p, b, c, d, n, B', h, t, rfl, ho, hn, _, hB⟩
  · rw [hB i]
    exact (Bits.NilE_Bit _ w).mono fun x w' ⟨hx, hw⟩ => ⟨hx, 0, hw⟩
  · refine (Bits.BitE p b c d n h t i B' w ho hn).mono fun x w' ⟨hx, hw⟩ => ⟨?_, hw⟩
    rw [hx, hB i]
    by_cases hi : i < 8 * n
    · rw [if_pos (by omega), if_pos hi]; rfl
    · rw [if_neg (by omega), if_neg hi]; rfl

/-- a finder in block f, its eye e, from the place fr on -/
def FndAt (w : World) (f : Nat) (e : Value) (fr : Nat) (x : M.Fnd) : Prop := Blk w f #[.int .i64 x.L, .int .i64 x.H, .int .i64 0, e, .int .i64 fr, .int .i64 x.r, .int .i64 x.V] 83
theorem FndAt.drewN {w : World} {f : Nat} {e : Value} {fr : Nat} {x : M.Fnd} (h : FndAt w f e fr x) (m : Nat) : FndAt (w.drewN m) f e fr x := h
theorem FndAt.cells {w : World} {f : Nat} {e : Value} {fr : Nat} {x : M.Fnd} (h : FndAt w f e fr x) :
    w.cell? ⟨f, 0, none⟩ = some (.int .i64 x.L) ∧ w.cell? ⟨f, 1, none⟩ = some (.int .i64 x.H) ∧ w.cell? ⟨f, 3, none⟩ = some e ∧ w.cell? ⟨f, 4, none⟩ = some (.int .i64 fr) ∧ w.cell? ⟨f, 5, none⟩ = some (.int .i64 x.r) ∧ w.cell? ⟨f, 6, none⟩ = some (.int .i64 x.V) ∧ ∀ i, w.frozen? ⟨f, i, none⟩ = false :=
  ⟨Blk.cell h rfl, Blk.cell h rfl, Blk.cell h rfl, Blk.cell h rfl, Blk.cell h rfl, Blk.cell h rfl, fun i => Blk.free h i⟩

theorem next_any (f N fr : Nat) (e : Value) (x : M.Fnd) (B : Nat → Bool) (w : World) (h : FndAt w f e fr x) (he : EyeAt w e N B) (hfr : fr ≤ 4096) (hr : x.r ≤ 1000000) :
    Calls Try.prog 39 #[.pointer (some ⟨f, 0, none⟩)] w fun y w' => y = .returned (.int .i64 ((B (fr + x.r)).toNat : Nat)) ∧ But f f w w' ∧ FndAt w' f e fr ⟨x.L, x.H, x.V, x.r + 1⟩ := by
  obtain ⟨c0, c1, c3, c4, c5, c6, frz⟩ := h.cells
  have f5 := frz 5
  have hB := fun m => Bit_any e N (fr + x.r) B (w.drewN m) (he.drewN m)
  obtain ⟨y, hy⟩ : ∃ y, y = (B (fr + x.r)).toNat := ⟨_, rfl⟩
  rw [← hy] at hB ⊢
  have e1 : ((fr + x.r : Nat) : Int) = (fr : Int) + x.r := by omega
  rw [e1] at hB
  obtain ⟨a, rfl⟩ := he.form
  obtain ⟨r, hr'⟩ : ∃ r, r = x.r := ⟨_, rfl⟩
  rw [← hr'] at hB c5 hr
  have hr2 : Hid (r = x.r) := hr'
  clear hr' e1 hy
  go_enter Try.func39, Try.ntmps39
  go_wp2
  go_quiet (first | (go_at_call 50; exact Calls.quiet_of (hB _)))
  go_wp2
  go_ret
  refine ⟨rfl, ((But.refl f f w).drewN _).set (a := ⟨f, 5, none⟩) (.inl rfl) _, ?_⟩
  have := (Blk.drewN h nq).set 5 (.int .i64 ((r : Int) + 1))
  have e2 : (r : Int) + 1 = ((x.r + 1 : Nat) : Int) := by rw [show r = x.r from hr2]; omega
  rw [e2] at this ⊢
  exact this

theorem follow_any (f N fr : Nat) (e : Value) (x : M.Fnd) (z : Int) (B : Nat → Bool) (w : World) (h : FndAt w f e fr x) (he : EyeAt w e N B) (hfr : fr ≤ 4096) (hr : x.r ≤ 1000000) (v0 : 0 ≤ x.V) (v1 : x.V ≤ 65535) (z0 : 0 ≤ z) (z1 : z ≤ 32768) :
    Calls Try.prog 42 #[.pointer (some ⟨f, 0, none⟩), .int .i64 z] w fun y w' => y = .returned (.tuple #[]) ∧ But f f w w' ∧ FndAt w' f e fr ⟨x.L, x.H, 2 * (x.V - z) + ((B (fr + x.r)).toNat : Int), x.r + 1⟩ := by
  have hn := fun w h he => next_any f N fr e x B w h he hfr hr
  obtain ⟨c0, c1, c3, c4, c5, c6, frz⟩ := h.cells
  have f6 := frz 6
  have hy1 := Bool.toNat_le (B (fr + x.r))
  obtain ⟨y, hy⟩ : ∃ y, y = (B (fr + x.r)).toNat := ⟨_, rfl⟩
  rw [← hy] at hn hy1 ⊢
  obtain ⟨V, hV⟩ : ∃ V, V = x.V := ⟨_, rfl⟩
  rw [← hV] at c6 v0 v1 ⊢
  have hV2 : Hid (V = x.V) := hV
  have h6 : ∀ w', FndAt w' f e fr ⟨x.L, x.H, x.V, x.r + 1⟩ → w'.cell? ⟨f, 6, none⟩ = some (.int .i64 V) ∧ w'.frozen? ⟨f, 6, none⟩ = false := fun w' hw => by rw [hV]; exact ⟨hw.cells.2.2.2.2.2.1, hw.cells.2.2.2.2.2.2 6⟩
  clear hy frz hV
  have q1 : IntKind.i64.wrap (V - z) = V - z := wrap_id _ (by omega) (by omega)
  have q2 : IntKind.i64.wrap (2 * (V - z)) = 2 * (V - z) := wrap_id _ (by omega) (by omega)
  have q3 : IntKind.i64.wrap (2 * (V - z) + (y : Int)) = 2 * (V - z) + (y : Int) := wrap_id _ (by omega) (by omega)
  go_enter Try.func42, Try.ntmps42
  go_wp2
  go_region_with (go_at_call 39; refine (hn _ (by exact h) (by exact he)).mono ?_; clear hn; rintro e w1 ⟨rfl, b1, h1⟩; obtain ⟨d6, g6⟩ := h6 _ h1)
  all_goals go_wp2
  all_goals go_end0
  all_goals exact ⟨rfl, (But.mk (b := f) (d := f) (w := w) b1.os b1.tape b1.output b1.size b1.block).set (a := ⟨f, 6, none⟩) (.inl rfl) _, Blk.set h1 6 _⟩

set_option maxRecDepth 100000 in
set_option maxHeartbeats 1000000 in
theorem symbol_any (f fr : Nat) (e v : Value) (x : M.Fnd) (t : List Int) (w : World) (h : FndAt w f e fr x) (hx : x.Good) (hv : Ints w v t) (ht : M.Tab t) :
    Calls Try.prog 41 #[.pointer (some ⟨f, 0, none⟩), v] w fun y w' => y = .returned (.int .i64 (x.sym t : Nat)) ∧ ∃ m, w' = w.drewN m := by
  obtain ⟨c0, c1, c3, c4, c5, c6, frz⟩ := h.cells
  have hwd := fun m => width_any f x.L x.H (w.drewN m) ⟨c0, c1⟩ hx.low (by have := hx.le; have := hx.up; omega) hx.high
  have hS := fun m => sum_any v t (w.drewN m) (hv.drewN m) (flo_tab ht) (by have := ht.2.1; omega)
  obtain ⟨a, k, rfl, hk⟩ := hv.form
  obtain ⟨s1, s2, s3⟩ := hx.sym ht
  obtain ⟨k0, k1⟩ := hx.key ht
  obtain ⟨_, f1, f2, f3⟩ := ht.flo_le (s := 0) (by omega)
  have hw := (M.wide_of hx.done).1
  have l0 := hx.low; have l1 := hx.le; have l2 := hx.up; have l3 := hx.high
  have t2 := ht.1
  have t32 := ht.2.1
  have hsym : x.sym t = M.symOf t (x.key t) := rfl
  have hkey : x.key t = ((x.V - x.L + 1) * t.sum - 1) / (x.H - x.L + 1) := rfl
  have hlow : ∀ j, j ≤ t.length → 0 ≤ M.flo t j ∧ M.flo t j ≤ 4096 := flo_tab ht
  obtain ⟨S, hS'⟩ : ∃ S, S = x.sym t := ⟨_, rfl⟩
  rw [← hS'] at s1 s2 s3 hsym ⊢
  obtain ⟨K, hK⟩ : ∃ K, K = x.key t := ⟨_, rfl⟩
  rw [← hK] at s2 s3 k0 k1 hkey hsym
  clear hK hS'
  generalize x.V = V at *
  generalize x.L = L at *
  generalize x.H = H at *
  obtain ⟨n, hn⟩ : ∃ n, n = t.sum := ⟨_, rfl⟩
  rw [← hn] at hS f1 f2 f3 k1 hkey
  clear hn
  obtain ⟨W, hW⟩ : ∃ W, W = H - L + 1 := ⟨_, rfl⟩
  rw [← hW] at hwd hw hkey
  have m1 : 1 ≤ (V - L + 1) * n := by
    have := Int.mul_le_mul (show (1 : Int) ≤ V - L + 1 by omega) (show (1 : Int) ≤ n by omega) (by omega) (by omega)
    omega
  have m2 : (V - L + 1) * n ≤ 268435456 := by
    have : (V - L + 1) * n ≤ 65536 * 4096 := Int.mul_le_mul (by omega) (by omega) (by omega) (by omega)
    omega
  have d1 : ((V - L + 1) * n - 1).tdiv W = K := by rw [hkey]; exact Int.tdiv_eq_ediv_of_nonneg (by omega)
  have W0 : ¬ W = 0 := by omega
  have hkey' : Hid (K = ((V - L + 1) * n - 1) / W) := hkey
  have hsym' : Hid (S = M.symOf t K) := hsym
  have hW' : Hid (W = H - L + 1) := hW
  have K1 : K ≤ 4096 := by omega
  clear hkey hsym hW
  go_enter Try.func41, Try.ntmps41
  go_wp2
  go_quiet (first
    | (go_at_call 43; exact Calls.quiet_of (hwd _))
    | (go_at_call 44; exact Calls.quiet_of_same (hS _)))
  go_wp2
  go_loopw [5, 6] (fun q s wr => ∃ j : Nat, j ≤ S ∧ q = .int .i64 (K - M.flo t j) ∧ s = .int .i64 j ∧ S = j + M.symOf (t.drop j) (K - M.flo t j) ∧ M.flo t j ≤ K ∧ wr = w.drewN nq) (fun _ s _ => S - (intOf s).toNat)
  case atStart => exact ⟨0, by omega, by rw [M.flo_zero]; simp, rfl, by rw [M.flo_zero]; simpa using (show S = M.symOf t K from hsym'), by rw [M.flo_zero]; omega, rfl⟩
  case round =>
    obtain ⟨j, hj, rfl, rfl, hSj, hjK, rfl⟩ := hrel
    obtain ⟨y, hy⟩ : ∃ y, t[j]? = some y := ⟨_, List.getElem?_eq_getElem (by omega)⟩
    obtain ⟨b0, off, rfl, hb0, hcell⟩ := hv.cell hy
    have e1 := M.flo_succ hy
    have e2 := M.symOf_step (k := K - M.flo t j) hy
    have q1 := hlow j (by omega)
    have q2 := hlow (j + 1) (by omega)
    have i1 : (0 : Int) ≤ j := by omega
    have i2 : (j : Int) < t.length := by omega
    have hcell' : (w.drewN nq).cell? ⟨b0, off + j, none⟩ = some (.int .i64 y) := hcell
    rw [e1] at q2
    by_cases hle : y ≤ K - M.flo t j
    · rw [if_pos hle] at e2
      rw [e2] at hSj
      have e3 : K - M.flo t j - y = K - M.flo t (j + 1) := by omega
      rw [e3] at hSj
      have hlt : j + 1 ≤ S := by omega
      have hjK2 : M.flo t (j + 1) ≤ K := by omega
      obtain ⟨F, hF⟩ : ∃ F, F = M.flo t j := ⟨_, rfl⟩
      rw [← hF] at q1 q2 hle hjK e3 ⊢
      obtain ⟨q3, q4⟩ := q1
      obtain ⟨q5, q6⟩ := q2
      replace hSj : Hid (S = j + (M.symOf (t.drop (j + 1)) (K - M.flo t (j + 1)) + 1)) := hSj
      replace hjK2 : Hid (M.flo t (j + 1) ≤ K) := hjK2
      replace e3 : Hid (K - F - y = K - M.flo t (j + 1)) := e3
      clear e1 e2 hF s2 s3 hlow hS hwd
      go_wp2
      go_roundw
      case rel => exact ⟨j + 1, hlt, by rw [← show K - F - y = _ from e3], by go_num, by have : S = j + (M.symOf (t.drop (j + 1)) (K - M.flo t (j + 1)) + 1) := hSj; omega, hjK2, by first | rfl | trivial⟩
      case measure => simp [intOf]; omega
    · rw [if_neg hle] at e2
      rw [e2] at hSj
      obtain ⟨F, hF⟩ : ∃ F, F = M.flo t j := ⟨_, rfl⟩
      rw [← hF] at hle q1 q2 ⊢
      obtain ⟨q3, q4⟩ := q1
      obtain ⟨q5, q6⟩ := q2
      replace hSj : Hid (S = j + 0) := hSj
      have hle' : K - F < y := by omega
      clear e1 e2 hF s2 s3 hlow hS hwd hjK hle
      go_wp2
      go_ret
      refine ⟨?_, _, rfl⟩
      rw [show S = j + 0 from hSj]; rfl

theorem FndAt.low {w : World} {f : Nat} {e : Value} {fr : Nat} {x : M.Fnd} (h : FndAt w f e fr x) (X : Int) : FndAt (w.setCell ⟨f, 0, none⟩ (.int .i64 X)) f e fr ⟨X, x.H, x.V, x.r⟩ := Blk.set h 0 _
theorem FndAt.high {w : World} {f : Nat} {e : Value} {fr : Nat} {x : M.Fnd} (h : FndAt w f e fr x) (X : Int) : FndAt (w.setCell ⟨f, 1, none⟩ (.int .i64 X)) f e fr ⟨x.L, X, x.V, x.r⟩ := Blk.set h 1 _
/-- the bits from a place on -/
def from_ (B : Nat → Bool) (fr : Nat) : Nat → Bool := fun i => B (fr + i)

set_option maxRecDepth 100000 in
set_option maxHeartbeats 1000000 in
/-- widening, with a finder's step -/
theorem widenF (f N fr : Nat) (e : Value) (x : M.Fnd) (B : Nat → Bool) (w : World) (h : FndAt w f e fr x) (he : EyeAt w e N B) (hN : N ≤ f) (hx : x.Ok) (hfr : fr ≤ 4096) (hr : x.r ≤ 900000) :
    Calls Try.prog 30 #[.pointer (some ⟨f, 0, none⟩), .func (.func 42) #[.pointer (some ⟨f, 0, none⟩)] #[]] w fun y w' => y = .returned (.tuple #[]) ∧ But f f w w' ∧ FndAt w' f e fr (x.wid (from_ B fr) 16) := by
  have hle : ∀ d : M.Fnd, d.Ok → d.L ≤ d.H := fun d hd => Int.le_trans hd.le hd.up
  have h0 := cut_any f x.L x.H w ⟨h.cells.1, h.cells.2.1⟩ hx.low (hle x hx) hx.high
  have lf := Blk.lt h
  go_enter Try.func30, Try.ntmps30
  go_wp2_with (go_at_call 45; refine h0.mono ?_; clear h0; rintro e w1 ⟨rfl, rfl⟩)
  go_loopw [4, 5] (fun z m wr => ∃ (k j : Nat) (d : M.Fnd), z = .int .i64 (M.less d.L d.H) ∧ m = .bool (M.more d.L d.H) ∧ d.Ok ∧ x.wid (from_ B fr) 16 = d.wid (from_ B fr) k ∧ k + j = 16 ∧ d.r = x.r + j ∧ 65536 ≤ d.W * 2 ^ k ∧ But f f w1 wr ∧ FndAt wr f e fr d) (fun _ _ wr => 65536 - (intOf ((wr.cell? ⟨f, 1, none⟩).getD undef) - intOf ((wr.cell? ⟨f, 0, none⟩).getD undef)).toNat)
  case atStart => exact ⟨16, 0, x, rfl, rfl, hx, rfl, rfl, rfl, by have := hx.W_pos; omega, But.refl _ _ _, h⟩
  case round =>
    obtain ⟨k, j, d, rfl, rfl, hd, hwid, hkj, hD, hW, Kr, Cr⟩ := hrel
    cases hm : M.more d.L d.H with
    | true =>
      have hcs := M.less_cases hm hd.low hd.high (hle d hd)
      have hok := hd.dbl hm (from_ B fr)
      have hsm := hd.small hm
      have heR := he.but Kr hN (by omega)
      have hS := follow_any f N fr e d (M.less d.L d.H) B wr Cr heR hfr (by omega) (by have := hd.low; have := hd.le; omega) (by have := hd.up; have := hd.high; omega) (by omega) (by omega)
      have hdW := M.Fnd.dbl_W (from_ B fr) d
      have hk0 : k ≠ 0 := fun e => by subst e; rw [Int.pow_zero, Int.mul_one] at hW; omega
      obtain ⟨k', rfl⟩ : ∃ k', k = k' + 1 := ⟨k - 1, by omega⟩
      have hwid2 : x.wid (from_ B fr) 16 = (d.dbl (from_ B fr)).wid (from_ B fr) k' := by rw [hwid, M.Fnd.wid_more _ k' hm]
      have hW2 : 65536 ≤ (d.dbl (from_ B fr)).W * 2 ^ k' := by rw [hdW, Int.mul_comm 2, Int.mul_assoc, Int.mul_comm 2, ← Int.pow_succ]; exact hW
      have hdr : (d.dbl (from_ B fr)).r = d.r + 1 := rfl
      have hcut : ∀ w', Rng w' f (2 * (d.L - M.less d.L d.H)) (2 * (d.H - M.less d.L d.H) + 1) → Calls Try.prog 45 #[.pointer (some ⟨f, 0, none⟩)] w' fun e w'' => e = .returned (.tuple #[.int .i64 (M.less (d.dbl (from_ B fr)).L (d.dbl (from_ B fr)).H), .bool (M.more (d.dbl (from_ B fr)).L (d.dbl (from_ B fr)).H)]) ∧ w'' = w' :=
        fun w' hr => cut_any f (d.dbl (from_ B fr)).L (d.dbl (from_ B fr)).H w' hr hok.low (hle _ hok) hok.high
      have hfin : ∀ w2, FndAt w2 f e fr ⟨d.L, d.H, 2 * (d.V - M.less d.L d.H) + ((B (fr + d.r)).toNat : Int), d.r + 1⟩ → FndAt ((w2.setCell ⟨f, 0, none⟩ (.int .i64 (2 * (d.L - M.less d.L d.H)))).setCell ⟨f, 1, none⟩ (.int .i64 (2 * (d.H - M.less d.L d.H) + 1))) f e fr (d.dbl (from_ B fr)) ∧ Rng ((w2.setCell ⟨f, 0, none⟩ (.int .i64 (2 * (d.L - M.less d.L d.H)))).setCell ⟨f, 1, none⟩ (.int .i64 (2 * (d.H - M.less d.L d.H) + 1))) f (2 * (d.L - M.less d.L d.H)) (2 * (d.H - M.less d.L d.H) + 1) ∧ w2.cell? ⟨f, 0, none⟩ = some (.int .i64 d.L) ∧ w2.cell? ⟨f, 1, none⟩ = some (.int .i64 d.H) ∧ w2.frozen? ⟨f, 0, none⟩ = false ∧ w2.frozen? ⟨f, 1, none⟩ = false :=
        fun w2 C2 => ⟨(C2.low _).high _, ⟨((C2.low _).high _).cells.1, ((C2.low _).high _).cells.2.1⟩, C2.cells.1, C2.cells.2.1, Blk.free C2 0, Blk.free C2 1⟩
      have hL0 := hd.low; have hLH := hle d hd; have hH := hd.high
      obtain ⟨cr0, cr1, -⟩ := Cr.cells
      obtain ⟨dd, hdd⟩ : ∃ dd, dd = d.dbl (from_ B fr) := ⟨_, rfl⟩
      rw [← hdd] at hok hdW hwid2 hW2 hcut hfin hdr
      clear hdd hwid hW hsm
      obtain ⟨L, hL⟩ : ∃ L, L = d.L := ⟨_, rfl⟩
      obtain ⟨H, hH'⟩ : ∃ H, H = d.H := ⟨_, rfl⟩
      obtain ⟨X, hX⟩ : ∃ X, X = M.less d.L d.H := ⟨_, rfl⟩
      obtain ⟨z', hz'⟩ : ∃ z', z' = M.less dd.L dd.H := ⟨_, rfl⟩
      obtain ⟨m', hm'⟩ : ∃ m', m' = M.more dd.L dd.H := ⟨_, rfl⟩
      rw [← hz', ← hm'] at hcut
      rw [← hX] at hcut hfin hS hcs ⊢
      rw [← hL] at hcut hfin hS hcs hL0 hLH cr0
      rw [← hH'] at hcut hfin hS hcs hLH hH cr1
      replace hz' : Hid (z' = M.less dd.L dd.H) := hz'
      replace hm' : Hid (m' = M.more dd.L dd.H) := hm'
      clear hX hL hH'
      have x0 : 0 ≤ X := by omega
      have x1 : X ≤ 32768 := by omega
      have x2 : 0 ≤ L - X := by omega
      have x3 : H - X ≤ 32767 := by omega
      replace hcs : Hid ((X = 0 ∧ H < 32768) ∨ (X = 32768 ∧ 32768 ≤ L) ∨ (X = 16384 ∧ 16384 ≤ L ∧ H < 49152)) := hcs
      go_wp2_with (first
        | (go_at_call 42; refine hS.mono ?_; clear hS; rintro y w2 ⟨rfl, K2, C2⟩; obtain ⟨C3, R3, d0, d1, gr0, gr1⟩ := hfin _ C2)
        | (go_at_call 45; refine (hcut _ R3).mono ?_; rintro e w4 ⟨rfl, rfl⟩))
      go_roundw
      case rel => exact ⟨k', j + 1, dd, by rw [show z' = _ from hz'], by rw [show m' = _ from hm'], hok, hwid2, by omega, by omega, hW2, ((Kr.trans K2).set (a := ⟨f, 0, none⟩) (.inl rfl) _).set (a := ⟨f, 1, none⟩) (.inl rfl) _, C3⟩
      case measure =>
        obtain ⟨r0, r1⟩ := R3
        rw [r0, r1, cr0, cr1]; simp [intOf]; omega
    | false =>
      rw [M.Fnd.wid_less _ k hm] at hwid
      go_wp2
      go_end0
      rw [← hwid] at Cr
      exact ⟨rfl, Kr, Cr⟩

theorem Get_nil (v : Value) (w : World) : Calls Try.prog 25 #[.pointer none, v] w fun e w' => e = .returned (.tuple #[.int .i64 0, .int .i64 3]) ∧ w' = w := by
  go_enter Try.func25, Try.ntmps25
  go_wp2
  go_ret2
  exact ⟨rfl, rfl⟩

theorem Get_arg (f : Nat) (v : Value) (t : List Int) (w : World) (hv : Ints w v t) (hl : t.length ≤ 65536) (ht : ¬ M.Tab t) :
    Calls Try.prog 25 #[.pointer (some ⟨f, 0, none⟩), v] w fun e w' => e = .returned (.tuple #[.int .i64 0, .int .i64 1]) ∧ w' = w := by
  have hC := Check_any v t w hv hl
  rw [show errT t = 1 from if_neg ht] at hC
  obtain ⟨a, k, rfl, hk⟩ := hv.form
  go_enter Try.func25, Try.ntmps25
  go_wp2_with (go_at_call 12; refine hC.mono ?_; rintro e w' ⟨rfl, rfl⟩)
  go_ret2
  exact ⟨rfl, rfl⟩

set_option maxRecDepth 100000 in
theorem Get_ok (f N fr : Nat) (e v : Value) (x : M.Fnd) (t : List Int) (B : Nat → Bool) (w : World) (h : FndAt w f e fr x) (he : EyeAt w e N B) (hN : N ≤ f) (hx : x.Good) (hfr : fr ≤ 4096) (hr : x.r ≤ 900000) (hv : Ints w v t) (ht : M.Tab t) :
    Calls Try.prog 25 #[.pointer (some ⟨f, 0, none⟩), v] w fun y w' => y = .returned (.tuple #[.int .i64 (x.sym t : Nat), .int .i64 0]) ∧ But f f w w' ∧ FndAt w' f e fr (x.get (from_ B fr) t) := by
  have hC := Check_any v t w hv (by have := ht.2.1; omega)
  rw [show errT t = 0 from if_pos ht] at hC
  have hSy := symbol_any f fr e v x t w h hx hv ht
  obtain ⟨s1, s2, s3⟩ := hx.sym ht
  have lf := Blk.lt h
  have hN' := fun m => narrow_any f (x.sym t) x.L x.H v t _ 83 (w.drewN m) (h.drewN m) rfl rfl (hv.drewN m) ht s1 hx.low hx.high (M.wide_of hx.done).1
  obtain ⟨hok, _⟩ := hx.nar ht
  have hWd := fun w2 h2 he2 => widenF f N fr e (x.nar t (x.sym t)) B w2 h2 he2 hN hok hfr (by show x.r ≤ 900000; exact hr)
  have hfin : ∀ m w2, But f f (w.drewN m) w2 → Blk w2 f ((#[Value.int .i64 x.L, .int .i64 x.H, .int .i64 0, e, .int .i64 fr, .int .i64 x.r, .int .i64 x.V].setIfInBounds 1 (.int .i64 (x.L + M.part (x.H - x.L + 1) (M.flo t (x.sym t + 1)) t.sum - 1))).setIfInBounds 0 (.int .i64 (x.L + M.part (x.H - x.L + 1) (M.flo t (x.sym t)) t.sum))) 83 → FndAt w2 f e fr (x.nar t (x.sym t)) ∧ EyeAt w2 e N B ∧ But f f w w2 := fun m w2 bt hb2 => ⟨hb2, (he.drewN m).but bt hN (by show N ≤ w.heap.size; omega), ⟨bt.os, bt.tape, bt.output, bt.size, bt.block⟩⟩
  have hget : (x.nar t (x.sym t)).wid (from_ B fr) 16 = x.get (from_ B fr) t := rfl
  rw [hget] at hWd
  obtain ⟨S, hS⟩ : ∃ S, S = x.sym t := ⟨_, rfl⟩
  rw [← hS] at hSy hN' hWd hfin s1 ⊢
  clear hS
  obtain ⟨a, k, rfl, hk⟩ := hv.form
  go_enter Try.func25, Try.ntmps25
  go_wp2_with (first
    | (go_at_call 12; refine hC.mono ?_; clear hC; rintro e w' ⟨rfl, hw⟩; rw [hw]; clear hw w')
    | (go_at_call 41; refine hSy.mono ?_; clear hSy; rintro e w' ⟨rfl, m, hw⟩; rw [hw]; clear hw w')
    | (go_at_call 29; refine (hN' m).mono ?_; clear hN'; rintro e w2 ⟨rfl, bt2, hb2⟩; obtain ⟨C2, E2, bt⟩ := hfin m w2 bt2 hb2)
    | (go_at_call 30; refine (hWd w2 C2 E2).mono ?_; clear hWd; rintro e w3 ⟨rfl, K3, C3⟩))
  go_ret2
  exact ⟨rfl, bt.trans K3, C3⟩

/-- what Get answers, and what it makes of a finder -/
def getE (t : List Int) : Int := @ite Int (M.Tab t) (M.tabDec t) 0 1
def getS (x : M.Fnd) (t : List Int) : Nat := @ite Nat (M.Tab t) (M.tabDec t) (x.sym t) 0
def getX (B : Nat → Bool) (x : M.Fnd) (t : List Int) : M.Fnd := @ite M.Fnd (M.Tab t) (M.tabDec t) (x.get B t) x

theorem Get_any (f N fr : Nat) (e v : Value) (x : M.Fnd) (t : List Int) (B : Nat → Bool) (w : World) (h : FndAt w f e fr x) (he : EyeAt w e N B) (hN : N ≤ f) (hx : x.Good) (hfr : fr ≤ 4096) (hr : x.r ≤ 900000) (hv : Ints w v t) (hl : t.length ≤ 65536) :
    Calls Try.prog 25 #[.pointer (some ⟨f, 0, none⟩), v] w fun y w' => y = .returned (.tuple #[.int .i64 (getS x t), .int .i64 (getE t)]) ∧ But f f w w' ∧ FndAt w' f e fr (getX (from_ B fr) x t) := by
  unfold getE getS getX
  by_cases ht : M.Tab t
  · rw [if_pos ht, if_pos ht, if_pos ht]
    exact Get_ok f N fr e v x t B w h he hN hx hfr hr hv ht
  · rw [if_neg ht, if_neg ht, if_neg ht]
    exact (Get_arg f v t w hv hl ht).mono fun y w' ⟨hy, hw⟩ => ⟨hy, by rw [hw]; exact But.refl _ _ _, by rw [hw]; exact h⟩
theorem getX_good {x : M.Fnd} (h : x.Good) (t : List Int) (B : Nat → Bool) : (getX B x t).Good ∧ x.r ≤ (getX B x t).r ∧ (getX B x t).r ≤ x.r + 14 := by
  unfold getX
  split
  · next ht => exact h.get ht B
  · exact ⟨h, by omega, by omega⟩

theorem Read_any (f fr : Nat) (e : Value) (x : M.Fnd) (w : World) (h : FndAt w f e fr x) :
    Calls Try.prog 27 #[.pointer (some ⟨f, 0, none⟩)] w fun y w' => y = .returned (.int .i64 x.r) ∧ w' = w := by
  obtain ⟨c0, c1, c3, c4, c5, c6, frz⟩ := h.cells
  go_enter Try.func27, Try.ntmps27
  go_wp2
  go_ret
  exact ⟨rfl, rfl⟩

theorem Read_nil (w : World) : Calls Try.prog 27 #[.pointer none] w fun y w' => y = .returned (.int .i64 0) ∧ w' = w := by
  go_enter Try.func27, Try.ntmps27
  go_wp2
  go_ret
  exact ⟨rfl, rfl⟩

end Ari
end Go.Proofs.Ytknolfpjhfpfaaa
