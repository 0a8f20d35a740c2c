import Derived.Test.YtcaifpjbjghhaaaGreatDoorSubP34
import Derived.Test.YtcaifpjbjghhaaaGreatDoorSubP26
/-
  Contracts of places: the iterator over a frame's numbers. Conditions: as told at each.
-/
namespace Go.Proofs.YtcaifpjbjghhaaaGreatDoor
set_option linter.unusedVariables false
open Go.RowKit Go.Shelf
namespace Sub
open Bank (Blk But)
open _root_.Go.Proofs.YtcaifpjbjghhaaaGreatDoor.Form (fv fc bel1)
attribute [local go_sem] Oper.semAt_some

abbrev Plc (N C B : Nat) := Fin N × Fin C × Fin B
def pv {N C B : Nat} (x : Plc N C B) : Value := .agg #[.int .i64 (x.1.val : Int), .int .i64 (x.2.1.val : Int), .int .i64 (x.2.2.val : Int)]
def pc {N C B : Nat} (x : Plc N C B) : Array Value := #[.int .i64 (x.1.val : Int), .int .i64 (x.2.1.val : Int), .int .i64 (x.2.2.val : Int)]
section
variable {N C B : Nat}
def lb (i : Fin N) (c : Fin C) (b : Nat) : List (Plc N C B) := ((List.finRange B).take b).map fun b => (i, c, b)
def lc (i : Fin N) (c : Nat) : List (Plc N C B) := ((List.finRange C).take c).flatMap fun c => lb i c B
def ln (n : Nat) : List (Plc N C B) := ((List.finRange N).take n).flatMap fun i => lc i C
def plist (N C B : Nat) : List (Plc N C B) := ln N
theorem take_fin {n i : Nat} (h : i < n) : (List.finRange n).take (i + 1) = (List.finRange n).take i ++ [⟨i, h⟩] := by
  rw [List.take_add_one]
  simp [h]
theorem take_all (n : Nat) : (List.finRange n).take n = List.finRange n := List.take_of_length_le (by simp)
theorem lb_succ (i : Fin N) (c : Fin C) {b : Nat} (h : b < B) : (lb i c (b + 1) : List (Plc N C B)) = lb i c b ++ [(i, c, ⟨b, h⟩)] := by
  unfold lb; rw [take_fin h]; simp
theorem lc_succ (i : Fin N) {c : Nat} (h : c < C) : (lc i (c + 1) : List (Plc N C B)) = lc i c ++ lb i ⟨c, h⟩ B := by
  unfold lc; rw [take_fin h]; simp
theorem ln_succ {n : Nat} (h : n < N) : (ln (n + 1) : List (Plc N C B)) = ln n ++ lc ⟨n, h⟩ C := by
  unfold ln; rw [take_fin h]; simp
theorem lb_zero (i : Fin N) (c : Fin C) : (lb i c 0 : List (Plc N C B)) = [] := rfl
theorem lc_zero (i : Fin N) : (lc i 0 : List (Plc N C B)) = [] := rfl
theorem ln_zero : (ln 0 : List (Plc N C B)) = [] := rfl
theorem mem_plist (x : Plc N C B) : x ∈ plist N C B := by
  obtain ⟨i, c, b⟩ := x
  unfold plist ln lc lb
  simp only [take_all, List.mem_flatMap, List.mem_map, List.mem_finRange, true_and]
  exact ⟨i, c, b, rfl⟩
theorem lb_len (i : Fin N) (c : Fin C) {b : Nat} (h : b ≤ B) : (lb i c b : List (Plc N C B)).length = b := by simp [lb]; omega
theorem lc_len (i : Fin N) : ∀ {c : Nat}, c ≤ C → (lc i c : List (Plc N C B)).length = c * B
  | 0, _ => by simp [lc_zero]
  | c + 1, h => by rw [lc_succ i h, List.length_append, lc_len i (by omega), lb_len _ _ (Nat.le_refl _), Nat.succ_mul]
theorem ln_len : ∀ {n : Nat}, n ≤ N → (ln n : List (Plc N C B)).length = n * (C * B)
  | 0, _ => by simp [ln_zero]
  | n + 1, h => by rw [ln_succ h, List.length_append, ln_len (by omega), lc_len _ (Nat.le_refl _), Nat.succ_mul]
end

def KB (Bn : Nat) (W W' : World) : Prop := W'.heap[Bn]? = W.heap[Bn]?
theorem KB.t {Bn : Nat} {A B C : World} (h : KB Bn A B) (k : KB Bn B C) : KB Bn A C := k.trans h
theorem KB.b {Bn : Nat} {w : World} (hn : Bn < w.heap.size) (W : World) (l : Nat) (o o' : Obj) (hl : w.heap.size ≤ l) (h : W.heap[l]? = some o) (_ : o.isCells = false) (_ : o.isWalk = false) : KB Bn W (W.putObj l o') := by
  unfold KB
  exact World.putObj_heap_other (by omega)

set_option maxRecDepth 100000 in
set_option maxHeartbeats 2000000 in
theorem places1_in (n l Bn : Nat) (f : M.Fmt) (N C B : Nat) (hN : f.k = N) (hC : f.h = C) (hB : f.b = B) (N16 : N ≤ 16) (C2 : C ≤ 2) (B8 : B ≤ 8) (J Jx : List (Plc N C B) → World → Prop)
    (hY : ∀ pre (x : Plc N C B) W, J pre W → pre.length < 10000 → YieldAt Fence.wide (n - 1) Tryz.prog l #[pv x] W fun e W' =>
      (e = .returned (.bool true) ∧ J (pre ++ [x]) W' ∧ KB Bn W W') ∨ (e = .returned (.bool false) ∧ Jx (pre ++ [x]) W'))
    (W : World) (hBn : Blk W Bn (fc f) 23) (h0 : J [] W) :
    CallsIn Fence.wide n Tryz.prog 110 #[.func (.yield l) #[] #[], .pointer (some ⟨Bn, 0, none⟩)] W fun e W' => (∃ v, e = .returned v) ∧
      ((∃ ys, ys = plist N C B ∧ J ys W') ∨ (∃ pre, True ∧ Jx pre W')) := by
  have hCB : C * B ≤ 16 := by have := Nat.mul_le_mul C2 B8; omega
  have hlen : ∀ (i : Fin N) (c : Fin C) (b : Nat), b < B → (ln i.val ++ lc i c.val ++ lb i c b : List (Plc N C B)).length < 10000 := by
    intro i c b hb
    rw [List.length_append, List.length_append, ln_len (by omega), lc_len _ (by omega), lb_len _ _ (by omega)]
    have h1 := Nat.mul_le_mul (show i.val ≤ 16 by omega) hCB
    have h2 := Nat.mul_le_mul (show c.val ≤ 2 by omega) B8
    omega
  have HLen : Hid _ := hlen
  have HY : Hid _ := hY
  have HB : Hid (Blk W Bn (fc f) 23) := hBn
  clear hlen hY hCB
  have q4 : W.cell? ⟨Bn, 4, none⟩ = some (.int .i64 (N : Int)) := by rw [← hN]; exact hBn.cell rfl
  have i1 : (N : Int) ≤ 16 := by omega
  have i2 : (C : Int) ≤ 2 := by omega
  have i3 : (B : Int) ≤ 8 := by omega
  clear hBn
  refine callsIn_of_wp Tryz.func110 rfl trivial ?_ rfl
  simp only [Tryz.ntmps110, List.size_toArray, List.length_cons, List.length_nil, Nat.reduceAdd, Nat.reduceSub, Array.replicate_succ, Array.replicate_zero, List.push_toArray, List.append_toArray, List.nil_append, List.cons_append]
  gi_wp2
  gi_loopw [8] (fun i wr => ∃ q : Nat, q ≤ N ∧ i = .int .i64 q ∧ J (ln q) wr ∧ Blk wr Bn (fc f) 23) (fun i _ => N - (intOf i).toNat)
  case atStart => exact ⟨0, by omega, rfl, h0, HB.out⟩
  case round =>
    obtain ⟨q, hq, rfl, hJ, hb⟩ := hrel
    by_cases hlt : q < N
    · have hlt' : (q : Int) < N := by omega
      have q2 : wr.cell? ⟨Bn, 2, none⟩ = some (.int .i64 (C : Int)) := by rw [← hC]; exact hb.cell rfl
      have HJ : Hid (J (ln q) wr) := hJ
      have HX : Hid (Blk wr Bn (fc f) 23) := hb
      clear hJ hb q4 h0 HB
      gi_wp2
      gi_loopw [13] (fun i wr => ∃ c : Nat, c ≤ C ∧ i = .int .i64 c ∧ J (ln q ++ lc ⟨q, hlt⟩ c) wr ∧ Blk wr Bn (fc f) 23) (fun i _ => C - (intOf i).toNat)
      case atStart => exact ⟨0, by omega, rfl, by rw [lc_zero, List.append_nil]; exact HJ.out, HX.out⟩
      case round =>
        clear HJ HX q2
        obtain ⟨c, hc, rfl, hJ, hb⟩ := hrel
        by_cases hltc : c < C
        · have hltc' : (c : Int) < C := by omega
          have q3 : wr.cell? ⟨Bn, 3, none⟩ = some (.int .i64 (B : Int)) := by rw [← hB]; exact hb.cell rfl
          have HJ : Hid (J (ln q ++ lc ⟨q, hlt⟩ c) wr) := hJ
          have HX : Hid (Blk wr Bn (fc f) 23) := hb
          clear hJ hb
          gi_wp2
          gi_loopw [18] (fun i wr => ∃ b : Nat, b ≤ B ∧ i = .int .i64 b ∧ J (ln q ++ lc ⟨q, hlt⟩ c ++ lb ⟨q, hlt⟩ ⟨c, hltc⟩ b) wr ∧ Blk wr Bn (fc f) 23) (fun i _ => B - (intOf i).toNat)
          case atStart => exact ⟨0, by omega, rfl, by rw [lb_zero, List.append_nil]; exact HJ.out, HX.out⟩
          case round =>
            clear HJ HX q3
            obtain ⟨b, hb', rfl, hJ, hb⟩ := hrel
            by_cases hltb : b < B
            · have hltb' : (b : Int) < B := by omega
              obtain ⟨fn, tmps, assign, body, hy, hR⟩ := HY.out _ (⟨q, hlt⟩, ⟨c, hltc⟩, ⟨b, hltb⟩) wr hJ (HLen.out ⟨q, hlt⟩ ⟨c, hltc⟩ b hltb)
              have HX : Hid (Blk wr Bn (fc f) 23) := hb
              clear hJ hb
              unfold pv at hy
              dsimp only at hy
              gi_wp2
              refine ⟨fun h => by simp [Fence.wide] at h, hR.mono ?_⟩
              clear hR
              rintro e W3 (⟨rfl, hJ3, hk3⟩ | ⟨rfl, hJx3⟩)
              · have HJ3 : Hid _ := hJ3
                have HX3 : Hid (Blk W3 Bn (fc f) 23) := hk3.trans HX.out
                clear hJ3 hk3
                gi_wp2
                go_roundw
                case rel => exact ⟨b + 1, by omega, by go_num, by rw [lb_succ _ _ hltb, ← List.append_assoc]; exact HJ3.out, HX3.out⟩
                case measure => simp [intOf]; omega
              · have HJ3 : Hid _ := hJx3
                clear hJx3
                gi_wp2
                refine bodyPost_ret (results_none rfl _ _ _) rfl ?_
                exact ⟨⟨_, rfl⟩, .inr ⟨_, trivial, HJ3.out⟩⟩
            · obtain rfl : b = B := by omega
              have HJ : Hid _ := hJ
              have HX : Hid (Blk wr Bn (fc f) 23) := hb
              clear hJ hb
              gi_wp2
              go_roundw
              case rel => exact ⟨c + 1, by omega, by go_num, by rw [lc_succ _ hltc, ← List.append_assoc]; exact HJ.out, HX.out⟩
              case measure => simp [intOf]; omega
        · obtain rfl : c = C := by omega
          have HJ : Hid _ := hJ
          have HX : Hid (Blk wr Bn (fc f) 23) := hb
          clear hJ hb
          gi_wp2
          go_roundw
          case rel => exact ⟨q + 1, by omega, by go_num, by rw [ln_succ hlt]; exact HJ.out, HX.out⟩
          case measure => simp [intOf]; omega
    · obtain rfl : q = N := by omega
      have HJ : Hid _ := hJ
      clear hJ hb
      gi_wp2
      go_end0
      exact ⟨⟨_, rfl⟩, .inl ⟨_, rfl, HJ.out⟩⟩

theorem places_stops (n Bn : Nat) (f : M.Fmt) (N C B : Nat) (hN : f.k = N) (hC : f.h = C) (hB : f.b = B) (N16 : N ≤ 16) (C2 : C ≤ 2) (B8 : B ≤ 8) (w : World) (hBn : Blk w Bn (fc f) 23) :
    SeqStopsK Fence.wide n Tryz.prog 110 #[.pointer (some ⟨Bn, 0, none⟩)] (fun x : Plc N C B => #[pv x]) (KB Bn) (fun ys => ys = plist N C B) (fun _ => True) 10000 w := fun l J Jx W hW _ _ hY h0 =>
  places1_in n l Bn f N C B hN hC hB N16 C2 B8 J Jx hY W ((hW.block Bn hBn.lt).trans hBn) h0

set_option maxRecDepth 100000 in
theorem places_any (f : M.Fmt) (w : World) : Calls Tryz.prog 50 #[fv f] w fun e w' => e = .returned (.func (.func 110) #[] #[.pointer (some ⟨w.heap.size, 0, none⟩)]) ∧ w' = w.alloc (.cells (fc f) 23) := by
  obtain ⟨c_, r_, h_, b_, k_, m_, j_, p_, l_, y_⟩ := f
  unfold fv fc
  dsimp only
  go_enter Tryz.func50, Tryz.ntmps50
  go_wp2
  go_ret
  exact ⟨rfl, rfl⟩

end Sub
end Go.Proofs.YtcaifpjbjghhaaaGreatDoor

