/-
  Contracts of the document's Tail, Seal and Open (psalteryref06). No conditions but the bytes' number.
-/
import Derived.Test.YtifafoecejnhkaaCheckRef
import Derived.Lib.Split
namespace Go.Proofs.Ytifafoecejnhkaa
set_option linter.unusedVariables false
open Go.RowKit
namespace Chk
open Bits (Blk But add_at wrap_id)
open Byt (Given)

theorem run_one (w : World) (y : Nat) (hy : y < 256) : (convert 22 9 (.slice (some ⟨w.heap.size, 0, none⟩) 1 1)).run Try.prog (w.alloc (.cells #[.int .u8 (y : Int)] 5)) = .ok (.string (Byt.str [y])) (w.alloc (.cells #[.int .u8 (y : Int)] 5)) := by
  have hb := Blk.new w #[.int .u8 (y : Int)] 5
  refine Byt.run_str (xs := [y]) ⟨_, 1, rfl, Nat.le_refl _, fun x hx => by simp at hx; omega, (fun h => by cases h), .inr ⟨w.heap.size, 0, rfl, hb.lt, fun i x hi => ?_⟩⟩
  obtain ⟨rfl, rfl⟩ : i = 0 ∧ y = x := by
    rcases i with _ | i
    · exact ⟨rfl, by simpa using hi⟩
    · simp at hi
  exact hb.cell rfl

set_option maxRecDepth 100000 in
theorem RTail_any (n s p S : Nat) (w : World) (hk : Knd n s p) (hS : S < 2 ^ n) :
    Calls Try.prog 21 #[.int .i64 n, .int .u32 S] w fun e w' => e = .returned (.string (Byt.str (M.tail (n / 8) S))) ∧ Below w.heap.size w w' := by
  have hs := hk.small
  obtain ⟨N, hN, hN1, hN3⟩ := hk.eight
  have eN : n / 8 = N := by omega
  rw [eN]
  have e1 : (n : Int) / 8 = N := by omega
  have e2 : (0 : Int) ≤ n := by omega
  have e3 : n ≤ 24 := by omega
  have hSl : (S : Int) ≤ 16777215 := by omega
  clear hN eN hS
  go_enter Try.func21, Try.ntmps21
  go_wp2
  go_loopw [1, 5, 6] (fun x t i wr => ∃ m : Nat, m ≤ N ∧ x = .int .u32 (S / 2 ^ (8 * m) : Nat) ∧ t = .string (Byt.str (M.tail m S)) ∧ i = .int .i64 m ∧ Below w.heap.size w wr) (fun _ _ i _ => N - (intOf i).toNat)
  case atStart => exact ⟨0, by omega, by simp, rfl, rfl, Below.refl _ _⟩
  case round =>
    obtain ⟨m, hm, rfl, rfl, rfl, bel⟩ := hrel
    by_cases hlt : m < N
    · have hxn : S / 2 ^ (8 * m) / 256 = S / 2 ^ (8 * (m + 1)) := by
        rw [Nat.div_div_eq_div_mul, show (256 : Nat) = 2 ^ 8 from rfl, ← Nat.pow_add, show 8 * m + 8 = 8 * (m + 1) by omega]
      have hxl : S / 2 ^ (8 * m) ≤ S := Nat.div_le_self _ _
      have htl := M.tail_succ m S
      obtain ⟨x, hx⟩ : ∃ x, x = S / 2 ^ (8 * m) := ⟨_, rfl⟩
      rw [← hx] at hxn hxl htl ⊢
      obtain ⟨y, hy1, hy2⟩ : ∃ y : Nat, (x : Int) % 256 = y ∧ y = x % 256 := ⟨x % 256, by omega, rfl⟩
      have hy3 : y < 256 := by omega
      rw [← hy2] at htl
      have hcv := run_one wr y hy3
      have hap : Byt.str [y] ++ Byt.str (M.tail m S) = Byt.str (M.tail (m + 1) S) := by rw [Byt.str_append, htl]; rfl
      obtain ⟨T, hT⟩ : ∃ T, T = Byt.str (M.tail m S) := ⟨_, rfl⟩
      have hsz : ¬ 9223372036854775807 < (Byt.str [y]).size + T.size := by rw [hT, Byt.str_size, Byt.str_size, M.tail_length]; simp; omega
      rw [← hT] at hap ⊢
      replace hap : Hid (Byt.str [y] ++ T = Byt.str (M.tail (m + 1) S)) := hap
      replace hxn : Hid (x / 256 = S / 2 ^ (8 * (m + 1))) := hxn
      clear hx hy2 htl hT
      have hxi : (x : Int) ≤ 16777215 := by omega
      clear hxl
      go_wp2
      go_roundw
      case rel =>
        refine ⟨m + 1, by omega, ?_, ?_, by go_num, bel.alloc bel.size _⟩
        · rw [← show x / 256 = _ from hxn]; go_num
        · rw [← show Byt.str [y] ++ T = _ from hap]
      case measure => simp [intOf]; omega
    · obtain rfl : m = N := by omega
      go_wp2
      go_ret
      exact ⟨rfl, bel⟩

set_option maxRecDepth 100000 in
theorem RSeal_ok (n s p : Nat) (t : ByteArray) (w : World) (hk : Knd n s p) (hl : t.size ≤ 65000) :
    Calls Try.prog 13 #[.int .i64 n, .string t] w fun e w' => e = .returned (.tuple #[.string (Byt.str (sealed n s p (Byt.nums t))), .int .i64 0]) ∧ Below w.heap.size w w' := by
  have hkd := RKind_ok n s p w hk
  have hnl := Byt.nums_length t
  have hcv := Byt.run_of w t
  have hg := Byt.given_of w t
  obtain ⟨c, hce⟩ : ∃ c, c = Byt.capOf w t := ⟨_, rfl⟩
  obtain ⟨o, hoe⟩ : ∃ o, o = Byt.objOf w t := ⟨_, rfl⟩
  rw [← hce, ← hoe] at hcv hg
  clear hce hoe
  have hS := M.run_lt n p s (8 * t.size) (M.bitL (Byt.nums t)) hk.p_lt hk.s_lt
  have hsum := RSum_any n s p _ (Byt.nums t) (8 * t.size) _ hk hg (by omega) (by omega)
  obtain ⟨R, hR⟩ : ∃ R, R = M.run n p (M.bitL (Byt.nums t)) s (8 * t.size) := ⟨_, rfl⟩
  rw [← hR] at hS hsum
  have htail := fun w => RTail_any n s p R w hk hS
  have hse : Byt.str (sealed n s p (Byt.nums t)) = t ++ Byt.str (M.tail (n / 8) R) := by
    unfold sealed
    rw [← Byt.str_append, Byt.str_nums, hnl, ← hR]
  have h24 : n / 8 ≤ 3 := by obtain ⟨N, hN, _, hN3⟩ := hk.eight; omega
  have hsz : ¬ 9223372036854775807 < t.size + (Byt.str (M.tail (n / 8) R)).size := by rw [Byt.str_size, M.tail_length]; omega
  rw [hse]
  clear hse hS hR
  have e8 : Hid ((8 : Int) * (t.size : Int) = ((8 * t.size : Nat) : Int)) := show (8 : Int) * (t.size : Int) = ((8 * t.size : Nat) : Int) by omega
  go_enter Try.func13, Try.ntmps13
  go_wp2_with (first
    | (go_at_call 8; refine hkd.mono ?_; clear hkd; rintro e w1 ⟨rfl, hw1⟩; rw [hw1]; clear hw1 w1)
    | (go_at_call 11; rw [show (8 : Int) * (t.size : Int) = ((8 * t.size : Nat) : Int) from e8]; refine hsum.mono ?_; clear hsum; rintro e w2 ⟨rfl, hw2⟩; rw [hw2]; clear hw2 w2)
    | (go_at_call 21; refine (htail _).mono ?_; clear htail; rintro e w3 ⟨rfl, bel3⟩))
  go_ret2
  have b1 : Below w.heap.size w (w.alloc o) := (Below.refl _ w).alloc (Nat.le_refl _) _
  exact ⟨rfl, b1.trans (Bits.Below.less (of_drew bel3) b1.size)⟩

theorem RSeal_no (n : Int) (t : ByteArray) (w : World) (h1 : n ≠ 8) (h2 : n ≠ 16) (h3 : n ≠ 24) :
    Calls Try.prog 13 #[.int .i64 n, .string t] w fun e w' => e = .returned (.tuple #[.string (Byt.str []), .int .i64 1]) ∧ w' = w := by
  have hkd := RKind_no n w h1 h2 h3
  go_enter Try.func13, Try.ntmps13
  go_wp2_with (go_at_call 8; refine hkd.mono ?_; clear hkd; rintro e w1 ⟨rfl, hw1⟩; rw [hw1]; clear hw1 w1)
  go_ret2
  exact ⟨rfl, rfl⟩

theorem ROpen_no (n : Int) (t : ByteArray) (w : World) (h1 : n ≠ 8) (h2 : n ≠ 16) (h3 : n ≠ 24) :
    Calls Try.prog 15 #[.int .i64 n, .string t] w fun e w' => e = .returned (.tuple #[.string (Byt.str []), .int .i64 1]) ∧ w' = w := by
  have hkd := RKind_no n w h1 h2 h3
  go_enter Try.func15, Try.ntmps15
  go_wp2_with (go_at_call 8; refine hkd.mono ?_; clear hkd; rintro e w1 ⟨rfl, hw1⟩; rw [hw1]; clear hw1 w1)
  go_ret2
  exact ⟨rfl, rfl⟩

theorem ROpen_short (n s p : Nat) (t : ByteArray) (w : World) (hk : Knd n s p) (hl : t.size < n / 8) :
    Calls Try.prog 15 #[.int .i64 n, .string t] w fun e w' => e = .returned (.tuple #[.string (Byt.str []), .int .i64 60]) ∧ w' = w := by
  have hkd := RKind_ok n s p w hk
  have e1 : (n : Int) / 8 = ((n / 8 : Nat) : Int) := by omega
  obtain ⟨N, hN, hN1, hN3⟩ := hk.eight
  have eN : n / 8 = N := by omega
  rw [eN] at e1 hl
  clear eN hN
  have e2 : (0 : Int) ≤ n := by omega
  have e3 : (t.size : Int) < N := by omega
  go_enter Try.func15, Try.ntmps15
  go_wp2_with (go_at_call 8; refine hkd.mono ?_; clear hkd; rintro e w1 ⟨rfl, hw1⟩; rw [hw1]; clear hw1 w1)
  go_ret2
  exact ⟨rfl, rfl⟩

theorem nums_take (t : ByteArray) (m : Nat) : Byt.nums (t.extract 0 m) = (Byt.nums t).take m := by
  unfold Byt.nums
  rw [Lib.extract_from_zero, List.map_take]

set_option maxRecDepth 100000 in
theorem ROpen_any (n s p : Nat) (t : ByteArray) (m : Nat) (w : World) (hk : Knd n s p) (hl : t.size ≤ 65000) (hm : t.size = m + n / 8) :
    Calls Try.prog 15 #[.int .i64 n, .string t] w fun e w' => e = .returned (if sealed n s p ((Byt.nums t).take m) = Byt.nums t then .tuple #[.string (Byt.str ((Byt.nums t).take m)), .int .i64 0] else .tuple #[.string (Byt.str []), .int .i64 60]) ∧ Below w.heap.size w w' := by
  have hkd := RKind_ok n s p w hk
  have hse := RSeal_ok n s p (t.extract 0 m) w hk (by rw [ByteArray.size_extract]; omega)
  rw [nums_take] at hse
  have hte : t.extract 0 m = Byt.str ((Byt.nums t).take m) := by rw [← nums_take, Byt.str_nums]
  have hsl : ∀ x ∈ sealed n s p ((Byt.nums t).take m), x < 256 := by
    intro x hx
    unfold sealed at hx
    rcases List.mem_append.1 hx with h | h
    · exact Byt.nums_lt t x (List.mem_of_mem_take h)
    · exact M.tail_lt _ _ x h
  have hcmp := Byt.str_eq hsl (Byt.nums_lt t)
  rw [Byt.str_nums] at hcmp
  obtain ⟨q, hq⟩ : ∃ q, q = sealed n s p ((Byt.nums t).take m) := ⟨_, rfl⟩
  rw [← hq] at hcmp hse ⊢
  obtain ⟨N, hN, hN1, hN3⟩ := hk.eight
  have eN : n / 8 = N := by omega
  have e1 : (n : Int) / 8 = N := by omega
  have e2 : (0 : Int) ≤ n := by omega
  rw [eN] at hm
  have e3 : ¬ (t.size : Int) < N := by omega
  have e4 : (t.size : Int) - N = m := by omega
  have e5 : (0 : Int) ≤ m := by omega
  have e6 : (m : Int) ≤ t.size := by omega
  have e7 : m ≤ t.size := by omega
  clear hm hN eN hq
  by_cases h : q = Byt.nums t
  · rw [if_pos h]
    rw [decide_eq_true h] at hcmp
    have hte' : Hid (t.extract 0 m = Byt.str ((Byt.nums t).take m)) := hte
    clear h hte
    go_enter Try.func15, Try.ntmps15
    go_wp2_with (first
      | (go_at_call 8; refine hkd.mono ?_; clear hkd; rintro e w1 ⟨rfl, hw1⟩; rw [hw1]; clear hw1 w1)
      | (go_at_call 13; refine hse.mono ?_; clear hse; rintro e w3 ⟨rfl, bel3⟩))
    go_ret2
    exact ⟨by rw [← show t.extract 0 m = _ from hte']; rfl, bel3⟩
  · rw [if_neg h]
    rw [decide_eq_false h] at hcmp
    clear h hte
    go_enter Try.func15, Try.ntmps15
    go_wp2_with (first
      | (go_at_call 8; refine hkd.mono ?_; clear hkd; rintro e w1 ⟨rfl, hw1⟩; rw [hw1]; clear hw1 w1)
      | (go_at_call 13; refine hse.mono ?_; clear hse; rintro e w3 ⟨rfl, bel3⟩))
    go_ret2
    exact ⟨rfl, bel3⟩

end Chk
end Go.Proofs.Ytifafoecejnhkaa
