/-
  Contracts of layer 2 (logs): powers of two, and the document's answer for them. Conditions: each number fits its kind; the table of the roots of two stands as its initialiser lays it.
-/
import Derived.Test.YthfligbkgoonoaaDoorLogsLog
import Derived.Test.YthfligbkgoonoaaDoorFixRef
import Derived.Laws.Rows
namespace Go.Proofs.YthfligbkgoonoaaDoor
open Go.RowKit
namespace Logs

/-- the roots of two, as they lie in memory -/
abbrev rootsArr : Array Value := #[.int .i64 1518500249, .int .i64 1276901416, .int .i64 1170923761, .int .i64 1121280435, .int .i64 1097253708, .int .i64 1085434105, .int .i64 1079572135, .int .i64 1076653033]
def Tab (w : World) : Prop := ∃ t fr, w.heap[0]? = some (.cells rootsArr t fr)
theorem Tab.drewN {w : World} (h : Tab w) (m : Nat) : Tab (w.drewN m) := h

theorem i32_and1 (n : Int) : bits .and .i32 n 1 = n % 2 := by
  have h1 : (BitVec.ofInt 32 1).toNat = 2 ^ 1 - 1 := by decide
  have key : (BitVec.ofInt 32 n &&& BitVec.ofInt 32 1).toNat = (n % ((2 ^ 32 : Nat) : Int)).toNat % 2 ^ 1 := by
    rw [BitVec.toNat_and, BitVec.toNat_ofInt, h1, Nat.and_two_pow_sub_one_eq_mod]
  show IntKind.i32.wrap ((BitVec.ofInt 32 n &&& BitVec.ofInt 32 1).toNat : Nat) = n % 2
  rw [key, IntKind.wrap_i32]
  omega
theorem i32_and255 (n : Int) : bits .and .i32 n 255 = n % 256 := by
  have h1 : (BitVec.ofInt 32 255).toNat = 2 ^ 8 - 1 := by decide
  have key : (BitVec.ofInt 32 n &&& BitVec.ofInt 32 255).toNat = (n % ((2 ^ 32 : Nat) : Int)).toNat % 2 ^ 8 := by
    rw [BitVec.toNat_and, BitVec.toNat_ofInt, h1, Nat.and_two_pow_sub_one_eq_mod]
  show IntKind.i32.wrap ((BitVec.ofInt 32 n &&& BitVec.ofInt 32 255).toNat : Nat) = n % 256
  rw [key, IntKind.wrap_i32]
  omega

theorem exp_hi {q E : Int} {F : Nat} (h0 : -4096 ≤ q) (hE : q / 256 = E) (hF : q % 256 = F) (h : 14 ≤ E) : M.exp q = M.ey F 8 * 2 ^ (E - 14).toNat := by
  have e1 : (q + 4096).toNat / 256 = (E + 16).toNat := by omega
  have e2 : (q + 4096).toNat % 256 = F := by omega
  unfold M.exp M.expN
  rw [e1, e2, if_pos (by omega)]
  congr 2; omega
theorem exp_lo {q E : Int} {F : Nat} (h0 : -4096 ≤ q) (hE : q / 256 = E) (hF : q % 256 = F) (h : E < 14) : (M.exp q : Int) = M.rnd (M.ey F 8) (14 - E) := by
  have e1 : (q + 4096).toNat / 256 = (E + 16).toNat := by omega
  have e2 : (q + 4096).toNat % 256 = F := by omega
  unfold M.exp M.expN
  rw [e1, e2, if_neg (by omega), Ref.rnd_in _ _ (by omega) (by omega)]
  rw [show (14 - E).toNat - 1 = 29 - (E + 16).toNat from by omega]
  simp

theorem Exp_err (q : Int) (w : World) (h : q < -4096 ∨ 7680 < q) :
    Calls Tryd.prog 14 #[.int .i32 q] w fun e w' => e = .returned (.tuple #[.int .u64 0, .int .i64 1]) ∧ w' = w := by
  rcases h with h | h
  · go_enter Tryd.func14, Tryd.ntmps14
    go_wp2
    go_ret2
    exact ⟨rfl, rfl⟩
  · have h' : ¬ q < -4096 := by omega
    go_enter Tryd.func14, Tryd.ntmps14
    go_wp2
    go_ret2
    exact ⟨rfl, rfl⟩

theorem index_roots (k : Nat) (hk : k < 8) (w : World) : (Instr.index 41 (.agg rootsArr) (.int .i64 k)).run Tryd.prog w = .ok (.int .i64 (M.R k)) w := by
  rcases (by omega : k = 0 ∨ k = 1 ∨ k = 2 ∨ k = 3 ∨ k = 4 ∨ k = 5 ∨ k = 6 ∨ k = 7) with rfl | rfl | rfl | rfl | rfl | rfl | rfl | rfl
  all_goals kernel_rfl

set_option maxRecDepth 100000 in
theorem Exp_any (q : Int) (w : World) (hT : Tab w) (h0 : -4096 ≤ q) (h1 : q ≤ 7680) :
    Calls Tryd.prog 14 #[.int .i32 q] w fun e w' => e = .returned (.tuple #[.int .u64 (M.exp q), .int .i64 0]) ∧ ∃ m, w' = w.drewN m := by
  obtain ⟨t, fr, hg⟩ := hT
  obtain ⟨E, hE⟩ : ∃ E : Int, q / 256 = E := ⟨_, rfl⟩
  obtain ⟨F, hF⟩ : ∃ F : Nat, q % 256 = F := ⟨(q % 256).toNat, by omega⟩
  have hF2 : F < 256 := by omega
  have hE1 : -16 ≤ E := by omega
  have hE2 : E ≤ 30 := by omega
  have ha : bits .and .i32 q 255 = (F : Int) := by rw [i32_and255, hF]
  have ha1 : ∀ n, bits .and .i32 n 1 = n % 2 := i32_and1
  have HHi : Hid (14 ≤ E → M.exp q = M.ey F 8 * 2 ^ (E - 14).toNat) := exp_hi h0 hE hF
  have HLo : Hid (E < 14 → (M.exp q : Int) = M.rnd (M.ey F 8) (14 - E)) := exp_lo h0 hE hF
  clear hF
  go_enter Tryd.func14, Tryd.ntmps14
  go_wp2_with (refine wpList_load_row rfl 41 _ rfl 0 rfl t _ fr _ hg Tryd.underlying41 rfl (by kernel_rfl) ?_)
  go_loop [6, 22] (fun y i => ∃ k : Nat, k ≤ 8 ∧ i = .int .i64 k ∧ y = .int .i64 (M.ey F k)) (fun _ i => 8 - (intOf i).toNat)
  case atStart => exact ⟨0, by omega, rfl, rfl⟩
  case round =>
    obtain ⟨k, hk, rfl, rfl⟩ := hrel
    have yb := M.ey_bd hF2 hk
    by_cases hlt : k < 8
    · have hi := index_roots k hlt
      have rb := M.R_all k hlt
      have EY : Hid (M.ey F (k + 1) = if F / 2 ^ (7 - k) % 2 = 1 then M.ey F k * M.R k / 1073741824 else M.ey F k) := hid rfl
      have EF : Hid (((F / 2 ^ (7 - k) % 2 : Nat) : Int) = (F : Int) / 2 ^ (7 - k) % 2) := hid (by simp)
      generalize hY : M.ey F k = Y at *
      generalize hR : M.R k = R at *
      have y1 : (Y : Int) ≤ 2147483647 := by omega
      have y2 : (R : Int) ≤ 2147483647 := by omega
      have YR := Nat.mul_le_mul (show Y ≤ 2147483647 by omega) (show R ≤ 2147483647 by omega)
      have EYR : ((Y * R : Nat) : Int) = (Y : Int) * R := by simp
      have q1 : 0 ≤ (Y : Int) * R := by rw [← EYR]; exact Int.natCast_nonneg _
      have q2 : (Y : Int) * R ≤ 9223372036854775807 := by omega
      have HYR : Hid (((Y * R : Nat) : Int) = (Y : Int) * R) := EYR
      have f1 : 0 ≤ (F : Int) / 2 ^ (7 - k) := Int.ediv_nonneg (by omega) (Int.le_of_lt (M.pow_pos _))
      clear hY hR YR EYR yb rb
      by_cases hb : F / 2 ^ (7 - k) % 2 = 1
      · have hb' : (F : Int) / 2 ^ (7 - k) % 2 = 1 := by rw [← EF.out, hb]; rfl
        have HB : Hid (F / 2 ^ (7 - k) % 2 = 1) := hb
        clear hb
        go_wp2
        go_round
        case rel => exact ⟨k + 1, by omega, by go_num, by rw [EY.out, if_pos HB.out]; congr 1⟩
        case measure => simp [intOf]; omega
      · have hb' : (F : Int) / 2 ^ (7 - k) % 2 = 0 := by rw [← EF.out]; omega
        have HB : Hid (¬ F / 2 ^ (7 - k) % 2 = 1) := hb
        clear hb
        go_wp2
        go_round
        case rel => exact ⟨k + 1, by omega, by go_num, by rw [EY.out, if_neg HB.out]⟩
        case measure => simp [intOf]; omega
    · obtain rfl : k = 8 := by omega
      generalize hY : M.ey F 8 = Y at *
      have y1 : (Y : Int) ≤ 2147483647 := by omega
      have y0 : 0 ≤ (Y : Int) := by omega
      have r := M.rnd_bd Y (14 - E) (by omega) (by omega)
      clear hY yb
      by_cases he : 14 ≤ E
      · have HX : Hid (M.exp q = Y * 2 ^ (E - 14).toNat) := HHi.out he
        go_wp2
        go_ret2
        refine ⟨ret2_ints ?_ rfl, 0, rfl⟩
        have hb := M.exp_bd h0 h1
        have e1 : (M.exp q : Int) = (Y : Int) * 2 ^ (E - 14).toNat := by rw [HX.out]; simp
        rw [show 16 + E - 30 = E - 14 from by omega, ← e1, IntKind.wrap_u64]
        omega
      · have hx := HLo.out (by omega)
        have HX : Hid ((M.exp q : Int) = M.rnd Y (14 - E)) := hx
        clear hx
        go_wp2_with (go_at_call 18; refine (Round_any _ _ _ (by omega) (by omega)).mono ?_; rintro e w' ⟨rfl, m, rfl⟩)
        go_ret2
        refine ⟨ret2_ints ?_ rfl, _, rfl⟩
        have hb := M.exp_bd h0 h1
        rw [← HX.out, IntKind.wrap_u64]
        omega

/-- the document's own list of the roots -/
abbrev rootsObj : Obj := .cells #[.int .u64 1518500249, .int .u64 1276901416, .int .u64 1170923761, .int .u64 1121280435, .int .u64 1097253708, .int .u64 1085434105, .int .u64 1079572135, .int .u64 1076653033] 22
theorem refroots_any (w : World) :
    Calls Tryd.prog 19 #[] w fun e w' => e = .returned (.slice (some ⟨w.heap.size, 0, none⟩) 8 8) ∧ w' = w.alloc rootsObj := by
  go_enter Tryd.func19, Tryd.ntmps19
  go_wp2
  go_ret
  exact ⟨rfl, rfl⟩

theorem roots_cell (w : World) (k : Nat) (hk : k < 8) : (w.alloc rootsObj).cell? ⟨w.heap.size, k, none⟩ = some (.int .u64 (M.R k)) := by
  rcases (by omega : k = 0 ∨ k = 1 ∨ k = 2 ∨ k = 3 ∨ k = 4 ∨ k = 5 ∨ k = 6 ∨ k = 7) with rfl | rfl | rfl | rfl | rfl | rfl | rfl | rfl
  all_goals (rw [World.cell?_alloc_new]; rfl)

theorem bit_step (F k : Nat) (hk : k < 8) : (2 ^ (8 - k) / 2 ≤ F % 2 ^ (8 - k) ↔ F / 2 ^ (7 - k) % 2 = 1) ∧ 2 ^ (8 - k) / 2 = 2 ^ (7 - k) ∧ 2 ^ (8 - k) / 2 / 2 = 2 ^ (8 - (k + 1)) / 2 ∧
    (F / 2 ^ (7 - k) % 2 = 1 → F % 2 ^ (8 - k) - 2 ^ (8 - k) / 2 = F % 2 ^ (8 - (k + 1))) ∧ (¬ F / 2 ^ (7 - k) % 2 = 1 → F % 2 ^ (8 - k) = F % 2 ^ (8 - (k + 1))) := by
  rcases (by omega : k = 0 ∨ k = 1 ∨ k = 2 ∨ k = 3 ∨ k = 4 ∨ k = 5 ∨ k = 6 ∨ k = 7) with rfl | rfl | rfl | rfl | rfl | rfl | rfl | rfl
  all_goals (simp only [Nat.reducePow, Nat.reduceSub, Nat.reduceDiv, Nat.reduceAdd]; refine ⟨⟨fun h => ?_, fun h => ?_⟩, by first | trivial | omega, by first | trivial | omega, fun h => ?_, fun h => ?_⟩ <;> omega)

theorem refExp_err (q : Int) (w : World) (h : q < -4096 ∨ 7680 < q) :
    Calls Tryd.prog 15 #[.int .i32 q] w fun e w' => e = .returned (.tuple #[.int .u64 0, .int .i64 1]) ∧ w' = w := by
  rcases h with h | h
  · go_enter Tryd.func15, Tryd.ntmps15
    go_wp2
    go_ret2
    exact ⟨rfl, rfl⟩
  · have h' : ¬ q < -4096 := by omega
    go_enter Tryd.func15, Tryd.ntmps15
    go_wp2
    go_ret2
    exact ⟨rfl, rfl⟩

set_option maxRecDepth 100000 in
theorem refExp_any (q : Int) (w : World) (h0 : -4096 ≤ q) (h1 : q ≤ 7680) :
    Calls Tryd.prog 15 #[.int .i32 q] w fun e w' => e = .returned (.tuple #[.int .u64 (M.exp q), .int .i64 0]) ∧ w' = w.alloc rootsObj := by
  obtain ⟨E, hE⟩ : ∃ E : Int, (q + 4096) / 256 = E + 16 := ⟨(q + 4096) / 256 - 16, by omega⟩
  obtain ⟨F, hF⟩ : ∃ F : Nat, (q + 4096) % 256 = F := ⟨((q + 4096) % 256).toNat, by omega⟩
  have hF2 : F < 256 := by omega
  have hE1 : -16 ≤ E := by omega
  have hE2 : E ≤ 30 := by omega
  have HHi : Hid (14 ≤ E → M.exp q = M.ey F 8 * 2 ^ (E - 14).toNat) := exp_hi h0 (by omega) (by omega)
  have HLo : Hid (E < 14 → (M.exp q : Int) = M.rnd (M.ey F 8) (14 - E)) := exp_lo h0 (by omega) (by omega)
  go_enter Tryd.func15, Tryd.ntmps15
  go_wp2_with (go_at_call 19; refine (refroots_any _).mono ?_; rintro e w' ⟨rfl, rfl⟩)
  go_loop [4, 6, 8, 9] (fun f y p i => ∃ k : Nat, k ≤ 8 ∧ i = .int .i64 k ∧ p = .int .i64 (2 ^ (8 - k) / 2 : Nat) ∧ f = .int .i64 (F % 2 ^ (8 - k) : Nat) ∧ y = .int .u64 (M.ey F k)) (fun _ _ _ i => 8 - (intOf i).toNat)
  case atStart => exact ⟨0, by omega, rfl, rfl, by congr 1; omega, rfl⟩
  case round =>
    obtain ⟨k, hk, rfl, rfl, rfl, rfl⟩ := hrel
    have yb := M.ey_bd hF2 hk
    by_cases hlt : k < 8
    · have hc := roots_cell w k hlt
      have rb := M.R_all k hlt
      have EY : Hid (M.ey F (k + 1) = if F / 2 ^ (7 - k) % 2 = 1 then M.ey F k * M.R k / 1073741824 else M.ey F k) := hid rfl
      have BS := hid (bit_step F k hlt)
      have pw : 2 ^ (8 - k) ≤ 2 ^ 8 := Nat.pow_le_pow_right (by omega) (by omega)
      have fw : F % 2 ^ (8 - k) ≤ F := Nat.mod_le _ _
      generalize hY : M.ey F k = Y at *
      generalize hR : M.R k = R at *
      generalize hP : 2 ^ (8 - k) / 2 = P at *
      generalize hG : F % 2 ^ (8 - k) = G at *
      have p1 : P ≤ 128 := by omega
      have y1 : (Y : Int) ≤ 2147483647 := by omega
      have y2 : (R : Int) ≤ 2147483647 := by omega
      have YR := Nat.mul_le_mul (show Y ≤ 2147483647 by omega) (show R ≤ 2147483647 by omega)
      have EYR : ((Y * R : Nat) : Int) = (Y : Int) * R := by simp
      have q1 : 0 ≤ (Y : Int) * R := by rw [← EYR]; exact Int.natCast_nonneg _
      have q2 : (Y : Int) * R ≤ 18446744073709551615 := by omega
      have k8 : (k : Int) < 8 := by omega
      clear hY hR hP hG YR EYR yb rb pw
      by_cases hb : (P : Int) ≤ G
      · go_wp2
        go_round
        case rel =>
          have hbit := BS.out.1.1 (by omega)
          refine ⟨k + 1, by omega, by go_num, ?_, ?_, ?_⟩
          · rw [← BS.out.2.2.1]; go_num
          · rw [← BS.out.2.2.2.1 hbit]; congr 1; omega
          · rw [EY.out, if_pos hbit]; go_num
        case measure => simp [intOf]; omega
      · go_wp2
        go_round
        case rel =>
          have hbit : ¬ F / 2 ^ (7 - k) % 2 = 1 := fun h => by have := BS.out.1.2 h; omega
          refine ⟨k + 1, by omega, by go_num, ?_, ?_, ?_⟩
          · rw [← BS.out.2.2.1]; go_num
          · rw [← BS.out.2.2.2.2 hbit]
          · rw [EY.out, if_neg hbit]
        case measure => simp [intOf]; omega
    · obtain rfl : k = 8 := by omega
      generalize hY : M.ey F 8 = Y at *
      have y1 : (Y : Int) ≤ 2147483647 := by omega
      have y0 : 0 ≤ (Y : Int) := by omega
      clear hY yb
      have HF : Hid (∀ j : Nat, (14 : Int) ≤ E - j ∨ j = 0 → E - j ≤ 14 → (M.exp q : Int) = M.rnd ((Y * 2 ^ j : Nat)) (14 - (E - j))) := hid (by
        intro j h2 h3
        rcases Int.lt_or_le E 14 with he | he
        · obtain rfl : j = 0 := by omega
          simpa using HLo.out he
        · have e1 : E - j = 14 := by omega
          have e2 : j = (E - 14).toNat := by omega
          rw [HHi.out he, e1, ← e2]
          unfold M.rnd
          rw [if_pos (by decide)])
      clear HHi HLo
      go_wp2
      go_loop [5, 6] (fun e y => ∃ j V : Nat, V = Y * 2 ^ j ∧ e = .int .i64 (E - j) ∧ ((14 : Int) ≤ E - j ∨ j = 0) ∧ y = .int .u64 V) (fun e _ => (intOf e).toNat)
      case atStart => exact ⟨0, Y, by simp, by simp, Or.inr rfl, rfl⟩
      case round =>
        obtain ⟨j, V, hV, rfl, hj, rfl⟩ := hrel
        have hj2 : j ≤ 16 := by omega
        have pj : 2 ^ j ≤ 2 ^ 16 := Nat.pow_le_pow_right (by omega) hj2
        have VB := Nat.mul_le_mul (show Y ≤ 2147483647 by omega) pj
        have v1 : (V : Int) ≤ 140737488289792 := by omega
        have HV : Hid (V = Y * 2 ^ j) := hV
        clear hV pj VB
        by_cases he : 14 < E - j
        · go_wp2
          go_round
          case rel => exact ⟨j + 1, V * 2, by rw [HV.out, Nat.pow_succ]; grind, by go_num, by omega, by go_num⟩
          case measure => simp [intOf]; omega
        · have hx := HF.out j hj (by omega)
          rw [← HV.out] at hx
          have HX : Hid ((M.exp q : Int) = M.rnd V (14 - (E - j))) := hx
          clear hx HF
          go_wp2_with (go_at_call 20; refine (Ref.Round_any _ _ _ (by omega) (by omega)).mono ?_; rintro e w' ⟨rfl, rfl⟩)
          go_ret2
          refine ⟨ret2_ints ?_ rfl, rfl⟩
          have hb := M.exp_bd h0 h1
          rw [← HX.out, IntKind.wrap_u64]
          omega

end Logs
end Go.Proofs.YthfligbkgoonoaaDoor
