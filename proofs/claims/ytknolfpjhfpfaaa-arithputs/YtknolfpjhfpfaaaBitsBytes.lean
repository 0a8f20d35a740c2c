/-
  Contract of the document's Bytes (psalteryref05). Conditions: the object stands in memory as New makes it.
-/
import Derived.Test.YtknolfpjhfpfaaaBitsGet
namespace Go.Proofs.Ytknolfpjhfpfaaa
set_option linter.unusedVariables false
open Go.RowKit
namespace Bits

theorem byteOf_fv (B : Nat → Bool) (j : Nat) : M.byteOf B j = M.fv B (8 * j) 8 := rfl
theorem bytesL_succ (B : Nat → Bool) (j : Nat) : bytesL (j + 1) B = bytesL j B ++ [M.byteOf B j] := by simp [bytesL, List.range_succ]

set_option maxRecDepth 100000 in
set_option maxHeartbeats 1000000 in
theorem RBytes (r d n h t : Nat) (B : Nat → Bool) (w : World) (ho : Ref w r d n B h t) (hn : n ≤ 512) :
    Calls Try.prog 36 #[.pointer (some ⟨r, 0, none⟩)] w fun e w' => ∃ a' cap', e = .returned (.slice a' n cap') ∧ w'.ownsRow w.heap.size 5 1 (.slice a' n cap') n ((bytesL n B).map fun x : Nat => Value.int .u8 x) ∧ Below w.heap.size w w' := by
  obtain ⟨i0, hi, hz0, hz1, hz2⟩ := info_parts info8
  have hR := ho
  obtain ⟨s, hB, a, cap, rfl, hd⟩ := ho
  have lr := hB.lt
  have c0 : w.cell? ⟨r, 0, none⟩ = some (.slice a (8 * n) cap) := hB.cell rfl
  go_enter Try.func36, Try.ntmps36
  go_wp2
  go_loopw [3, 4] (fun bs i wr => ∃ j : Nat, j ≤ n ∧ i = .int .i64 (8 * j : Nat) ∧ Below w.heap.size w wr ∧ wr.ownsRow w.heap.size 5 1 bs j ((bytesL j B).map fun x : Nat => Value.int .u8 x)) (fun _ i _ => 8 * n - (intOf i).toNat)
  case atStart => exact ⟨0, by omega, rfl, Below.refl _ _, World.ownsRow_nil _ _ _ _⟩
  case round =>
    obtain ⟨j, hj, rfl, bel, hown⟩ := hrel
    have sr := bel.size
    have c0' : wr.cell? ⟨r, 0, none⟩ = some (.slice a (8 * n) cap) := (bel.cell lr).trans c0
    by_cases hlt : j < n
    · have hc : ∀ m, m < 8 → wr.cell? ⟨d, 8 * j + m, none⟩ = some (.int .i64 ((B (8 * j + m)).toNat : Nat)) := fun m hm => by
        obtain ⟨_, _, k2, _⟩ := (hR.cell (i := 8 * j + m) (by omega))
        obtain ⟨_, cur, hb, _⟩ := hd (by omega)
        exact (bel.cell hb.lt).trans k2
      obtain ⟨rfl, _⟩ := hd (by omega)
      go_wp2
      go_loopw [5, 6] (fun x k wy => ∃ m : Nat, m ≤ 8 ∧ x = .int .i64 (M.fv B (8 * j) m) ∧ k = .int .i64 m ∧ wy = wr) (fun _ k _ => 8 - (intOf k).toNat)
      case atStart => exact ⟨0, by omega, rfl, rfl, rfl⟩
      case round =>
        obtain ⟨m, hm, rfl, rfl, rfl⟩ := hrel
        by_cases hlt2 : m < 8
        · have k1 := hc m hlt2
          clear hc
          have hst : M.fv B (8 * j) (m + 1) = 2 * M.fv B (8 * j) m + (B (8 * j + m)).toNat := rfl
          have hl0 : M.fv B (8 * j) m < 256 := Nat.lt_of_lt_of_le (M.fv_lt B _ m) (Nat.pow_le_pow_right (i := m) (j := 8) (by decide) (by omega))
          have hy1 : (B (8 * j + m)).toNat ≤ 1 := Bool.toNat_le _
          obtain ⟨x, hx⟩ : ∃ x, x = M.fv B (8 * j) m := ⟨_, rfl⟩
          obtain ⟨y, hy⟩ : ∃ y, y = (B (8 * j + m)).toNat := ⟨_, rfl⟩
          rw [← hx] at hst hl0
          rw [← hy] at k1 hst hy1
          rw [← hx]
          clear hx hy
          have e1 : ((8 * j : Nat) : Int) + m = ((8 * j + m : Nat) : Int) := by omega
          have i1 : (0 : Int) ≤ ((8 * j + m : Nat) : Int) := by omega
          have i2 : ((8 * j + m : Nat) : Int) < ((8 * n : Nat) : Int) := by omega
          replace hst : Hid (M.fv B (8 * j) (m + 1) = 2 * x + y) := hst
          go_wp2
          go_roundw
          case rel =>
            refine ⟨m + 1, by omega, ?_, by go_num, by first | rfl | trivial⟩
            rw [show M.fv B (8 * j) (m + 1) = _ from hst]
            go_num
          case measure => simp [intOf]; omega
        · obtain rfl : m = 8 := by omega
          have hx : M.fv B (8 * j) 8 = M.byteOf B j := rfl
          have hl0 := M.byteOf_lt B j
          obtain ⟨x, hx'⟩ : ∃ x, x = M.byteOf B j := ⟨_, rfl⟩
          rw [hx, ← hx']
          rw [← hx'] at hl0
          have g1 : IntKind.u8.wrap (x : Int) = x := by rw [IntKind.wrap_u8']; omega
          replace hx' : Hid (x = M.byteOf B j) := hx'
          go_wp2_with (at_builtin; refine wpList_append_own _ rfl (.tmp 32) (.tmp 35) 41 rfl w.heap.size 5 i0 (.int .u8 0) 1 1 Try.underlying41 hi hz0 hz1 hz2 rfl (by decide) _ _ _ rfl (hown.alloc _) ⟨wr.heap.size, 0, none⟩ 1 1 [.int .u8 x] rfl rfl (World.news_of_block (cs := #[.int .u8 x]) (t := 5) (fr := (0, 0)) (heap_alloc_new wr _)) (by simp [Value.oneCell']) (by unfold maxLen; omega) (by omega) (by simp; omega) ?_; intro v' w3 hown3 hgrow _)
          go_roundw
          case rel =>
            refine ⟨j + 1, by omega, by go_num, (bel.alloc (by omega) _).grown hgrow (by simp; omega) (own_block hown), ?_⟩
            rw [bytesL_succ, List.map_append, ← show x = _ from hx']
            exact hown3
          case measure => simp [intOf]; omega
    · obtain rfl : j = n := by omega
      obtain ⟨a', cap', rfl⟩ := own_form hown
      go_wp2
      go_ret
      exact ⟨a', cap', rfl, hown, bel⟩

end Bits
end Go.Proofs.Ytknolfpjhfpfaaa
