/-
  Contracts: a channel (the document's), lists of lists that are made, samples that are parted and woven. Conditions: as told at each.
-/
import Derived.Test.YtnnljamkomlglaaPcmWalks
import Derived.Deep.AppendLies
namespace Go.Proofs.Ytnnljamkomlglaa
set_option linter.unusedVariables false
open Go.RowKit
namespace M
theorem chn_lt {c n k j : Nat} (hk : k < c) (hj : j < n) : k + c * j < c * n := by
  have : c * (j + 1) ≤ c * n := Nat.mul_le_mul_left c hj
  rw [Nat.mul_add] at this; omega
theorem take_one {A : List Int} {k : Nat} (h : k < A.length) : A.take (k + 1) = A.take k ++ [A.getD k 0] := by
  rw [List.take_add_one, List.getElem?_eq_getElem h]
  simp [List.getD, h]
end M
namespace Pcm
open Bank (Blk But)
open Poly

set_option maxRecDepth 100000 in
theorem rChannel_any (lo hi : Nat) (v : Value) (xs : List Int) (k c n : Nat) (w : World) (h : Reads .i16 lo hi w v xs) (hh : hi ≤ w.heap.size) (hl : xs.length ≤ 1000000) (hn : xs.length = c * n) (hk : k < c) (hc : c ≤ 2) :
    Calls Try.prog 14 #[v, .int .i64 k, .int .i64 c] w fun e w' => ∃ v', e = .returned v' ∧ Reads .i16 w.heap.size w'.heap.size w' v' (M.chn n xs k c) ∧ Below w.heap.size w w' := by
  obtain ⟨a, cp, rfl⟩ := h.form
  have hx : M.fits16 xs := fit16.1 (by obtain ⟨_, _, _, _, hw, _⟩ := h; exact hw)
  obtain ⟨i0, hi0, hz0, hz1, hz2⟩ := info_parts info16
  have hnl : n ≤ xs.length := by
    rw [hn]; exact Nat.le_mul_of_pos_left n (by omega)
  obtain ⟨L, hL⟩ : ∃ L, xs.length = L := ⟨_, rfl⟩
  have H0 := Gat.nil .i16 51 w
  have hget : ∀ j, j < n → ∃ p : Nat, p = k + c * j ∧ p < L ∧ (M.chn n xs k c).getD j 0 = xs.getD p 0 := fun j hj => ⟨k + c * j, rfl, by rw [← hL, hn]; exact M.chn_lt hk hj, M.getD_map_range _ _ _ _ hj⟩
  have hlast : ∀ p, p = k + c * n → ¬ p < L := fun p hp => by rw [← hL, hn]; omega
  have hnext : ∀ p j, p = k + c * j → p + c = k + c * (j + 1) := fun p j hp => by rw [Nat.mul_add]; omega
  have hXL : (M.chn n xs k c).length = n := M.chn_length _ _ _ _
  have hXf := M.chn_fits (n := n) (k := k) (c := c) hx
  have n1 : n ≤ 1000000 := by omega
  generalize M.chn n xs k c = X at hget hXL hXf ⊢
  have Hget : Hid _ := hget
  have Hlast : Hid _ := hlast
  have Hnext : Hid _ := hnext
  have HX : Hid _ := hXL
  have HR : Hid (Reads .i16 lo hi w _ xs) := h
  rw [hL]
  have HL : Hid (_ = _) := hL
  have l1 : (L : Int) ≤ 1000000 := by omega
  have c1 : (c : Int) ≤ 2 := by omega
  have c0 : (0 : Int) ≤ c := by omega
  have k1 : (k : Int) ≤ 2 := by omega
  obtain ⟨B, hB⟩ : ∃ B, w.heap.size = B := ⟨_, rfl⟩
  rw [hB] at H0 hh ⊢
  have HB : Hid (_ = _) := hB
  have Hk : Hid (k < c) := hk
  clear hB hget hlast hnext hXL h hL hn hl hnl hk
  go_enter Try.func14, Try.ntmps14
  go_wp2
  go_loopw [7, 8] (fun v i wr => ∃ j p : Nat, j ≤ n ∧ Hid (p = k + c * j) ∧ p ≤ L + 2 ∧ i = .int .i64 p ∧ Gat .i16 51 B v (X.take j) w wr) (fun _ i _ => L + 2 - (intOf i).toNat)
  case atStart => exact ⟨0, k, by omega, (show k = k + c * 0 by simp), by omega, rfl, by simpa using H0⟩
  case round =>
    clear H0
    obtain ⟨j, p, hj, hp, hpl, rfl, hG⟩ := hrel
    by_cases hlt : j < n
    · obtain ⟨p', hp', hpL, hxj⟩ := Hget.out j hlt
      obtain rfl : p' = p := hp'.trans hp.out.symm
      have i1 : (p' : Int) < L := by omega
      have i0' : (0 : Int) ≤ p' := by omega
      have hown := hG.1
      have hsz := hG.size
      have hln : (X.take j).length ≤ 1000000 := by rw [List.length_take]; omega
      have hstep : Hid (X.take (j + 1) = X.take j ++ [X.getD j 0]) := M.take_one (by rw [HX.out]; exact hlt)
      rw [hxj] at hstep
      have hl2 := HL.out
      obtain ⟨b, off, rfl, q0, q1, hcell⟩ := Reads.cell HR.out (by omega)
      have hc2 : wr.cell? ⟨b, off + p', none⟩ = some (.int .i16 (xs.getD p' 0)) := (cell_keep (hG.2.1.block b (by omega))).trans (hcell p' (by omega))
      have hfx := M.fits_getD hx p'
      generalize xs.getD p' 0 = y at hstep hc2 hfx
      generalize X.take j = Y at *
      have Hp : Hid _ := hp'
      clear hcell hl2 hxj hp' hp
      go_wp2_with (at_builtin; refine wpList_append_own _ rfl (.tmp 17) (.tmp 22) 22 rfl B 51 i0 (.int .i16 0) 1 2 Try.underlying22 hi0 hz0 hz1 hz2 rfl (by decide) _ _ _ rfl (hown.alloc _) ⟨wr.heap.size, 0, none⟩ 1 1 [.int .i16 y] rfl rfl ?c1 ?c2 ?c3 ?c4 ?c5 ?_)
      case c1 => exact World.news_of_block (cs := #[.int .i16 y]) (t := 51) (fr := (0, 0)) (heap_alloc_new wr _)
      case c2 => intro u hu; simp at hu; subst hu; rfl
      case c3 => unfold maxLen; omega
      case c4 => omega
      case c5 => simp; omega
      · intro v' w1 hown' hgrow _
        have R := hG.step hown' hgrow
        clear hown' hgrow hown hG
        go_wp2
        go_roundw
        case rel => exact ⟨j + 1, p' + c, by omega, Hnext.out _ _ Hp.out, by omega, by go_num, by rw [hstep.out]; exact R⟩
        case measure => simp [intOf]; have := Hk.out; omega
    · obtain rfl : j = n := by omega
      have i1 := Hlast.out p hp.out
      rw [List.take_of_length_le (by rw [HX.out]; omega)] at hG
      have hr := hG.reads (fit16.2 hXf)
      go_wp2
      go_ret
      exact ⟨_, rfl, hr, hG.2.1⟩

end Pcm
end Go.Proofs.Ytnnljamkomlglaa
