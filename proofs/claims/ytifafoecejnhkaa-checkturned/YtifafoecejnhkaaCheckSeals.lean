/-
  The walks of CheckSeals and CheckBack: bytes with their sum behind, and without it, are the document's; sealed bytes come back. No conditions.
-/
import Derived.Test.YtifafoecejnhkaaCheckLaws
namespace Go.Proofs.Ytifafoecejnhkaa
set_option linter.unusedVariables false
open Go.RowKit
namespace Chk
open Bits (Blk But add_at wrap_id)
open Byt (Given)

theorem sealed_iff (n s p : Nat) (xs : List Nat) (m : Nat) (hm : xs.length = m + n / 8) : sealed n s p (xs.take m) = xs ↔ xs.drop m = M.tail (n / 8) (M.run n p (M.bitL (xs.take m)) s (8 * m)) := by
  have hl : (xs.take m).length = m := by simp; omega
  unfold sealed
  rw [hl]
  constructor
  · intro h
    have h2 : xs.take m ++ M.tail (n / 8) (M.run n p (M.bitL (xs.take m)) s (8 * m)) = xs.take m ++ xs.drop m := by rw [h, List.take_append_drop]
    exact (List.append_cancel_left h2).symm
  · intro h
    rw [← h, List.take_append_drop]
theorem sealed_lt (n s p : Nat) (xs : List Nat) (h : ∀ x ∈ xs, x < 256) : ∀ x ∈ sealed n s p xs, x < 256 := by
  intro x hx
  unfold sealed at hx
  rcases List.mem_append.1 hx with k | k
  · exact h x k
  · exact M.tail_lt _ _ x k
theorem chain {w a b : World} (h : Below w.heap.size w a) (k : Below a.heap.size a b) : Below w.heap.size w b := h.trans (Bits.Below.less k h.size)
theorem laid_of (w : World) (t : ByteArray) : Below w.heap.size w (w.alloc (Byt.objOf w t)).drew := ((Below.refl _ w).alloc (Nat.le_refl _) _).drew
theorem Made.given {w w' : World} {v : Value} {xs : List Nat} (h : Made w w' v xs) (hx : ∀ x ∈ xs, x < 256) : Given w' v xs := Byt.given_own h hx

set_option maxRecDepth 100000 in
set_option maxHeartbeats 2000000 in
theorem CheckSeals_walk (n : Int) (t : ByteArray) (w : World) :
    Calls Try.prog 4 #[.int .i64 n, .string t] w fun e w' => e = .returned (.bool true) ∧ Below w.heap.size w w' := by
  have hcv := fun w => Byt.run_of w t
  have hgv := fun w => Byt.given_of w t
  have hnl := Byt.nums_length t
  have hnlt := Byt.nums_lt t
  have hnil := fun w => Byt.run_str (Given.nil w)
  by_cases hl : t.size ≤ 2000
  · have g2 : ¬ (2000 : Int) < t.size := by omega
    rcases knd_or n with ⟨k, s, p, rfl, hk⟩ | ⟨h1, h2, h3⟩
    · have hse := fun v w hv => Seal_ok k s p v (Byt.nums t) w hk hv (by omega)
      have hrs := fun w => RSeal_ok k s p t w hk (by omega)
      have hslt := sealed_lt k s p (Byt.nums t) hnlt
      rw [hnl] at hse
      have hlen := sealed_length k s p (Byt.nums t)
      rw [hnl] at hlen
      obtain ⟨q, hq⟩ : ∃ q, q = sealed k s p (Byt.nums t) := ⟨_, rfl⟩
      rw [← hq] at hse hrs hslt hlen
      clear hq
      by_cases hsh : t.size < k / 8
      · have hop := fun a c w => Open_short k s p a t.size c w hk hsh
        have hro := fun w => ROpen_short k s p t w hk hsh
        go_enter Try.func4, Try.ntmps4
        go_wp2_with (first
          | (go_at_call 7; refine (alive_any _).mono ?_; rintro e w1 ⟨rfl, bel1⟩)
          | (go_at_call 12; refine (hse _ _ (hgv w1)).mono ?_; clear hse; rintro e w2 ⟨g2, cap2, rfl, made2, bel2⟩; have gv2 := made2.given hslt)
          | (go_at_call 13; refine (hrs _).mono ?_; clear hrs; rintro e w3 ⟨rfl, bel3⟩; have gv3 := gv2.below bel3 (Nat.le_refl _))
          | (go_at_call 14; refine (hop _ _ _).mono ?_; clear hop; rintro e w4 ⟨rfl, bel4⟩)
          | (go_at_call 15; refine (hro _).mono ?_; clear hro; rintro e w5 ⟨rfl, hw5⟩; rw [hw5]; clear hw5 w5; have hs4 := Byt.run_str ((gv3.below (laid_of w3 t) (Nat.le_refl _)).below bel4 (Nat.le_refl _)); clear hcv))
        go_ret
        exact ⟨rfl, chain (chain (chain (chain (chain bel1 (laid_of w1 t)) bel2) bel3) (laid_of w3 t)) bel4⟩
      · obtain ⟨m, hm⟩ : ∃ m, t.size = m + k / 8 := ⟨t.size - k / 8, by omega⟩
        have hro := fun w => ROpen_any k s p t m w hk (by omega) hm
        have hif := sealed_iff k s p (Byt.nums t) m (by omega)
        have htlt : ∀ x ∈ (Byt.nums t).take m, x < 256 := fun x hx => hnlt x (List.mem_of_mem_take hx)
        by_cases hc : sealed k s p ((Byt.nums t).take m) = Byt.nums t
        · rw [if_pos hc] at hro
          have hop := fun v w hv => Open_ok k s p v (Byt.nums t) m w hk hv (by omega) (by omega) (hif.1 hc)
          obtain ⟨ys, hys⟩ : ∃ ys, ys = (Byt.nums t).take m := ⟨_, rfl⟩
          rw [← hys] at hro hop htlt
          clear hif hc hys
          have hm' : Hid (t.size = m + k / 8) := hm
          clear hm
          go_enter Try.func4, Try.ntmps4
          go_wp2_with (first
            | (go_at_call 7; refine (alive_any _).mono ?_; rintro e w1 ⟨rfl, bel1⟩)
            | (go_at_call 12; refine (hse _ _ (hgv w1)).mono ?_; clear hse; rintro e w2 ⟨g2, cap2, rfl, made2, bel2⟩; have gv2 := made2.given hslt)
            | (go_at_call 13; refine (hrs _).mono ?_; clear hrs; rintro e w3 ⟨rfl, bel3⟩; have gv3 := gv2.below bel3 (Nat.le_refl _))
            | (go_at_call 14; refine (hop _ _ (hgv w3)).mono ?_; clear hop; rintro e w4 ⟨a4, cap4, rfl, made4, bel4⟩)
            | (go_at_call 15; refine (hro _).mono ?_; clear hro; rintro e w5 ⟨rfl, bel5⟩; have hs4 := Byt.run_str (((gv3.below (laid_of w3 t) (Nat.le_refl _)).below bel4 (Nat.le_refl _)).below bel5 (Nat.le_refl _)); have hs5 := Byt.run_str ((made4.given htlt).below bel5 (Nat.le_refl _)); clear hcv))
          go_ret
          exact ⟨rfl, chain (chain (chain (chain (chain (chain bel1 (laid_of w1 t)) bel2) bel3) (laid_of w3 t)) bel4) bel5⟩
        · rw [if_neg hc] at hro
          have hop := fun v w hv => Open_bad k s p v (Byt.nums t) m w hk hv (by omega) (by omega) (fun h => hc (hif.2 h))
          clear hif hc
          have hm' : Hid (t.size = m + k / 8) := hm
          clear hm
          go_enter Try.func4, Try.ntmps4
          go_wp2_with (first
            | (go_at_call 7; refine (alive_any _).mono ?_; rintro e w1 ⟨rfl, bel1⟩)
            | (go_at_call 12; refine (hse _ _ (hgv w1)).mono ?_; clear hse; rintro e w2 ⟨g2, cap2, rfl, made2, bel2⟩; have gv2 := made2.given hslt)
            | (go_at_call 13; refine (hrs _).mono ?_; clear hrs; rintro e w3 ⟨rfl, bel3⟩; have gv3 := gv2.below bel3 (Nat.le_refl _))
            | (go_at_call 14; refine (hop _ _ (hgv w3)).mono ?_; clear hop; rintro e w4 ⟨rfl, bel4⟩)
            | (go_at_call 15; refine (hro _).mono ?_; clear hro; rintro e w5 ⟨rfl, bel5⟩; have hs4 := Byt.run_str (((gv3.below (laid_of w3 t) (Nat.le_refl _)).below bel4 (Nat.le_refl _)).below bel5 (Nat.le_refl _)); clear hcv))
          go_ret
          exact ⟨rfl, chain (chain (chain (chain (chain (chain bel1 (laid_of w1 t)) bel2) bel3) (laid_of w3 t)) bel4) bel5⟩
    · have hse := fun a l c w => Seal_no n a l c w h1 h2 h3
      have hrs := fun w => RSeal_no n t w h1 h2 h3
      have hop := fun a l c w => Open_no n a l c w h1 h2 h3
      have hro := fun w => ROpen_no n t w h1 h2 h3
      go_enter Try.func4, Try.ntmps4
      go_wp2_with (first
        | (go_at_call 7; refine (alive_any _).mono ?_; rintro e w1 ⟨rfl, bel1⟩)
        | (go_at_call 12; refine (hse _ _ _ _).mono ?_; clear hse; rintro e w2 ⟨rfl, bel2⟩)
        | (go_at_call 13; refine (hrs _).mono ?_; clear hrs; rintro e w3 ⟨rfl, hw3⟩; rw [hw3]; clear hw3 w3)
        | (go_at_call 14; refine (hop _ _ _ _).mono ?_; clear hop; rintro e w4 ⟨rfl, bel4⟩)
        | (go_at_call 15; refine (hro _).mono ?_; clear hro; rintro e w5 ⟨rfl, hw5⟩; rw [hw5]; clear hw5 w5; clear hcv))
      go_ret
      exact ⟨rfl, chain (chain (chain (chain bel1 (laid_of w1 t)) bel2) (laid_of w2 t)) bel4⟩
  · have g2 : (2000 : Int) < t.size := by omega
    go_enter Try.func4, Try.ntmps4
    go_wp2_with (go_at_call 7; refine (alive_any _).mono ?_; rintro e w1 ⟨rfl, bel1⟩)
    go_ret
    exact ⟨rfl, bel1⟩

end Chk
end Go.Proofs.Ytifafoecejnhkaa
