/-
  The walk of CheckBack: sealed bytes come back. No conditions.
-/
import Derived.Test.YtifafoecejnhkaaCheckSeals
namespace Go.Proofs.Ytifafoecejnhkaa
set_option linter.unusedVariables false
open Go.RowKit
namespace Chk
open Bits (Blk But add_at wrap_id)
open Byt (Given)

theorem sealed_take (n s p : Nat) (xs : List Nat) : (sealed n s p xs).take xs.length = xs := by simp [sealed]
theorem sealed_drop (n s p : Nat) (xs : List Nat) : (sealed n s p xs).drop xs.length = M.tail (n / 8) (M.run n p (M.bitL xs) s (8 * xs.length)) := by simp [sealed]

set_option maxRecDepth 100000 in
set_option maxHeartbeats 2000000 in
theorem CheckBack_walk (n : Int) (t : ByteArray) (w : World) :
    Calls Try.prog 5 #[.int .i64 n, .string t] w fun e w' => e = .returned (.bool true) ∧ Below w.heap.size w w' := by
  have hcv := fun w => Byt.run_of w t
  have hgv := fun w => Byt.given_of w t
  have hnl := Byt.nums_length t
  have hnlt := Byt.nums_lt t
  by_cases hl : t.size ≤ 2000
  · have g2 : ¬ (2000 : Int) < t.size := by omega
    rcases knd_or n with ⟨k, s, p, rfl, hk⟩ | ⟨h1, h2, h3⟩
    · have hse := fun v w hv => Seal_ok k s p v (Byt.nums t) w hk hv (by omega)
      have hslt := sealed_lt k s p (Byt.nums t) hnlt
      have hlen := sealed_length k s p (Byt.nums t)
      have htk := sealed_take k s p (Byt.nums t)
      have hdr := sealed_drop k s p (Byt.nums t)
      have h24 : k / 8 ≤ 3 := by obtain ⟨N, hN, _, hN3⟩ := hk.eight; omega
      have hop := fun v w hv => Open_ok k s p v (sealed k s p (Byt.nums t)) (Byt.nums t).length w hk hv (by omega) (by omega) (by rw [htk, hdr])
      rw [htk] at hop
      rw [hnl] at hse hop hlen
      obtain ⟨q, hq⟩ : ∃ q, q = sealed k s p (Byt.nums t) := ⟨_, rfl⟩
      rw [← hq] at hse hop hslt hlen
      clear hq htk hdr
      have e1 : (k : Int) / 8 = ((k / 8 : Nat) : Int) := by omega
      have e2 : (0 : Int) ≤ k := by omega
      obtain ⟨N, hN⟩ : ∃ N, N = k / 8 := ⟨_, rfl⟩
      rw [← hN] at hse hlen e1 h24
      clear hN
      have e3 : k ≤ 24 := by rcases hk with ⟨rfl, _⟩ | ⟨rfl, _⟩ | ⟨rfl, _⟩ <;> decide
      go_enter Try.func5, Try.ntmps5
      go_wp2_with (first
        | (go_at_call 7; refine (alive_any _).mono ?_; rintro e w1 ⟨rfl, bel1⟩)
        | (go_at_call 12; refine (hse _ _ (hgv w1)).mono ?_; clear hse; rintro e w2 ⟨g2, cap2, rfl, made2, bel2⟩; have gv2 := made2.given hslt)
        | (go_at_call 14; refine (hop _ _ gv2).mono ?_; clear hop; rintro e w4 ⟨a4, cap4, rfl, made4, bel4⟩; have hs4 := Byt.run_str (made4.given hnlt); rw [Byt.str_nums] at hs4))
      go_ret
      exact ⟨rfl, chain (chain (chain bel1 (laid_of w1 t)) bel2) bel4⟩
    · have hse := fun a l c w => Seal_no n a l c w h1 h2 h3
      go_enter Try.func5, Try.ntmps5
      go_wp2_with (first
        | (go_at_call 7; refine (alive_any _).mono ?_; rintro e w1 ⟨rfl, bel1⟩)
        | (go_at_call 12; refine (hse _ _ _ _).mono ?_; clear hse; rintro e w2 ⟨rfl, bel2⟩))
      go_ret
      exact ⟨rfl, chain (chain bel1 (laid_of w1 t)) bel2⟩
  · have g2 : (2000 : Int) < t.size := by omega
    go_enter Try.func5, Try.ntmps5
    go_wp2_with (go_at_call 7; refine (alive_any _).mono ?_; rintro e w1 ⟨rfl, bel1⟩)
    go_ret
    exact ⟨rfl, bel1⟩

end Chk
end Go.Proofs.Ytifafoecejnhkaa
