import Derived.OpenShut
import Derived.Test.YtcaifpjbjghhaaaGreatDoorSubP03
/-
  Contracts of fix.Dot and of the document's answer for it, over any two lists of numbers. Conditions: each number fits its kind; the lists lie in memory as Go lays them.
-/
namespace Go.Proofs.YtcaifpjbjghhaaaGreatDoor
open Go.RowKit
namespace Dot

def Row (k : IntKind) (w : World) (a : Option Addr) (len : Nat) (zs : List Int) : Prop :=
  zs.length = len ∧ (len = 0 ∨ ∃ b off, a = some ⟨b, off, none⟩ ∧ ∀ i, i < len → w.cell? ⟨b, off + i, none⟩ = some (.int k (zs.getD i 0))) ∧ ∀ n ∈ zs, (Lit.int k n).wf = true

theorem Row.drewN {k : IntKind} {w : World} {a : Option Addr} {len : Nat} {zs : List Int} (h : Row k w a len zs) (n : Nat) : Row k (w.drewN n) a len zs := h

def dotTo (xs ys : List Int) : Nat → Int
  | 0 => 0
  | k + 1 => dotTo xs ys k + xs.getD k 0 * ys.getD k 0

theorem bd32 {n : Int} (h : (Lit.int .i32 n).wf = true) : -2147483648 ≤ n ∧ n ≤ 2147483647 := by
  simpa [Lit.wf, IntKind.min, IntKind.max, IntKind.signed, IntKind.bits] using h
theorem bd16 {n : Int} (h : (Lit.int .i16 n).wf = true) : -32768 ≤ n ∧ n ≤ 32767 := by
  simpa [Lit.wf, IntKind.min, IntKind.max, IntKind.signed, IntKind.bits] using h

theorem get32 {zs : List Int} (h : ∀ n ∈ zs, (Lit.int .i32 n).wf = true) (i : Nat) : -2147483648 ≤ zs.getD i 0 ∧ zs.getD i 0 ≤ 2147483647 := by
  rcases Nat.lt_or_ge i zs.length with hi | hi
  · have e : zs.getD i 0 = zs[i] := by simp [List.getD, hi]
    rw [e]; exact bd32 (h _ (List.getElem_mem hi))
  · have e : zs.getD i 0 = 0 := by simp [List.getD, hi]
    rw [e]; omega
theorem get16 {zs : List Int} (h : ∀ n ∈ zs, (Lit.int .i16 n).wf = true) (i : Nat) : -32768 ≤ zs.getD i 0 ∧ zs.getD i 0 ≤ 32767 := by
  rcases Nat.lt_or_ge i zs.length with hi | hi
  · have e : zs.getD i 0 = zs[i] := by simp [List.getD, hi]
    rw [e]; exact bd16 (h _ (List.getElem_mem hi))
  · have e : zs.getD i 0 = 0 := by simp [List.getD, hi]
    rw [e]; omega

theorem dotTo_bd {xs ys : List Int} (hx : ∀ n ∈ xs, (Lit.int .i32 n).wf = true) (hy : ∀ n ∈ ys, (Lit.int .i16 n).wf = true) (k : Nat) :
    -(70368744177664 * (k : Int)) ≤ dotTo xs ys k ∧ dotTo xs ys k ≤ 70368744177664 * (k : Int) := by
  induction k with
  | zero => simp [dotTo]
  | succ k ih =>
    have a := get32 hx k
    have b := get16 hy k
    have m := M.mul_bd (xs.getD k 0) (ys.getD k 0) 2147483648 32768 (by omega) (by omega) (by omega) (by omega)
    simp only [dotTo]
    omega

theorem step_bd {xs ys : List Int} (hx : ∀ n ∈ xs, (Lit.int .i32 n).wf = true) (hy : ∀ n ∈ ys, (Lit.int .i16 n).wf = true) (k : Nat) (hk : k ≤ 65535) :
    (-4611686018427387904 ≤ dotTo xs ys k ∧ dotTo xs ys k ≤ 4611686018427387904) ∧ (-70368744177664 ≤ xs.getD k 0 * ys.getD k 0 ∧ xs.getD k 0 * ys.getD k 0 ≤ 70368744177664) := by
  have h := dotTo_bd hx hy k
  have a := get32 hx k
  have b := get16 hy k
  have m := M.mul_bd (xs.getD k 0) (ys.getD k 0) 2147483648 32768 (by omega) (by omega) (by omega) (by omega)
  omega

set_option maxHeartbeats 1000000 in
theorem Dot_ok (a0 a1 : Option Addr) (l c0 c1 : Nat) (s : Int) (z0 z1 : List Int) (w : World) (h0 : Row .i32 w a0 l z0) (h1 : Row .i16 w a1 l z1) (hs1 : 0 ≤ s) (hs2 : s ≤ 62) (hl : l ≤ 65536) :
    Calls Tryz.prog 219 #[.slice a0 l c0, .slice a1 l c1, .int .i64 s] w fun e w' => e = .returned (.tuple #[.int .i32 (M.sat32 (M.rnd (dotTo z0 z1 l) s)), .int .i64 0]) ∧ ∃ m, w' = w.drewN m := by
  obtain ⟨hz0, hr0, hw0⟩ := h0
  obtain ⟨hz1, hr1, hw1⟩ := h1
  have t1 : decide (s < 0) = false := by simp; omega
  have t2 : decide (62 < s) = false := by simp; omega
  have t3 : decide ((65536 : Int) < (l : Int)) = false := by simp; omega
  have W0 : Hid (∀ n ∈ z0, (Lit.int .i32 n).wf = true) := hw0
  have W1 : Hid (∀ n ∈ z1, (Lit.int .i16 n).wf = true) := hw1
  have R0 : Hid (l = 0 ∨ ∃ b off, a0 = some ⟨b, off, none⟩ ∧ ∀ i, i < l → w.cell? ⟨b, off + i, none⟩ = some (.int .i32 (z0.getD i 0))) := hr0
  have R1 : Hid (l = 0 ∨ ∃ b off, a1 = some ⟨b, off, none⟩ ∧ ∀ i, i < l → w.cell? ⟨b, off + i, none⟩ = some (.int .i16 (z1.getD i 0))) := hr1
  clear hz0 hz1 hr0 hr1 hw0 hw1
  go_enter Tryz.func219, Tryz.ntmps219
  go_wp2_with fail
  go_loop [8, 29] (fun n i => ∃ k : Nat, k ≤ l ∧ i = .int .i64 k ∧ n = .int .i64 (dotTo z0 z1 k)) (fun _ i => l - (intOf i).toNat)
  case atStart => exact ⟨0, by omega, rfl, rfl⟩
  case round =>
    obtain ⟨k, hk, rfl, rfl⟩ := hrel
    rcases Nat.lt_or_ge k l with hlt | hge
    · obtain ⟨⟨d1, d2⟩, d3, d4⟩ := step_bd W0.out W1.out k (by omega)
      have e0 := get32 W0.out k
      have e1 := get16 W1.out k
      have S : Hid (dotTo z0 z1 (k + 1) = dotTo z0 z1 k + z0.getD k 0 * z1.getD k 0) := rfl
      rcases R0.out with hz | ⟨b0, o0, rfl, hc0⟩
      · omega
      rcases R1.out with hz | ⟨b1, o1, rfl, hc1⟩
      · omega
      have f0 := hc0 k hlt
      have f1 := hc1 k hlt
      clear hc0 hc1
      generalize dotTo z0 z1 k = cu at *
      generalize z0.getD k 0 = x0 at *
      generalize z1.getD k 0 = x1 at *
      go_wp2
      refine ⟨⟨k + 1, by omega, by go_num, by rw [S.out]⟩, by simp [intOf]; omega⟩
    · obtain rfl : k = l := by omega
      have hb := dotTo_bd W0.out W1.out k
      have hr := M.rnd_bd (dotTo z0 z1 k) s (by omega) (by omega)
      go_wp2_with (first
        | (go_at_call 220; refine (Round_any _ _ _ (by omega) (by omega)).mono ?_; rintro e w' ⟨rfl, m, rfl⟩)
        | (go_at_call 208; refine (Sat32_any _ _ (by omega) (by omega)).mono ?_; rintro e w' ⟨rfl, rfl⟩))
      go_ret2
      exact ⟨rfl, _, rfl⟩

end Dot
end Go.Proofs.YtcaifpjbjghhaaaGreatDoor

