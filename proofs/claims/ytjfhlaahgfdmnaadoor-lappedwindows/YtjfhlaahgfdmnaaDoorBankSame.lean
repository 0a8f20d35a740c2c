/-
  When two lists are the same: the contract of psalteryref04.Same for two that are. Conditions: none.
-/
import Derived.Test.YtjfhlaahgfdmnaaDoorBankRef
namespace Go.Proofs.YtjfhlaahgfdmnaaDoor
open Go.RowKit
namespace Bank

/-- the slice v reads as the list xs -/
def Rd (w : World) (v : Value) (xs : List Value) : Prop :=
  (∃ a c, v = .slice a 0 c ∧ xs = []) ∨ ∃ g c, v = .slice (some ⟨g, 0, none⟩) xs.length c ∧ ∀ (i : Nat) u, xs[i]? = some u → w.cell? ⟨g, i, none⟩ = some u
theorem Rd.nil (w : World) : Rd w (.slice none 0 0) [] := .inl ⟨none, 0, rfl, rfl⟩
theorem Rd.drewN {w : World} {v : Value} {xs : List Value} (h : Rd w v xs) (m : Nat) : Rd (w.drewN m) v xs := h
theorem Rd.of_owns {w : World} {base : Nat} {v : Value} {n : Nat} {xs : List Value} (h : w.ownsRow base 56 1 v n xs) : Rd w v xs := by
  have hl : xs.length = n := by have := h.1; omega
  rcases id h.2 with ⟨rfl, rfl⟩ | ⟨g, cap, cur, rfl, _⟩
  · exact .inl ⟨none, 0, rfl, List.length_eq_zero_iff.1 hl⟩
  · refine .inr ⟨g, cap, by rw [hl], fun i u hu => ?_⟩
    have := h.cells (g := g) rfl i u hu
    rwa [add_at] at this
theorem Rd.slice {w : World} {v : Value} {xs : List Value} (h : Rd w v xs) : ∃ a c, v = .slice a xs.length c := by
  rcases h with ⟨a, c, rfl, rfl⟩ | ⟨g, c, rfl, _⟩
  · exact ⟨a, c, rfl⟩
  · exact ⟨_, c, rfl⟩

theorem tabl_ints (κ n : Nat) : ∀ u ∈ M.tabl κ n, ∃ x, u = Value.int .i16 x := by
  intro u hu
  unfold M.tabl at hu
  obtain ⟨i, _, rfl⟩ := List.mem_map.1 hu
  exact ⟨_, rfl⟩

set_option maxRecDepth 100000 in
theorem same_any (v1 v2 : Value) (xs : List Value) (w : World) (h1 : Rd w v1 xs) (h2 : Rd w v2 xs) (hx : ∀ u ∈ xs, ∃ x, u = Value.int .i16 x) (hl : xs.length ≤ 1000000) :
    Calls Tryd.prog 13 #[v1, v2] w fun e w' => e = .returned (.bool true) ∧ ∃ m, w' = w.drewN m := by
  by_cases hn : xs = []
  · subst hn
    obtain ⟨a1, c1, rfl⟩ := h1.slice
    obtain ⟨a2, c2, rfl⟩ := h2.slice
    clear h1 h2 hx hl
    simp only [List.length_nil]
    go_enter Tryd.func13, Tryd.ntmps13
    go_wp2
    refine wp_loop_rounds 1 ?_
    rw [rounds_succ]
    go_wp2
    go_ret
    exact ⟨rfl, 0, rfl⟩
  · obtain ⟨n, hlen⟩ : ∃ n, xs.length = n := ⟨_, rfl⟩
    have hpos : n ≠ 0 := fun h => hn (List.length_eq_zero_iff.1 (by omega))
    rcases h1 with ⟨a, c, _, h⟩ | ⟨g1, c1, rfl, r1⟩
    · exact absurd h hn
    rcases h2 with ⟨a, c, _, h⟩ | ⟨g2, c2, rfl, r2⟩
    · exact absurd h hn
    rw [hlen]
    have hl' : (n : Int) ≤ 1000000 := by omega
    have HX : Hid (∀ u ∈ xs, ∃ x, u = Value.int .i16 x) := hx
    have HL : Hid (xs.length = n) := hlen
    have R1 : Hid (∀ (i : Nat) u, xs[i]? = some u → w.cell? ⟨g1, i, none⟩ = some u) := r1
    have R2 : Hid (∀ (i : Nat) u, xs[i]? = some u → w.cell? ⟨g2, i, none⟩ = some u) := r2
    clear hx hlen r1 r2 hl
    go_enter Tryd.func13, Tryd.ntmps13
    go_wp2
    go_loopw [5] (fun i wr => ∃ k : Nat, k ≤ n ∧ i = .int .i64 k ∧ ∃ m, wr = w.drewN m) (fun i _ => n - (intOf i).toNat)
    case atStart => exact ⟨0, by omega, rfl, 0, rfl⟩
    case round =>
      obtain ⟨k, hk, rfl, m, rfl⟩ := hrel
      by_cases hlt : k < n
      · have hlt' : (k : Int) < n := by omega
        have hb : (0 : Int) ≤ k ∧ (k : Int) < n := by omega
        obtain ⟨x, hxk⟩ : ∃ x, xs[k]? = some (.int .i16 x) := by
          have hk' : k < xs.length := by rw [HL.out]; exact hlt
          obtain ⟨x, hx⟩ := HX.out xs[k] (List.getElem_mem hk')
          exact ⟨x, by rw [List.getElem?_eq_getElem hk', hx]⟩
        have q1 := R1.out k _ hxk
        have q2 := R2.out k _ hxk
        clear hxk
        go_wp2
        go_quiet (fail)
        go_wp2
        go_roundw
        case rel => exact ⟨k + 1, by omega, by go_num, _, rfl⟩
        case measure => simp [intOf]; omega
      · obtain rfl : k = n := by omega
        go_wp2
        go_ret
        exact ⟨rfl, _, rfl⟩

end Bank
end Go.Proofs.YtjfhlaahgfdmnaaDoor
