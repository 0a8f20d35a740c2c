/-
  The document's tables (psalteryref04), and when two lists are the same. Conditions: none.
-/
import Derived.Test.YtjfhlaahgfdmnaaDoorBankNew
import Derived.OwnWalk
namespace Go.Proofs.YtjfhlaahgfdmnaaDoor
open Go.RowKit
namespace M

theorem tabl_take {κ n k : Nat} (h : k < ts κ n) : (tabl κ n).take k ++ [.int .i16 (tv κ (n : Int) (k : Int))] = (tabl κ n).take (k + 1) := by
  rw [List.take_add_one, tabl_get h]; rfl
theorem tabl_all (κ n : Nat) : (tabl κ n).take (ts κ n) = tabl κ n := List.take_of_length_le (by rw [tabl_length]; exact Nat.le_refl _)
theorem fil4 : ∀ k : Nat, k < 40 → -32768 ≤ rnd (rnd (fade (k - 20) 4 * win k 40) 15 * 19708) 15 ∧ rnd (rnd (fade (k - 20) 4 * win k 40) 15 * 19708) 15 ≤ 32767 := by decide +kernel
theorem fil8 : ∀ k : Nat, k < 80 → -32768 ≤ rnd (rnd (fade (k - 40) 8 * win k 80) 15 * 19708) 15 ∧ rnd (rnd (fade (k - 40) 8 * win k 80) 15 * 19708) 15 ≤ 32767 := by decide +kernel
theorem sat16_id {x : Int} (h0 : -32768 ≤ x) (h1 : x ≤ 32767) : sat16 x = x := by
  unfold sat16 clip
  rw [if_neg (by omega), if_neg (by omega)]

end M
namespace Bank

/-- between the rounds: the first k numbers of the table are gathered -/
def Gath (κ n k : Nat) (v : Value) (w wr : World) : Prop := wr.ownsRow w.heap.size 56 1 v k ((M.tabl κ n).take k) ∧ Below w.heap.size w wr
theorem Gath.step {κ n k : Nat} {v v' : Value} {w wr w1 : World} {c : Array Value} {ty : TypeId} (h : Gath κ n k v w wr) (hk : k < M.ts κ n)
    (hown : w1.ownsRow w.heap.size 56 1 v' (k + 1) ((M.tabl κ n).take k ++ [.int .i16 (M.tv κ (n : Int) (k : Int))])) (hg : (wr.alloc (.cells c ty)).grownBy w1 v.ownBlock) : Gath κ n (k + 1) v' w w1 := by
  refine ⟨M.tabl_take hk ▸ hown, ?_⟩
  have hs := h.2.size
  exact (h.2.alloc hs _).grown hg (by simp; omega) (fun j hj => (h.1.lt j hj).1)
theorem Gath.whole {κ n : Nat} {v : Value} {w wr : World} (h : Gath κ n (M.ts κ n) v w wr) : wr.ownsRow w.heap.size 56 1 v (M.ts κ n) (M.tabl κ n) ∧ Below w.heap.size w wr := ⟨M.tabl_all κ n ▸ h.1, h.2⟩

set_option maxRecDepth 100000 in
theorem rslope_ok (n : Nat) (w : World) (hok : M.okT 1 n) :
    Calls Tryd.prog 30 #[.int .i64 n] w fun e w' => ∃ v, e = .returned v ∧ w'.ownsRow w.heap.size 56 1 v (M.ts 1 n) (M.tabl 1 n) ∧ Below w.heap.size w w' := by
  obtain ⟨i0, hi, hz0, hz1, hz2⟩ := info_parts info16
  have ets : M.ts 1 n = n := rfl
  have hn : 1 ≤ n ∧ n ≤ 128 := by rcases hok with h | h | h <;> omega
  obtain ⟨hn1, hn2⟩ := hn
  have i1 : ¬ (n : Int) < 1 := by omega
  have i2 : ¬ (128 : Int) < n := by omega
  have hsin : ∀ k : Nat, M.sine (2 * (k : Int) + 1) (8 * (n : Int)) = M.tv 1 n k := fun k => rfl
  go_enter Tryd.func30, Tryd.ntmps30
  go_wp2
  go_loopw [3, 4] (fun v i wr => ∃ k : Nat, k ≤ n ∧ i = .int .i64 (2 * (k : Int) + 1) ∧ Gath 1 n k v w wr) (fun _ i _ => 2 * n + 1 - (intOf i).toNat)
  case atStart => exact ⟨0, by omega, rfl, World.ownsRow_nil _ _ _ _, Below.refl _ _⟩
  case round =>
    obtain ⟨k, hk, rfl, hG⟩ := hrel
    by_cases hlt : k < n
    · have hlt' : 2 * (k : Int) + 1 < 2 * n := by omega
      have hs := hG.2.size
      have hown := hG.1
      go_wp2_with (first
        | (go_at_call 44; refine (Wave.Of_any _ _ _ (by omega) (by omega)).mono ?_; rintro e w' ⟨rfl, hw⟩; rw [hw]; clear hw w')
        | (at_builtin; refine wpList_append_own _ rfl (.tmp 17) (.tmp 22) 23 rfl w.heap.size 56 i0 (.int .i16 0) 1 2 Tryd.underlying23 hi hz0 hz1 hz2 rfl (by decide) _ _ _ rfl (hown.alloc _) ⟨wr.heap.size, 0, none⟩ 1 1 [.int .i16 (M.tv 1 n k)] rfl rfl ?c1 ?c2 ?c3 ?c4 ?c5 ?_))
      case c1 =>
        intro j u hj
        match j, hj with
        | 0, hj => simp at hj; subst hj; simp [Addr.add]
      case c2 => intro u hu; simp at hu; subst hu; rfl
      case c3 => unfold maxLen; omega
      case c4 => omega
      case c5 => simp; omega
      · intro v' w1 hown' hgrow _
        have R := hG.step (by omega) hown' hgrow
        clear hown' hgrow hown hG
        go_wp2
        go_roundw
        case rel => exact ⟨k + 1, by omega, by go_num, R⟩
        case measure => simp [intOf]; omega
    · obtain rfl : k = n := by omega
      have hlt' : ¬ 2 * (k : Int) + 1 < 2 * k := by omega
      go_wp2
      go_ret
      exact ⟨_, rfl, hG.whole⟩

theorem rslope_err (n : Int) (w : World) (h : ¬ (1 ≤ n ∧ n ≤ 128)) :
    Calls Tryd.prog 30 #[.int .i64 n] w fun e w' => e = .returned (.slice none 0 0) ∧ w' = w := by
  rcases (by omega : n < 1 ∨ (¬ n < 1 ∧ 128 < n)) with h1 | ⟨h1, h2⟩
  · go_enter Tryd.func30, Tryd.ntmps30
    go_wp2
    go_ret
    exact ⟨rfl, rfl⟩
  · go_enter Tryd.func30, Tryd.ntmps30
    go_wp2
    go_ret
    exact ⟨rfl, rfl⟩

end Bank
end Go.Proofs.YtjfhlaahgfdmnaaDoor
