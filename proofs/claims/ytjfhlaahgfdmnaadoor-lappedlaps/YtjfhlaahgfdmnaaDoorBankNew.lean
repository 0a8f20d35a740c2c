/-
  A new bank. Conditions: none.
-/
import Derived.Test.YtjfhlaahgfdmnaaDoorBankAsk
namespace Go.Proofs.YtjfhlaahgfdmnaaDoor
open Go.RowKit
namespace Bank

/-- the bank's cells when nothing was made: k tables, then the two counts -/
def chk4 : Nat → List Value → Bool
  | 0, [.int .i64 (.ofNat 0), .int .i64 (.ofNat 0)] => true
  | k + 1, .int .u32 (.ofNat 0) :: .int .i32 (.ofNat 0) :: _ :: _ :: r => chk4 k r
  | _, _ => false
def chk : Value → Bool | .agg cs => chk4 386 cs.toList | _ => false

theorem chk4_spec : ∀ (k : Nat) (l : List Value), chk4 k l = true → l.length = 4 * k + 2 ∧ l[4 * k]? = some (.int .i64 0) ∧ l[4 * k + 1]? = some (.int .i64 0) ∧ ∀ j, j < k → l[4 * j]? = some (.int .u32 0) ∧ l[4 * j + 1]? = some (.int .i32 0) := by
  intro k
  induction k with
  | zero =>
    intro l h
    unfold chk4 at h
    split at h
    · exact ⟨rfl, rfl, rfl, fun j hj => absurd hj (by omega)⟩
    · rename_i e; cases e
    · cases h
  | succ k ih =>
    intro l h
    unfold chk4 at h
    split at h
    · rename_i e; cases e
    · rename_i e
      cases e
      rename_i r
      obtain ⟨h1, h2, h3, h4⟩ := ih r h
      have e4 : ∀ (a b c d : Value) (m : Nat), (a :: b :: c :: d :: r)[m + 4]? = r[m]? := fun _ _ _ _ _ => rfl
      refine ⟨by simp [h1]; omega, ?_, ?_, ?_⟩
      · rw [show 4 * (k + 1) = 4 * k + 4 by omega, e4]; exact h2
      · rw [show 4 * (k + 1) + 1 = 4 * k + 1 + 4 by omega, e4]; exact h3
      · intro j hj
        cases j with
        | zero => exact ⟨rfl, rfl⟩
        | succ j =>
          rw [show 4 * (j + 1) = 4 * j + 4 by omega, show 4 * j + 4 + 1 = 4 * j + 1 + 4 by omega, e4, e4]
          exact h4 j (by omega)
    · cases h

theorem infoB : (Tryd.prog.info? 79).map (fun i => i.zero.map chk) = some (some true) := by kernel_rfl

theorem zeroB : ∃ cs : Array Value, (∀ w : World, (zeroValue 79).run Tryd.prog w = .ok (.agg cs) w) ∧ chk4 386 cs.toList = true := by
  have h := infoB
  cases hi : Tryd.prog.info? 79 with
  | none => rw [hi] at h; cases h
  | some i =>
    rw [hi] at h
    simp only [Option.map_some, Option.some.injEq] at h
    cases hz : i.zero with
    | none => rw [hz] at h; cases h
    | some z =>
      rw [hz] at h
      simp only [Option.map_some, Option.some.injEq] at h
      unfold chk at h
      split at h
      · rename_i cs
        refine ⟨cs, fun w => ?_, h⟩
        simp [zeroValue, typeInfo, go_sem, hi, hz]
      · cases h

theorem new_bank (w : World) (cs : Array Value) (h : chk4 386 cs.toList = true) : Bank w.heap.size [] 0 (w.heap.size + 1) (w.alloc (.cells cs 79)) := by
  obtain ⟨h1, h2, h3, h4⟩ := chk4_spec _ _ h
  simp only [Array.length_toList, Array.getElem?_toList] at h1 h2 h3 h4
  refine ⟨by omega, by simp, cs, Blk.new w cs _, h1, h2, h3, fun κ n hok => ⟨fun _ => h4 _ (M.tj_lt hok), fun hd => absurd hd (by simp)⟩⟩

theorem new_any (w : World) : Calls Tryd.prog 9 #[] w fun e w' => e = .returned (.pointer (some ⟨w.heap.size, 0, none⟩)) ∧ w'.heap.size = w.heap.size + 1 ∧ Bank w.heap.size [] 0 (w.heap.size + 1) w' ∧ Below w.heap.size w w' := by
  obtain ⟨cs, hz, hc⟩ := zeroB
  have hn := new_bank w cs hc
  have hal : ∀ (o : Value), (Instr.alloc 79 true o).run Tryd.prog w = .ok (.pointer (some ⟨w.heap.size, 0, none⟩)) (w.alloc (.cells cs 79)) := fun o => by
    simp [Instr.alloc, hz, newVar, newRow, go_sem]
  clear hc
  go_enter Tryd.func9, Tryd.ntmps9
  go_wp2
  go_ret
  exact ⟨rfl, by simp, hn, (Below.refl _ _).alloc (Nat.le_refl _) _⟩

end Bank
end Go.Proofs.YtjfhlaahgfdmnaaDoor
