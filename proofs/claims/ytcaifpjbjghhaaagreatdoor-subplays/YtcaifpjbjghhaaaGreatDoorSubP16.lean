import Derived.BigRegion
import Derived.BigQuiet
import Derived.Test.YtcaifpjbjghhaaaGreatDoorSubP12
/-
  Contracts of package pcm's functions over lists, and of the document's: the greatest, the sum of squares, a channel. Conditions: as told at each.
-/
namespace Go.Proofs.YtcaifpjbjghhaaaGreatDoor
set_option linter.unusedVariables false
open Go.RowKit
namespace Pcm
open Bank (Blk But)
open Poly

theorem canBe_any (c : Int) (w : World) : Calls Tryz.prog 145 #[.int .i64 c] w fun e w' => e = .returned (.bool (decide (1 ≤ c ∧ c ≤ 2))) ∧ w' = w := by
  by_cases h1 : 1 ≤ c
  · by_cases h2 : c ≤ 2
    · rw [decide_eq_true ⟨h1, h2⟩]
      go_enter Tryz.func145, Tryz.ntmps145
      go_wp2
      go_ret
      exact ⟨rfl, rfl⟩
    · rw [decide_eq_false (by omega)]
      go_enter Tryz.func145, Tryz.ntmps145
      go_wp2
      go_ret
      exact ⟨rfl, rfl⟩
  · rw [decide_eq_false (by omega)]
    go_enter Tryz.func145, Tryz.ntmps145
    go_wp2
    go_ret
    exact ⟨rfl, rfl⟩

def At (w : World) (a : Option Addr) (xs : List Int) : Prop := ∀ i, i < xs.length → ∃ b off, a = some ⟨b, off, none⟩ ∧ w.cell? ⟨b, off + i, none⟩ = some (.int .i16 (xs.getD i 0))
theorem at_of {lo hi : Nat} {w : World} {a : Option Addr} {l c : Nat} {xs : List Int} (h : Reads .i16 lo hi w (.slice a l c) xs) : At w a xs := fun i hi => by
  obtain ⟨b, off, ha, _, _, hc⟩ := h.cell (by omega)
  exact ⟨b, off, ha, hc i hi⟩

theorem wpList_max3 {P : Program} {w : World} {ops : Array Oper} {rest : List Oper} {o : Oper} {a : Act} {Q : Exit → Act → World → Prop} (hgd : o.guard = none) (x y z : Operand) (t : TypeId)
    (ho : o.op = .call { callee := .builtin .max, args := #[x, y, z], argTypes := #[t, t, t] }) (p q r m : Int) (hx : a.eval x = .int .i64 p) (hy : a.eval y = .int .i64 q) (hz : a.eval z = .int .i64 r) (hm : m = max (max p q) r)
    (k : wpList P ops Q rest (a.put o.dst (.int .i64 m)) w) : wpList P ops Q (o :: rest) a w := by
  refine wpList_plain hgd fun _ hK => ?_
  have e : (if r > (if q > p then q else p) then r else (if q > p then q else p)) = m := by subst hm; repeat' split <;> omega
  unfold Oper.wp execOp
  simp only [ho, resolve, invoke, builtin, Sem.run_bind, Sem.run_pure, Result.andThen_ok, List.map_toArray, List.map_cons, List.map_nil, hx, hy, hz, Builtin.max_, List.foldlM_cons, List.foldlM_nil, Builtin.max2, e]
  exact hK _ _ k

end Pcm
end Go.Proofs.YtcaifpjbjghhaaaGreatDoor

