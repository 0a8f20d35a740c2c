import Derived.Test.YtcaifpjbjghhaaaGreatDoorSubA00
import Derived.Test.YtcaifpjbjghhaaaGreatDoorSubA01
import Derived.Test.YtcaifpjbjghhaaaGreatDoorSubA02
import Derived.Test.YtcaifpjbjghhaaaGreatDoorSubA03
import Derived.Test.YtcaifpjbjghhaaaGreatDoorSubA04
import Derived.Test.YtcaifpjbjghhaaaGreatDoorSubA05
import Derived.Test.YtcaifpjbjghhaaaGreatDoorSubA06
import Derived.Test.YtcaifpjbjghhaaaGreatDoorSubA07
import Derived.Test.YtcaifpjbjghhaaaGreatDoorSubA08
import Derived.Test.YtcaifpjbjghhaaaGreatDoorSubA09
import Derived.Test.YtcaifpjbjghhaaaGreatDoorSubA10
import Derived.Test.YtcaifpjbjghhaaaGreatDoorSubA11
import Derived.Test.YtcaifpjbjghhaaaGreatDoorSubA12
import Derived.Test.YtcaifpjbjghhaaaGreatDoorSubA13
import Derived.Test.YtcaifpjbjghhaaaGreatDoorSubA14
import Derived.Test.YtcaifpjbjghhaaaGreatDoorSubA15
import Derived.Test.YtcaifpjbjghhaaaGreatDoorSubA16
import Derived.Test.YtcaifpjbjghhaaaGreatDoorSubA17
import Derived.Test.YtcaifpjbjghhaaaGreatDoorSubA18
import Derived.Test.YtcaifpjbjghhaaaGreatDoorSubA19
import Derived.Test.YtcaifpjbjghhaaaGreatDoorSubA20
import Derived.Test.YtcaifpjbjghhaaaGreatDoorSubA21
import Derived.Test.YtcaifpjbjghhaaaGreatDoorSubA22
import Derived.Test.YtcaifpjbjghhaaaGreatDoorSubA23
import Derived.Test.YtcaifpjbjghhaaaGreatDoorSubA24
import Derived.Test.YtcaifpjbjghhaaaGreatDoorSubA25
import Derived.Test.YtcaifpjbjghhaaaGreatDoorSubA26
import Derived.Test.YtcaifpjbjghhaaaGreatDoorSubA27
import Derived.Test.YtcaifpjbjghhaaaGreatDoorSubA28
import Derived.Test.YtcaifpjbjghhaaaGreatDoorSubA29
import Derived.Test.YtcaifpjbjghhaaaGreatDoorSubA30
import Derived.Test.YtcaifpjbjghhaaaGreatDoorSubA31
import Derived.Test.YtcaifpjbjghhaaaGreatDoorSubA32
import Derived.Test.YtcaifpjbjghhaaaGreatDoorSubA33
import Derived.Test.YtcaifpjbjghhaaaGreatDoorSubA34
import Derived.Test.YtcaifpjbjghhaaaGreatDoorSubA35
import Derived.Test.YtcaifpjbjghhaaaGreatDoorSubA36
import Derived.Test.YtcaifpjbjghhaaaGreatDoorSubA37
import Derived.Test.YtcaifpjbjghhaaaGreatDoorSubA38
import Derived.Test.YtcaifpjbjghhaaaGreatDoorSubA39
import Derived.Test.YtcaifpjbjghhaaaGreatDoorSubA40
import Derived.Test.YtcaifpjbjghhaaaGreatDoorSubA41
import Derived.Test.YtcaifpjbjghhaaaGreatDoorSubA42
import Derived.Test.YtcaifpjbjghhaaaGreatDoorSubA43
import Derived.Test.YtcaifpjbjghhaaaGreatDoorSubA44
import Derived.Test.YtcaifpjbjghhaaaGreatDoorSubBackB03
/-
  Feeding a joiner; resets. Conditions: as told at each.
-/
namespace Go.Proofs.YtcaifpjbjghhaaaGreatDoor
set_option linter.unusedVariables false
open Go.RowKit
namespace Poly
open Bank (Blk But)

theorem splitReset (lo gl m : Nat) (xs : List Int) (w : World) (h : Spl lo gl m xs w) (hm : 1 ≤ m) :
    Calls Tryz.prog 95 #[.pointer (some ⟨gl + 1, 0, none⟩)] w fun e w' => e = .returned (.tuple #[]) ∧ Spl lo gl m (List.replicate (10 * m) 0) w' ∧ But gl w w' := by
  obtain ⟨c0, c3⟩ := h.cells
  have hcl : ∀ ty, (Builtin.clear_ #[55] ty #[.slice (some ⟨gl, 0, none⟩) (10 * m) (10 * m)]).run Tryz.prog w = .ok (.tuple #[]) (w.setRow gl (List.replicate (10 * m) (.int .i16 0)).toArray) := fun ty =>
    run_clear_row w 55 182 ty (.int .i16 0) Tryz.underlying55 (fun w => by kernel_rfl) rfl rfl gl (10 * m) (10 * m) _ _ h.2.2.1 (by simp [enc_length]; exact h.2.2.2.1) (by omega)
  have hS : Spl lo gl m (List.replicate (10 * m) 0) (w.setRow gl (List.replicate (10 * m) (.int .i16 0)).toArray) :=
    h.relay (But.setRow (Bank.But.refl _ _) _) (by rw [enc_rep]; exact Blk.setRow h.2.2.1 _) (by simp) (zeros16 _)
  have HS : Hid (Spl _ _ _ _ _) := hS
  clear h hS
  generalize (List.replicate (10 * m) (Value.int .i16 0)).toArray = cs at *
  generalize 10 * m = M10 at *
  go_enter Tryz.func95, Tryz.ntmps95
  go_wp2
  go_end0
  exact ⟨rfl, HS.out, But.setRow (Bank.But.refl _ _) _⟩

end Poly
end Go.Proofs.YtcaifpjbjghhaaaGreatDoor

