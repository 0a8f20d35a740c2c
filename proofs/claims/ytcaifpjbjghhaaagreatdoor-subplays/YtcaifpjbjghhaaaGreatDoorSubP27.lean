import Derived.Maps.AppendAt
import Derived.Test.YtcaifpjbjghhaaaGreatDoorSubP23
/-
  The scales of a plane by the document's answer, and the program's with its error; the law of scales. Conditions: as told at each.
-/
namespace Go.Proofs.YtcaifpjbjghhaaaGreatDoor
set_option linter.unusedVariables false
open Go.RowKit
namespace M
end M
namespace Qnt
open Bank (Blk But)
open Poly (cell_keep alloc_size enc enc_get Gat)

theorem Scales_ok (hi : Nat) (v : Value) (n C : Nat) (F : Nat → Nat → Int) (w : World) (h : Vw hi v n C F w) (hF : F32 F) (n1 : 1 ≤ n) (n40 : n ≤ 40) (c1 : 1 ≤ C) (c8 : C ≤ 8) (hh : hi ≤ w.heap.size) :
    Calls Tryz.prog 48 #[v] w fun e w' => e = .returned (.tuple #[.slice (some ⟨w.heap.size + 1, 0, none⟩) C C, .int .i64 0]) ∧ Below w.heap.size w w' ∧ Tb (w.heap.size + 1) 3 .i64 C (M.scl F n) w' ∧ w'.heap.size = w.heap.size + 2 := by
  have h1 : Calls Tryz.prog 107 #[v] w fun e w' => e = .returned (.bool true) ∧ w' = w :=
    (isPlane_any hi v n (fun _ => C) w h.hd (not_far n40 c8)).mono fun e w' h => h.yes ⟨n1, c1, c8, fun _ _ => rfl⟩
  have h2 := scalesOf_any hi v n C F w h hF n1 n40 c1 c8 hh
  obtain ⟨b0, o0, cp, rfl⟩ := h.form
  clear h
  go_enter Tryz.func48, Tryz.ntmps48
  go_wp2_with (first
    | (go_at_call 107; refine h1.mono ?_; rintro e w' ⟨rfl, rfl⟩)
    | (go_at_call 108; refine h2.mono ?_; rintro e w2 ⟨rfl, hh2⟩; replace hh2 : Hid _ := hh2))
  go_ret2
  exact ⟨rfl, hh2.out⟩

end Qnt
end Go.Proofs.YtcaifpjbjghhaaaGreatDoor

