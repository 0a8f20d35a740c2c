import Derived.Lib.SmallJoins
import Derived.Test.YtcaifpjbjghhaaaGreatDoorSubP18
/-
  A format that is handed in: ten ints. No walk. Conditions: none.
-/
namespace Go.Proofs.YtcaifpjbjghhaaaGreatDoor
set_option linter.unusedVariables false
open Go.RowKit Go.WideShapes Go.ChangeAt
namespace Form

set_option maxRecDepth 100000 in
theorem open_fmt {H : Type} {enc : TypeId × Value → H} {w : World} {base : Nat} {spare : Nat → Bool} {held : Bool} {r : Reach} {b0 : Nat} {v : Value} {d : DataW H} {p : List MemPlace}
    (hv : Value.okWide Tryz.prog w r b0 23 v) (h : DataW.Trod enc Tryz.prog w base spare held 23 v d p) : ∃ f : M.Fmt, v = fv f := by
  obtain ⟨cs, rfl, hsz⟩ := okWide_struct Tryz.underlying23 hv
  rw [show Tryz.prog.cellsOf 23 = 10 by kernel_rfl] at hsz
  obtain ⟨fuel, hf⟩ := h
  obtain ⟨xs, k, hk, hxy, hl, hxl, hx⟩ := DataW.trod_struct Tryz.underlying23 hf
  obtain ⟨cs⟩ := cs
  match cs, hsz with
  | [v0, v1, v2, v3, v4, v5, v6, v7, v8, v9], _ =>
    match xs, hxl with
    | [y0, y1, y2, y3, y4, y5, y6, y7, y8, y9], _ =>
      have c3 : Tryz.prog.cellsOf 3 = 1 := by kernel_rfl
      have g0 := hx 0 _ rfl
      have g1 := hx 1 _ rfl
      have g2 := hx 2 _ rfl
      have g3 := hx 3 _ rfl
      have g4 := hx 4 _ rfl
      have g5 := hx 5 _ rfl
      have g6 := hx 6 _ rfl
      have g7 := hx 7 _ rfl
      have g8 := hx 8 _ rfl
      have g9 := hx 9 _ rfl
      simp [c3, Value.cells] at g0 g1 g2 g3 g4 g5 g6 g7 g8 g9
      obtain ⟨n0, e0, _, _⟩ := DataW.trod_int Tryz.underlying3 g0
      obtain rfl := List.singleton_inj.1 e0
      obtain ⟨n1, e1, _, _⟩ := DataW.trod_int Tryz.underlying3 g1
      obtain rfl := List.singleton_inj.1 e1
      obtain ⟨n2, e2, _, _⟩ := DataW.trod_int Tryz.underlying3 g2
      obtain rfl := List.singleton_inj.1 e2
      obtain ⟨n3, e3, _, _⟩ := DataW.trod_int Tryz.underlying3 g3
      obtain rfl := List.singleton_inj.1 e3
      obtain ⟨n4, e4, _, _⟩ := DataW.trod_int Tryz.underlying3 g4
      obtain rfl := List.singleton_inj.1 e4
      obtain ⟨n5, e5, _, _⟩ := DataW.trod_int Tryz.underlying3 g5
      obtain rfl := List.singleton_inj.1 e5
      obtain ⟨n6, e6, _, _⟩ := DataW.trod_int Tryz.underlying3 g6
      obtain rfl := List.singleton_inj.1 e6
      obtain ⟨n7, e7, _, _⟩ := DataW.trod_int Tryz.underlying3 g7
      obtain rfl := List.singleton_inj.1 e7
      obtain ⟨n8, e8, _, _⟩ := DataW.trod_int Tryz.underlying3 g8
      obtain rfl := List.singleton_inj.1 e8
      obtain ⟨n9, e9, _, _⟩ := DataW.trod_int Tryz.underlying3 g9
      obtain rfl := List.singleton_inj.1 e9
      exact ⟨⟨n0, n1, n2, n3, n4, n5, n6, n7, n8, n9⟩, rfl⟩

end Form
end Go.Proofs.YtcaifpjbjghhaaaGreatDoor

