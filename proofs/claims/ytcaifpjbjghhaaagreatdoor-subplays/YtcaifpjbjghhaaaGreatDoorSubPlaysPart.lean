/-
  Of any planes, played one to three times one behind the other, a decoder of any format tells just the samples that the document's sums over all planes that came tell; planes that do not fit are refused, and no other format has a decoder. Conditions: none.
-/
import Derived.Test.YtcaifpjbjghhaaaGreatDoorCards
import Derived.Test.YtcaifpjbjghhaaaGreatDoorTie
import Derived.Deep.DeepHandedRow
import Derived.Lib.LaidTab
import Derived.WalkKit
import Derived.Test.YtcaifpjbjghhaaaGreatDoorSubP46
import Derived.Test.YtcaifpjbjghhaaaGreatDoorSubP00
import Derived.Test.YtcaifpjbjghhaaaGreatDoorSubP01
import Derived.Test.YtcaifpjbjghhaaaGreatDoorSubP02
import Derived.Test.YtcaifpjbjghhaaaGreatDoorSubP03
import Derived.Test.YtcaifpjbjghhaaaGreatDoorSubP04
import Derived.Test.YtcaifpjbjghhaaaGreatDoorSubP05
import Derived.Test.YtcaifpjbjghhaaaGreatDoorSubP06
import Derived.Test.YtcaifpjbjghhaaaGreatDoorSubP07
import Derived.Test.YtcaifpjbjghhaaaGreatDoorSubP08
import Derived.Test.YtcaifpjbjghhaaaGreatDoorSubP09
import Derived.Test.YtcaifpjbjghhaaaGreatDoorSubP10
import Derived.Test.YtcaifpjbjghhaaaGreatDoorSubP11
import Derived.Test.YtcaifpjbjghhaaaGreatDoorSubP12
import Derived.Test.YtcaifpjbjghhaaaGreatDoorSubP13
import Derived.Test.YtcaifpjbjghhaaaGreatDoorSubP14
import Derived.Test.YtcaifpjbjghhaaaGreatDoorSubP15
import Derived.Test.YtcaifpjbjghhaaaGreatDoorSubP16
import Derived.Test.YtcaifpjbjghhaaaGreatDoorSubP17
import Derived.Test.YtcaifpjbjghhaaaGreatDoorSubP18
import Derived.Test.YtcaifpjbjghhaaaGreatDoorSubP19
import Derived.Test.YtcaifpjbjghhaaaGreatDoorSubP20
import Derived.Test.YtcaifpjbjghhaaaGreatDoorSubP21
import Derived.Test.YtcaifpjbjghhaaaGreatDoorSubP22
import Derived.Test.YtcaifpjbjghhaaaGreatDoorSubP23
import Derived.Test.YtcaifpjbjghhaaaGreatDoorSubP24
import Derived.Test.YtcaifpjbjghhaaaGreatDoorSubP25
import Derived.Test.YtcaifpjbjghhaaaGreatDoorSubP26
import Derived.Test.YtcaifpjbjghhaaaGreatDoorSubP27
import Derived.Test.YtcaifpjbjghhaaaGreatDoorSubP28
import Derived.Test.YtcaifpjbjghhaaaGreatDoorSubP29
import Derived.Test.YtcaifpjbjghhaaaGreatDoorSubP30
import Derived.Test.YtcaifpjbjghhaaaGreatDoorSubP31
import Derived.Test.YtcaifpjbjghhaaaGreatDoorSubP32
import Derived.Test.YtcaifpjbjghhaaaGreatDoorSubP33
import Derived.Test.YtcaifpjbjghhaaaGreatDoorSubP34
import Derived.Test.YtcaifpjbjghhaaaGreatDoorSubP35
import Derived.Test.YtcaifpjbjghhaaaGreatDoorSubP36
import Derived.Test.YtcaifpjbjghhaaaGreatDoorSubP37
import Derived.Test.YtcaifpjbjghhaaaGreatDoorSubP38
import Derived.Test.YtcaifpjbjghhaaaGreatDoorSubP39
import Derived.Test.YtcaifpjbjghhaaaGreatDoorSubP40
import Derived.Test.YtcaifpjbjghhaaaGreatDoorSubP41
import Derived.Test.YtcaifpjbjghhaaaGreatDoorSubP42
import Derived.Test.YtcaifpjbjghhaaaGreatDoorSubP43
import Derived.Test.YtcaifpjbjghhaaaGreatDoorSubP44
import Derived.Test.YtcaifpjbjghhaaaGreatDoorSubP45
import Derived.ProofKit
import Derived.OpenShut
import Derived.ShutString
import Derived.ChangeOld
import Derived.Below
import Derived.Carry
import Derived.Lib.SmallJoins
import Derived.Deep.SlicePairs
namespace Go.Proofs.YtcaifpjbjghhaaaGreatDoor.subPlays
open Go.ChangeShapes Go.WideShapes Go.ChangeAt Go.RowKit
set_option linter.unusedVariables false

theorem own : ownKnob Tryz.prog.godebug = none := by kernel_rfl
theorem laidOut : laidOutB Tryz.prog = true := by kernel_rfl

theorem gTab : Tryz.prog.globalNamed "psaltery/wave.polynomial" = some 2 := by kernel_rfl
theorem gTabType : (Tryz.prog.globals[2]?).map (·.type) = some 336 := by kernel_rfl
theorem cellsA : Tryz.prog.cellsOf 336 = 5 := by kernel_rfl
theorem cellsE : Tryz.prog.cellsOf 2 = 1 := by kernel_rfl
theorem gT4 : Tryz.prog.globalNamed "psaltery/alloc.offsetsOf4" = some 0 := by kernel_rfl
theorem gT8 : Tryz.prog.globalNamed "psaltery/alloc.offsetsOf8" = some 1 := by kernel_rfl
theorem gType4 : (Tryz.prog.globals[0]?).map (·.type) = some 311 := by kernel_rfl
theorem gType8 : (Tryz.prog.globals[1]?).map (·.type) = some 313 := by kernel_rfl
theorem cells44 : Tryz.prog.cellsOf 311 = 4 * 4 := by kernel_rfl
theorem cells48 : Tryz.prog.cellsOf 313 = 4 * 8 := by kernel_rfl
theorem cells4 : Tryz.prog.cellsOf 310 = 4 := by kernel_rfl
theorem cells8 : Tryz.prog.cellsOf 312 = 8 := by kernel_rfl
theorem cellsI : Tryz.prog.cellsOf 3 = 1 := by kernel_rfl
theorem four_rows {α : Type} (cs : List α) (m : Nat) (h : cs.length = 4 * m) : cs = (cs.drop (0 * m)).take m ++ ((cs.drop (1 * m)).take m ++ ((cs.drop (2 * m)).take m ++ (cs.drop (3 * m)).take m)) := by
  have e3 : (cs.drop (3 * m)).take m = cs.drop (3 * m) := List.take_of_length_le (by rw [List.length_drop]; omega)
  have e2 : (cs.drop (2 * m)).take m ++ cs.drop (3 * m) = cs.drop (2 * m) := by
    rw [show 3 * m = 2 * m + m by omega, ← List.drop_drop]; exact List.take_append_drop m _
  have e1 : (cs.drop (1 * m)).take m ++ cs.drop (2 * m) = cs.drop (1 * m) := by
    rw [show 2 * m = 1 * m + m by omega, ← List.drop_drop]; exact List.take_append_drop m _
  have e0 : (cs.drop (0 * m)).take m ++ cs.drop (1 * m) = cs := by
    rw [show 0 * m = 0 by omega, List.drop_zero, show 1 * m = m by omega]; exact List.take_append_drop m _
  rw [e3, e2, e1, e0]
/-- AN ARRAY OF FOUR ARRAYS OF INTEGERS THAT READS AS THE FOUR LISTS HOLDS THEIR NUMBERS. -/
theorem cells_four {H : Type} {enc : TypeId × Value → H} {P : Program} {w : World} {base : Nat} {sp : Nat → Bool} {held : Bool} {fuel : Nat} {t e i : TypeId} {m : Nat} {cs : List Value} {z0 z1 z2 z3 : List Int} {p : List MemPlace}
    (ht : P.underlying t = some (.array 4 e)) (he : P.underlying e = some (.array m i)) (hi : P.underlying i = some (.int .i64)) (hci : P.cellsOf i = 1) (hce : P.cellsOf e = m) (hct : P.cellsOf t = 4 * m)
    (h : DataW.trod enc P w base sp held fuel t cs = some (.agg [Lib.tabData .i64 z0, Lib.tabData .i64 z1, Lib.tabData .i64 z2, Lib.tabData .i64 z3], p)) : cs = (z0 ++ (z1 ++ (z2 ++ z3))).map fun z => Value.int .i64 z := by
  obtain ⟨xs, q, _, ex, hlen, hl, hel⟩ := DataW.trod_array ht h
  rw [hct] at hlen
  match xs, hl with
  | [x0, x1, x2, x3], _ =>
    have e3 := (DataW.agg.inj (Prod.mk.inj ex).1)
    simp only [List.map_cons, List.map_nil, List.cons.injEq, and_true] at e3
    obtain ⟨d0, d1, d2, d3⟩ := e3
    have k0 := hel 0 (by omega)
    have k1 := hel 1 (by omega)
    have k2 := hel 2 (by omega)
    have k3 := hel 3 (by omega)
    rw [hce] at k0 k1 k2 k3
    obtain ⟨a0, b0⟩ := x0
    obtain ⟨a1, b1⟩ := x1
    obtain ⟨a2, b2⟩ := x2
    obtain ⟨a3, b3⟩ := x3
    subst d0
    subst d1
    subst d2
    subst d3
    have c0 := Lib.cells_of_tab he hi hci hce k0
    have c1 := Lib.cells_of_tab he hi hci hce k1
    have c2 := Lib.cells_of_tab he hi hci hce k2
    have c3 := Lib.cells_of_tab he hi hci hce k3
    rw [four_rows cs m hlen, c0, c1, c2, c3]
    simp
theorem heap_of_var {W : World} {n : String} {g : Nat} {cs : Array Value} (hg : Tryz.prog.globalNamed n = some g) (h : W.var? Tryz.prog n = some cs) : ∃ t fr, W.heap[g]? = some (.cells cs t fr) := by
  unfold World.var? at h
  rw [hg] at h
  simp only [Option.bind_some] at h
  split at h
  · rename_i cs' t fr hh
    simp only [Option.some.injEq] at h
    subst h
    exact ⟨t, fr, hh⟩
  · cases h
/-- WHAT THE ROW's LIST GIVES: the tables stand as their initialisers lay them. -/
theorem laidFact {W : World} (hL : laidMetH Tryz.prog Rows.subPlaysRow.laid W) : Wave.Tab W ∧ Alloc.Tabs W := by
  have h : laidMet Tryz.prog [("psaltery/wave.polynomial", Lib.tabData .i64 [172272, 5026995, 85569306, 693598668, 1686629713]), ("psaltery/alloc.offsetsOf4", .agg [Lib.tabData .i64 [-1, 0, 0, 0], Lib.tabData .i64 [-2, 0, 0, 1], Lib.tabData .i64 [-2, 0, 0, 1], Lib.tabData .i64 [-2, 0, 0, 1]]),
    ("psaltery/alloc.offsetsOf8", .agg [Lib.tabData .i64 [-2, 0, 0, 0, 0, 0, 0, 1], Lib.tabData .i64 [-3, 0, 0, 0, 0, 0, 1, 2], Lib.tabData .i64 [-4, 0, 0, 0, 0, 0, 1, 2], Lib.tabData .i64 [-4, 0, 0, 0, 0, 0, 1, 2]])] W := hL
  obtain ⟨ps, ⟨g0, t0, cs0, fuel0, p0, q0, hg0, ht0, hv0, hd0, ⟨g, t, cs, fuel, p, q, hg, ht, hv, hd, ⟨g2, t2, cs2, fuel2, p2, q2, hg2, ht2, hv2, hd2, _, _⟩, _⟩, _⟩, _, _⟩ := h
  obtain rfl := Option.some.inj (gTab.symm.trans hg0)
  obtain rfl := Option.some.inj (gTabType.symm.trans ht0)
  have c0 := Lib.cells_of_tab Tryz.underlying336 Tryz.underlying2 cellsE cellsA hd0
  obtain ⟨t0', f0', h0'⟩ := heap_of_var gTab hv0
  have e0 : cs0 = Wave.polyArr := by rw [← Array.toList_inj, c0]; rfl
  rw [e0] at h0'
  obtain rfl := Option.some.inj (gT4.symm.trans hg)
  obtain rfl := Option.some.inj (gType4.symm.trans ht)
  obtain rfl := Option.some.inj (gT8.symm.trans hg2)
  obtain rfl := Option.some.inj (gType8.symm.trans ht2)
  have c4 := cells_four Tryz.underlying311 Tryz.underlying310 Tryz.underlying3 cellsI cells4 cells44 hd
  have c8 := cells_four Tryz.underlying313 Tryz.underlying312 Tryz.underlying3 cellsI cells8 cells48 hd2
  obtain ⟨t1, f1, h1⟩ := heap_of_var gT4 hv
  obtain ⟨t2', f2, h2⟩ := heap_of_var gT8 hv2
  have e4 : cs = Alloc.arr4 := by rw [← Array.toList_inj, c4]; rfl
  have e8 : cs2 = Alloc.arr8 := by rw [← Array.toList_inj, c8]; rfl
  rw [e4] at h1
  rw [e8] at h2
  exact ⟨⟨t0', f0', h0'⟩, ⟨⟨t1, f1, h1⟩, ⟨t2', f2, h2⟩⟩⟩
/-- A WORLD FOR THE WITNESS: the settled one, the tables holding what their initialisers lay. -/
def laidIn (w : World) : World :=
  { w with heap := ((w.heap.modify 2 fun
      | .cells _ t frozen => .cells Wave.polyArr t frozen
      | o => o).modify 0 fun
      | .cells _ t frozen => .cells Alloc.arr4 t frozen
      | o => o).modify 1 fun
      | .cells _ t frozen => .cells Alloc.arr8 t frozen
      | o => o }

set_option maxRecDepth 100000 in
/-- WHAT THE WALK GIVES, FOR EVERY ARGUMENT AND EVERY WORLD THAT HOLDS THE LISTED VARIABLES. -/
theorem contract (H : Type) (enc : TypeId × Value → H) (W : World) (base : Nat) (args : Array Value) (ds gs : List (DataW H)) (before : List MemPlace)
    (hval : ∀ (j : Nat) t v, Tryz.f6.params[j]? = some t → args[j]? = some v → Value.okWide Tryz.prog W .any base t v)
    (hW : DataW.Whole enc Tryz.prog Tryz.f6.params.toList Rows.subPlaysSpec.vars false W args.toList ds gs before) (hL : laidMetH Tryz.prog Rows.subPlaysRow.laid W) :
    Calls Tryz.prog 6 args W fun e W' => ∃ v, e = .returned v ∧ Rows.subPlaysSpec.post enc Tryz.prog Tryz.f6 false true false false W args v W' := by
  have hW' := hW
  obtain ⟨p, q, hA0, hV, rfl, hfz, hnd⟩ := hW
  have hA : DataW.TrodAll enc Tryz.prog W 0 (fun _ => true) true Tryz.f6.params.toList args.toList ds p := hA0
  rw [Tryz.params6] at hA hval
  obtain ⟨v0, vs0, d0, ds0, p0, q0, hargs, rfl, rfl, h0, r0⟩ := trodAll_cons hA
  obtain ⟨v1, vs1, d1, ds1, p1, q1, rfl, rfl, rfl, h1, r1⟩ := trodAll_cons r0
  obtain ⟨v2, vs2, d2, ds2, p2, q2, rfl, rfl, rfl, h2, r2⟩ := trodAll_cons r1
  obtain ⟨rfl, rfl, rfl⟩ := trodAll_nil r2
  obtain rfl : args = #[v0, v1, v2] := by cases args; simp_all
  obtain ⟨rfl, rfl⟩ := trodVars_none hV
  have t0 := h0
  have lt0 : ∀ x ∈ p0, x.block < W.heap.size := by obtain ⟨m, hm⟩ := t0; exact DataW.trod_lt m _ _ _ hm
  obtain ⟨f0, rfl⟩ := Form.open_fmt (hval 0 23 v0 rfl rfl) h0
  have t1 := h1
  have lt1 : ∀ x ∈ p1, x.block < W.heap.size := by obtain ⟨m, hm⟩ := t1; exact DataW.trod_lt m _ _ _ hm
  obtain ⟨a1, len1, cap1, rfl⟩ := okWide_slice Tryz.underlying24 (hval 1 24 v1 rfl rfl)
  obtain ⟨v1, hv1⟩ : ∃ v, v = Value.slice a1 len1 cap1 := ⟨_, rfl⟩
  obtain ⟨fuel1, hf1⟩ := h1
  obtain ⟨z1, s1⟩ := Sub.open_cubes hf1
  rw [← hv1] at s1
  have t2 := h2
  have lt2 : ∀ x ∈ p2, x.block < W.heap.size := by obtain ⟨m, hm⟩ := t2; exact DataW.trod_lt m _ _ _ hm
  obtain ⟨a2, rfl, rfl, rfl, w2⟩ := open_int Tryz.underlying5 (hval 2 5 v2 rfl rfl) h2
  have hT := laidFact hL
  rw [← hv1]
  clear hA0
  refine (Sub.SubPlays_walk f0 v1 z1 a2 W hT s1 w2).mono fun e W' ⟨he, bel⟩ => ?_
  subst he
  rw [hv1]
  exact ⟨_, rfl, _, _, _, [], _, [], hW', trodAll_mk1 (shut_bool Tryz.underlying4 _), (trodAll_cons_mk (Below.trod laidOut (by kernel_rfl) (of_decide_eq_true (by kernel_rfl)) t0 bel lt0) (trodAll_cons_mk (Below.trod laidOut (by kernel_rfl) (of_decide_eq_true (by kernel_rfl)) t1 bel lt1) (trodAll_cons_mk (Below.trod laidOut (by kernel_rfl) (of_decide_eq_true (by kernel_rfl)) t2 bel lt2) trodAll_mk0))), rfl, bel.frame _, fun h => by cases h⟩

theorem laid_met (os : Os) : laidMet Tryz.prog Rows.subPlaysRow.laid ((laidIn (World.holding Tryz.prog os ⟨#[], #[], []⟩)).forCall (fun _ _ => 0) ⟨#[], #[.agg #[.int .i64 0, .int .i64 0, .int .i64 0, .int .i64 0, .int .i64 0, .int .i64 0, .int .i64 0, .int .i64 0, .int .i64 0, .int .i64 0], .slice none 0 0, .int .u8 0], []⟩).memory :=
  laidMet_of_run' 8 (by kernel_rfl) (by kernel_rfl)
theorem reads (os : Os) {H : Type} (enc : TypeId × Value → H) : ∃ places, DataW.whole enc Tryz.prog ((laidIn (World.holding Tryz.prog os ⟨#[], #[], []⟩)).forCall (fun _ _ => 0) ⟨#[], #[.agg #[.int .i64 0, .int .i64 0, .int .i64 0, .int .i64 0, .int .i64 0, .int .i64 0, .int .i64 0, .int .i64 0, .int .i64 0, .int .i64 0], .slice none 0 0, .int .u8 0], []⟩).memory Tryz.f6.params.toList Rows.subPlaysSpec.vars false (#[.agg #[.int .i64 0, .int .i64 0, .int .i64 0, .int .i64 0, .int .i64 0, .int .i64 0, .int .i64 0, .int .i64 0, .int .i64 0, .int .i64 0], .slice none 0 0, .int .u8 0] : Array Value).toList 8 = some ([.agg [.lit (.int .i64 0), .lit (.int .i64 0), .lit (.int .i64 0), .lit (.int .i64 0), .lit (.int .i64 0), .lit (.int .i64 0), .lit (.int .i64 0), .lit (.int .i64 0), .lit (.int .i64 0), .lit (.int .i64 0)], .nil, .lit (.int .u8 0)], [], places) :=
  ⟨[], by kernel_rfl⟩

set_option maxRecDepth 100000 in
theorem lifted (os : Os) (started : os.Started) (H : Type) (enc : TypeId × Value → H) (F : Stop.Interp) :
    ReturnsInHanded {} Tryz.checked os 6 .any ((OpenSpec.ofChange Rows.subPlaysSpec).preRow enc Tryz.prog Tryz.f6 Rows.subPlaysRow.domain false Rows.subPlaysRow.laid) (((OpenSpec.ofChange Rows.subPlaysSpec).at F).post enc Tryz.prog Tryz.f6 false true false false) := by
  obtain ⟨places, hx⟩ := reads os enc
  refine returnsInHanded_of_row (C := Tryz.checked) (s := OpenSpec.ofChange Rows.subPlaysSpec) own started (by kernel_rfl) Tryz.func6
    (witness_row_at (enc := enc) (C := Tryz.checked) false (laidIn (World.holding Tryz.prog os ⟨#[], #[], []⟩)) #[.agg #[.int .i64 0, .int .i64 0, .int .i64 0, .int .i64 0, .int .i64 0, .int .i64 0, .int .i64 0, .int .i64 0, .int .i64 0, .int .i64 0], .slice none 0 0, .int .u8 0] rfl (by kernel_rfl) (by kernel_rfl) (by kernel_rfl)
      (OpenSpec.preRow_of_cond 8 hx (by kernel_rfl) (fun k hk => by cases hk) (by kernel_rfl) (laid_met os))) ?_
  intro W base args ds gs before hval hW _ _ _ hL _ _
  exact contract H enc W base args ds gs before hval hW hL

end Go.Proofs.YtcaifpjbjghhaaaGreatDoor.subPlays
