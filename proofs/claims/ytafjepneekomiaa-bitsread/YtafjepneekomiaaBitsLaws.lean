/-
  The chapter's example, and what no pad and no eye answer. No conditions.
-/
import Derived.Test.YtafjepneekomiaaBitsTell
namespace Go.Proofs.Ytafjepneekomiaa
set_option linter.unusedVariables false
open Go.RowKit
namespace Bits

theorem Own.below {ty : TypeId} {w w' : World} {p b c d n N : Nat} {B : Nat → Bool} {h t : Nat} (k : Own ty w p b c d n B h t) (u : Below N w w') (hp : p < N) (hb : b < N) (hc : c < N) (hd : d < N) : Own ty w' p b c d n B h t := by
  obtain ⟨h1, h2, s, h3, a, cap, hs, hd', hnil⟩ := k
  refine ⟨Below.blk u h1 hp, Below.blk u h2 hc, s, Below.blk u h3 hb, a, cap, hs, fun hn => ?_, hnil⟩
  obtain ⟨ha, cur, hb', hc'⟩ := hd' hn
  exact ⟨ha, cur, Below.blk u hb' hd, hc'⟩

theorem owns_cell {w : World} {base n cap : Nat} {a : Option Addr} {xs : List Nat} (h : w.ownsRow base 5 1 (.slice a n cap) n (xs.map fun x : Nat => Value.int .u8 x)) {i : Nat} (hi : i < n) :
    ∃ g, a = some ⟨g, 0, none⟩ ∧ base ≤ g ∧ w.cell? ⟨g, i, none⟩ = some (.int .u8 (xs.getD i 0 : Nat)) := by
  obtain ⟨hx, ⟨_, h0⟩ | ⟨g, cap', cur, he, hg, hh, h1, h2, h3, h4⟩⟩ := h
  · omega
  · cases he
    have hl : xs.length = n := by simpa using hx
    have : (cur.toList.take (n * 1))[i]? = (xs.map fun x : Nat => Value.int .u8 x)[i]? := by rw [h4]
    rw [List.getElem?_take_of_lt (by omega), Array.getElem?_toList] at this
    refine ⟨g, rfl, hg, ?_⟩
    simp [World.cell?, hh, this, List.getD, List.getElem?_eq_getElem (show i < xs.length by omega)]

set_option maxRecDepth 100000 in
theorem alive_any (w : World) :
    Calls Try.prog 7 #[] w fun e w' => e = .returned (.bool true) ∧ Below w.heap.size w w' := by
  go_enter Try.func7, Try.ntmps7
  go_wp2_with (first
    | (go_at_call 8; refine (New_ok 1 _ (by decide)).mono ?_; rintro e w1 ⟨p, b, c, d, rfl, lp, lb, lc, ld, up, ub, uc, ud, bel1, ho⟩)
    | (go_at_call 11; refine (FrontP_ok p b c d 1 0 0 1 1 _ _ ho (by decide) (by decide) (by decide) (by decide) (by decide) (fun _ _ _ => rfl)).mono ?_; clear ho; rintro e w2 ⟨rfl, bt2, ho2⟩)
    | (go_at_call 10; refine (BackP_ok p b c d 1 1 0 1 1 _ _ ho2 (by decide) (by decide) (by decide) (by decide) (by decide) (fun j h1 h2 => by rw [M.pf_at, if_neg (by omega)])).mono ?_; clear ho2; rintro e w3 ⟨rfl, bt3, ho3⟩)
    | (go_at_call 15; refine (BytesP p b c d 1 1 1 _ _ ho3 (by decide)).mono ?_; rintro e w4 ⟨a4, cap4, rfl, hown, bel4⟩; obtain ⟨g, rfl, hg, hc⟩ := owns_cell hown (i := 0) (by decide); replace hc : w4.cell? ⟨g, 0, none⟩ = some (.int .u8 129) := hc)
    | (go_at_call 11; refine (FrontP_err p b c d 1 1 1 0 7 _ _ (ho3.below bel4 (by have := bt2.size; have := bt3.size; omega) (by have := bt2.size; have := bt3.size; omega) (by have := bt2.size; have := bt3.size; omega) (by have := bt2.size; have := bt3.size; omega)) (by decide) (by decide) (by decide) (by decide)).mono ?_; rw [show M.mayv (8 * 1) 1 1 0 7 = 50 from rfl]; rintro e w5 ⟨rfl, m5, rfl⟩))
  go_ret
  have s1 := bel1.size
  have s2 := bt2.size
  have s3 := bt3.size
  exact ⟨rfl, Below.drewN' (((bel1.trans (bt2.below lb ld s1)).trans (bt3.below lb ld (by omega))).trans (Below.less bel4 (by omega))) _⟩

set_option maxRecDepth 100000 in
theorem BitsNil_walk (v k : Int) (w : World) :
    Calls Try.prog 6 #[.int .u32 v, .int .i64 k] w fun e w' => e = .returned (.bool true) ∧ Below w.heap.size w w' := by
  go_enter Try.func6, Try.ntmps6
  go_wp2_with (first
    | (go_at_call 7; refine (alive_any _).mono ?_; rintro e w1 ⟨rfl, hb⟩)
    | (go_at_call 20; refine (NilE_Front _ _).mono ?_; rintro e w' ⟨rfl, rfl⟩)
    | (go_at_call 19; refine (NilE_Back _ _).mono ?_; rintro e w' ⟨rfl, rfl⟩)
    | (go_at_call 22; refine (NilE_Used _).mono ?_; rintro e w' ⟨rfl, rfl⟩)
    | (go_at_call 11; refine (NilP_Front _ _ _).mono ?_; rintro e w' ⟨rfl, rfl⟩)
    | (go_at_call 10; refine (NilP_Back _ _ _).mono ?_; rintro e w' ⟨rfl, rfl⟩)
    | (go_at_call 13; refine (NilP_Left _).mono ?_; rintro e w' ⟨rfl, rfl⟩)
    | (go_at_call 15; refine (NilP_Bytes _).mono ?_; rintro e w' ⟨rfl, rfl⟩)
    | (go_at_call 24; refine (NilE_Bit _ _).mono ?_; rintro e w' ⟨rfl, rfl⟩)
    | (go_at_call 23; refine (NilE_Left _).mono ?_; rintro e w' ⟨rfl, rfl⟩))
  go_ret
  exact ⟨rfl, hb⟩

end Bits
end Go.Proofs.Ytafjepneekomiaa
