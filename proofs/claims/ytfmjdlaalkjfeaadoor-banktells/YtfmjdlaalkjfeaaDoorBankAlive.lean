/-
  The chapter's examples hold, and what no bank answers. Conditions: each number fits its kind; the polynomial's numbers stand as their initialiser lays them; one goroutine.
-/
import Derived.Test.YtfmjdlaalkjfeaaDoorBankLaws
namespace Go.Proofs.YtfmjdlaalkjfeaaDoor
open Go.RowKit
namespace Bank

theorem owns_but {b : Nat} {w w' : World} {base e size : Nat} {v : Value} {n : Nat} {xs : List Value} (h : w.ownsRow base e size v n xs) (hb : But b w w') (hl : b < base) : w'.ownsRow base e size v n xs := by
  refine ⟨h.1, ?_⟩
  rcases h.2 with hn | ⟨g, cap, cur, rfl, hg, hgg, rest⟩
  · exact .inl hn
  · exact .inr ⟨g, cap, cur, rfl, hg, (hb.block g (Array.getElem?_eq_some_iff.1 hgg).1 (by omega)).trans hgg, rest⟩

theorem below_drewN {B : Nat} {w w' : World} (h : Below B w w') (m : Nat) : Below B w (w'.drewN m) := ⟨h.os, h.tape, h.output, h.size, h.block⟩
theorem boxed_any {b : Nat} {D : List (Nat × Nat)} {t : Int} {N : Nat} {w : World} (hB : Bank b D t N w) (c : Array Value) (ty : TypeId) (m : Nat) : Bank b D t N ((w.alloc (.cells c ty)).drewN m) :=
  hB.below (below_drewN ((Below.refl _ _).alloc (Nat.le_refl _) _) m) hB.2.1

theorem tabl04 : M.tabl 0 4 = [.int .i16 32767, .int .i16 0, .int .i16 (-32767), .int .i16 0] := by
  have h0 : M.tv 0 4 0 = 32767 := by decide +kernel
  have h1 : M.tv 0 4 1 = 0 := by decide +kernel
  have h2 : M.tv 0 4 2 = -32767 := by decide +kernel
  have h3 : M.tv 0 4 3 = 0 := by decide +kernel
  show [Value.int .i16 (M.tv 0 4 0), .int .i16 (M.tv 0 4 1), .int .i16 (M.tv 0 4 2), .int .i16 (M.tv 0 4 3)] = _
  rw [h0, h1, h2, h3]

theorem lit_rd (w : World) : Rd (w.alloc (.cells #[.int .i16 32767, .int .i16 0, .int .i16 (-32767), .int .i16 0] 35)) (.slice (some ⟨w.heap.size, 0, none⟩) 4 4) (M.tabl 0 4) := by
  refine .inr ⟨w.heap.size, 4, by rw [M.tabl_length]; rfl, fun i u hu => (Blk.new w _ _).cell ?_⟩
  rw [tabl04] at hu
  simpa using hu

theorem turn4 (b : Nat) (D : List (Nat × Nat)) (t : Int) (N : Nat) (w : World) (hT : Wave.Tab w) (hB : Bank b D t N w) (hD : D.length ≤ 1000000) (t0 : 0 ≤ t) (t1 : t ≤ 1000000) :
    Calls Tryd.prog 12 #[.pointer (some ⟨b, 0, none⟩), .int .i64 4] w fun e w' => ∃ v, e = .returned (.tuple #[v, .int .i64 0]) ∧ Told b 0 4 D t v w w' :=
  turn_ok 4 b D t N w (.inl ⟨rfl, by omega, by omega, by omega⟩) hT hB hD t0 t1
theorem slope1 (b : Nat) (D : List (Nat × Nat)) (t : Int) (N : Nat) (w : World) (hT : Wave.Tab w) (hB : Bank b D t N w) (hD : D.length ≤ 1000000) (t0 : 0 ≤ t) (t1 : t ≤ 1000000) :
    Calls Tryd.prog 13 #[.pointer (some ⟨b, 0, none⟩), .int .i64 1] w fun e w' => ∃ v, e = .returned (.tuple #[v, .int .i64 0]) ∧ Told b 1 1 D t v w w' :=
  slope_ok 1 b D t N w (.inr (.inl ⟨rfl, by omega, by omega⟩)) hT hB hD t0 t1

set_option maxRecDepth 100000 in
set_option maxHeartbeats 1600000 in
theorem alive_any (w : World) (hT : Wave.Tab w) :
    Calls Tryd.prog 6 #[] w fun e w' => e = .returned (.bool true) ∧ Below w.heap.size w w' := by
  have nT : 0 ≠ w.heap.size := by have := tab_lt hT; omega
  have HT : Hid (Wave.Tab w) := hT
  clear hT
  go_enter Tryd.func6, Tryd.ntmps6
  go_wp2_with (first
    | (go_at_call 7; refine (new_any _).mono ?_; rintro e w1 ⟨rfl, _, hB0, bel1⟩; have hT0 : Wave.Tab w1 := tab_below bel1 (Nat.le_refl _) HT.out)
    | (go_at_call 12; refine (turn4 w.heap.size [] 0 _ _ hT0 hB0 (by decide) (by decide) (by decide)).mono ?_; rintro e w2 ⟨v, rfl, X1, ho1, hX1, hB1, bt1⟩; have hT1 := bt1.tab hT0 nT; clear hB0 hT0)
    | (go_at_call 12; refine (turn4 w.heap.size [(0, 4)] 1 _ _ hT1 hB1 (by decide) (by decide) (by decide)).mono ?_; rintro e w3 ⟨v2, rfl, X2, _, hX2, hB2, bt2⟩; have hT2 := bt2.tab hT1 nT; have ho2 := owns_but ho1 bt2 hB1.1; clear hB1 hT1 ho1)
    | (go_at_call 13; refine (slope1 w.heap.size [(0, 4)] 2 _ _ hT2 hB2 (by decide) (by decide) (by decide)).mono ?_; rintro e w4 ⟨v3, rfl, X3, _, hX3, hB3, bt3⟩; have ho3 := owns_but ho2 bt3 (by have := bel1.size; have := bt1.size; omega); clear hB2 hT2 ho2)
    | (go_at_call 14; refine (filter_err 5 _ _ (by decide)).mono ?_; rintro e w5 ⟨rfl, bel5⟩; have hB4 := hB3.below bel5 hB3.2.1; have ho4 := owns_below ho3 bel5; clear hB3 ho3)
    | (go_at_call 9; refine (same_any _ _ (M.tabl 0 4) _ (Rd.of_owns (ho4.alloc _)) (lit_rd w5) (tabl_ints 0 4) (by rw [M.tabl_length]; decide)).mono ?_; rintro e w6 ⟨rfl, m, rfl⟩; have hB5 := boxed_any hB4 #[.int .i16 32767, .int .i16 0, .int .i16 (-32767), .int .i16 0] 35 m; clear hB4 ho4)
    | (go_at_call 10; refine (made_any _ _ _ _ _ hB5 (by decide)).mono ?_; rintro e w7 ⟨rfl, hw⟩; rw [hw]; clear hw w7)
    | (go_at_call 11; refine (toldN_any _ _ _ _ _ hB5 (by decide) (by decide)).mono ?_; rintro e w7 ⟨rfl, hw⟩; rw [hw]; clear hw w7))
  go_ret
  refine ⟨rfl, ?_⟩
  have b1 := bel1.trans (((bt1.trans bt2).trans bt3).below (Nat.le_refl _) bel1.size)
  have b2 := b1.trans (bel5.mono b1.size)
  exact below_drewN (b2.alloc b2.size _) _

set_option maxRecDepth 100000 in
set_option maxHeartbeats 1600000 in
theorem BankNil_walk (kind n : Int) (w : World) (hT : Wave.Tab w) :
    Calls Tryd.prog 5 #[.agg #[.int .i64 kind, .int .i64 n]] w fun e w' => e = .returned (.bool true) ∧ Below w.heap.size w w' := by
  have bel : Below w.heap.size w (w.alloc (.cells #[.int .i64 kind, .int .i64 n] 31)) := (Below.refl _ _).alloc (Nat.le_refl _) _
  have hT1 := tab_below bel (Nat.le_refl _) hT
  have hn1 := Blk.new w #[.int .i64 kind, .int .i64 n] 31
  have hk2 : ∀ w2, Below (w.alloc (.cells #[.int .i64 kind, .int .i64 n] 31)).heap.size (w.alloc (.cells #[.int .i64 kind, .int .i64 n] 31)) w2 → w2.cell? ⟨w.heap.size, 0, none⟩ = some (.int .i64 kind) ∧ w2.cell? ⟨w.heap.size, 1, none⟩ = some (.int .i64 n) ∧ Below w.heap.size w w2 := fun w2 h =>
    ⟨(h.cell (p := ⟨w.heap.size, 0, none⟩) (by simp)).trans (hn1.cell (o := 0) rfl), (h.cell (p := ⟨w.heap.size, 1, none⟩) (by simp)).trans (hn1.cell (o := 1) rfl), bel.trans (h.mono (by simp))⟩
  have HK : Hid _ := hk2
  have HN : Hid (Blk _ _ _ _) := hn1
  clear hk2 hn1 hT
  have hnot : ∀ (x : Bool) (w : World), (Op.unary .not (.bool x)).run Tryd.prog w = .ok (.bool (!x)) w := fun _ _ => rfl
  go_enter Tryd.func5, Tryd.ntmps5
  go_wp2_with (first
    | (go_at_call 6; refine (alive_any _ hT1).mono ?_; rintro e w2 ⟨rfl, hb⟩; obtain ⟨c0, c1, hb2⟩ := HK.out w2 hb)
    | (go_at_call 8; refine (ask_nil kind n _).mono ?_; rintro e w3 ⟨r, rfl, hb3⟩)
    | (go_at_call 10; refine (made_nil _).mono ?_; rintro e w7 ⟨rfl, hw⟩; rw [hw]; clear hw w7)
    | (go_at_call 11; refine (told_nil _).mono ?_; rintro e w7 ⟨rfl, hw⟩; rw [hw]; clear hw w7))
  go_ret
  exact ⟨rfl, hb2.trans (hb3.mono hb2.size)⟩

end Bank
end Go.Proofs.YtfmjdlaalkjfeaaDoor
