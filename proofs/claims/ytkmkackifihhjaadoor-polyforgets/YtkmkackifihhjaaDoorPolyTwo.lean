/-
  A splitter and a joiner side by side. Conditions: the polynomial's numbers stand as their initialiser lays them; one goroutine.
-/
import Derived.Test.YtkmkackifihhjaaDoorPolySetup
namespace Go.Proofs.YtkmkackifihhjaaDoor
set_option linter.unusedVariables false
open Go.RowKit
namespace Poly
open Bank (Blk But)

/-- a splitter with line xs, and a joiner with line l -/
def Two (m slo sgl jlo jgl : Nat) (xs l : List Int) (w wr : World) : Prop := Spl slo sgl m xs wr ∧ Joi jlo jgl m l wr ∧ sgl + 2 ≤ jlo ∧ w.heap.size ≤ slo ∧ Below w.heap.size w wr
theorem Two.drewN {m slo sgl jlo jgl : Nat} {xs l : List Int} {w wr : World} (h : Two m slo sgl jlo jgl xs l w wr) (n : Nat) : Two m slo sgl jlo jgl xs l w (wr.drewN n) := ⟨h.1, h.2.1, h.2.2.1, h.2.2.2.1, below_drewN h.2.2.2.2 n⟩
theorem Two.below {m slo sgl jlo jgl : Nat} {xs l : List Int} {w wr w' : World} (h : Two m slo sgl jlo jgl xs l w wr) (hb : Below wr.heap.size wr w') : Two m slo sgl jlo jgl xs l w w' := by
  obtain ⟨h1, h2, h3, h4, h5⟩ := h
  exact ⟨h1.below hb h1.2.1, h2.below hb h2.2.1, h3, h4, h5.trans (hb.mono h5.size)⟩
theorem Two.alloc {m slo sgl jlo jgl : Nat} {xs l : List Int} {w wr : World} (h : Two m slo sgl jlo jgl xs l w wr) (o : Obj) : Two m slo sgl jlo jgl xs l w (wr.alloc o) := h.below ((Below.refl _ _).alloc (Nat.le_refl _) _)
theorem Two.turnS {m slo sgl jlo jgl : Nat} {xs l ys : List Int} {w wr w' : World} (h : Two m slo sgl jlo jgl xs l w wr) (hS : Spl slo sgl m ys w') (bt : But sgl wr w') : Two m slo sgl jlo jgl ys l w w' := by
  obtain ⟨h1, h2, h3, h4, h5⟩ := h
  have := h1.1
  exact ⟨hS, h2.but bt (.inl (by omega)), h3, h4, below_but h5 bt (Nat.le_refl _) (by omega)⟩
theorem Two.turnJ {m slo sgl jlo jgl : Nat} {xs l ys : List Int} {w wr w' : World} (h : Two m slo sgl jlo jgl xs l w wr) (hJ : Joi jlo jgl m ys w') (bt : But jgl wr w') : Two m slo sgl jlo jgl xs ys w w' := by
  obtain ⟨h1, h2, h3, h4, h5⟩ := h
  have := h1.1
  have := h2.1
  exact ⟨h1.but bt (.inr (by omega)), hJ, h3, h4, below_but h5 bt (Nat.le_refl _) (by omega)⟩

theorem setup2 {m : Nat} (hm : m = 4 ∨ m = 8) {w wa : World} (hT : Wave.Tab w) (bela : Below w.heap.size w wa) :
    Calls Tryd.prog 10 #[] wa fun e w1 => ∃ bp, e = .returned (.pointer bp) ∧ Calls Tryd.prog 9 #[.pointer bp, .int .i64 m] w1 fun e w2 => ∃ sgl, e = .returned (.tuple #[.pointer (some ⟨sgl + 1, 0, none⟩), .int .i64 0]) ∧
      Calls Tryd.prog 10 #[] w2 fun e w3 => ∃ bq, e = .returned (.pointer bq) ∧ Calls Tryd.prog 15 #[.pointer bq, .int .i64 m] w3 fun e w4 => ∃ jgl, e = .returned (.tuple #[.pointer (some ⟨jgl + 1, 0, none⟩), .int .i64 0]) ∧
        ∃ slo jlo, Two m slo sgl jlo jgl (List.replicate (10 * m) 0) (List.replicate (20 * m) 0) w w4 := by
  refine (madeS hm (tab_b bela (Nat.le_refl _) hT)).mono ?_
  rintro e w1 ⟨bp, rfl, h1⟩
  refine ⟨bp, rfl, h1.mono ?_⟩
  rintro e w2 ⟨sgl, rfl, hS, s2, bel2, hT2⟩
  refine ⟨sgl, rfl, (madeJ hm hT2).mono ?_⟩
  rintro e w3 ⟨bq, rfl, h3⟩
  refine ⟨bq, rfl, h3.mono ?_⟩
  rintro e w4 ⟨jgl, rfl, hJ, s4, bel4, -⟩
  have sa := bela.size
  have b02 : Below w.heap.size w w2 := bela.trans (bel2.mono sa)
  exact ⟨jgl, rfl, wa.heap.size, w2.heap.size, hS.below bel4 (by omega), hJ, by omega, sa, b02.trans (bel4.mono b02.size)⟩

/-- a block through both -/
theorem two_feed {m slo sgl jlo jgl lo' hi' : Nat} {x xs l : List Int} {vx : Value} {w wr : World} (hm : m = 4 ∨ m = 8) (h : Two m slo sgl jlo jgl xs l w wr) (hx : Reads .i16 lo' hi' wr vx x) (hxl : x.length = m) (h1 : hi' ≤ wr.heap.size) (hg : jgl + 2 ≤ lo') :
    Calls Tryd.prog 12 #[.pointer (some ⟨sgl + 1, 0, none⟩), vx] wr fun e w4 => ∃ va vc, e = .returned (.tuple #[.slice va m vc, .int .i64 0]) ∧
      Calls Tryd.prog 17 #[.pointer (some ⟨jgl + 1, 0, none⟩), .slice va m vc] w4 fun e w5 => ∃ ya yc, e = .returned (.tuple #[.slice ya m yc, .int .i64 0]) ∧ Two m slo sgl jlo jgl (M.nx m x xs) (M.nj m (M.spl m (M.nx m x xs)) l) w w5 ∧
        (∀ r0 r1 (vb : Value) (zss : List (List Int)), jgl + 2 ≤ r0 → r1 ≤ wr.heap.size → Rows .i16 r0 r1 wr vb zss → Rows .i16 r0 r1 w5 vb zss) ∧ wr.heap.size ≤ w5.heap.size := by
  have g1 := h.2.2.1
  have g2 := h.2.1.1
  have g3 := h.2.1.2.1
  refine (feedS hm h.1 hx hxl h1 (.inl (by omega))).mono ?_
  rintro e w4 ⟨va, vc, rfl, hS4, bt4, hr4⟩
  have s4 := bt4.size
  have h4 := h.turnS hS4 bt4
  refine ⟨va, vc, rfl, (feedJ hm h4.2.1 hr4 (M.spl_length m _) (Nat.le_refl _) (.inl (by omega))).mono ?_⟩
  rintro e w5 ⟨ya, yc, rfl, hJ5, bt5, hr5⟩
  have s5 := bt5.size
  exact ⟨ya, yc, rfl, h4.turnJ hJ5 bt5, fun r0 r1 vb zss k0 k1 hR => (hR.but bt4 k1 (.inl (by omega))).but bt5 (by omega) (.inl (by omega)), by omega⟩

/-- a block of nothing but 0 through each -/
theorem two_zero {m slo sgl jlo jgl : Nat} {xs l : List Int} {w wr : World} (hm : m = 4 ∨ m = 8) (h : Two m slo sgl jlo jgl xs l w wr) :
    Calls Tryd.prog 12 #[.pointer (some ⟨sgl + 1, 0, none⟩), .slice (some ⟨wr.heap.size, 0, none⟩) m m] (wr.alloc (.cells (enc .i16 (List.replicate m 0)).toArray 32)) fun e w4 => ∃ va vc, e = .returned (.tuple #[.slice va m vc, .int .i64 0]) ∧
      Calls Tryd.prog 17 #[.pointer (some ⟨jgl + 1, 0, none⟩), .slice (some ⟨w4.heap.size, 0, none⟩) m m] (w4.alloc (.cells (enc .i32 (List.replicate m 0)).toArray 21)) fun e w5 => ∃ ya yc, e = .returned (.tuple #[.slice ya m yc, .int .i64 0]) ∧ Two m slo sgl jlo jgl (M.nx m (List.replicate m 0) xs) (M.nj m (List.replicate m 0) l) w w5 ∧
        Reads .i32 w.heap.size w5.heap.size w5 (.slice va m vc) (M.spl m (M.nx m (List.replicate m 0) xs)) ∧ Reads .i16 w.heap.size w5.heap.size w5 (.slice ya m yc) (M.jn m (M.nj m (List.replicate m 0) l)) := by
  have g1 := h.2.2.1
  have g2 := h.2.1.1
  have g3 := h.2.1.2.1
  have g4 := h.2.2.2.2.size
  have ha := h.alloc (.cells (enc .i16 (List.replicate m 0)).toArray 32)
  refine (feedS hm ha.1 (reads_new16 wr m) (by simp) (by rw [alloc_size]; exact Nat.le_refl _) (.inl (by omega))).mono ?_
  rintro e w4 ⟨va, vc, rfl, hS4, bt4, hr4⟩
  have s4 := bt4.size
  rw [alloc_size] at s4 hr4
  have h4 := ha.turnS hS4 bt4
  have hb := h4.alloc (.cells (enc .i32 (List.replicate m 0)).toArray 21)
  refine ⟨va, vc, rfl, (feedJ hm hb.2.1 (reads_new32 w4 m) (by simp) (by rw [alloc_size]; exact Nat.le_refl _) (.inl (by omega))).mono ?_⟩
  rintro e w5 ⟨ya, yc, rfl, hJ5, bt5, hr5⟩
  have s5 := bt5.size
  rw [alloc_size] at s5 hr5
  refine ⟨ya, yc, rfl, hb.turnJ hJ5 bt5, ?_, hr5.mono (by omega) (Nat.le_refl _)⟩
  have hr4' := (hr4.below ((Below.refl _ _).alloc (Nat.le_refl w4.heap.size) (.cells (enc .i32 (List.replicate m 0)).toArray 21)) (Nat.le_refl _)).but bt5 (by rw [alloc_size]; omega) (.inl (by omega))
  exact hr4'.mono (by omega) (by omega)

/-- blocks of numbers beside both -/
theorem two_cut {m slo sgl jlo jgl lo' hi' : Nat} {xs l q : List Int} {vl : Value} {w wr : World} (hm : m = 4 ∨ m = 8) (h : Two m slo sgl jlo jgl xs l w wr) (hr : Reads .i16 lo' hi' wr vl q) (h1 : hi' ≤ wr.heap.size) (hl : q.length ≤ 300) :
    Calls Tryd.prog 11 #[vl, .int .i64 m] wr fun e w5 => ∃ va vc, e = .returned (.slice va (M.cutL m q).length vc) ∧ (M.cutL m q).length ≤ vc ∧ Two m slo sgl jlo jgl xs l w w5 ∧ ∃ r0 r1, jgl + 2 ≤ r0 ∧ r1 ≤ w5.heap.size ∧ Rows .i16 r0 r1 w5 (.slice va (M.cutL m q).length vc) (M.cutL m q) := by
  refine (cut16 m lo' hi' q vl wr hm hr h1 (by omega)).mono ?_
  rintro e w5 ⟨vb, rfl, hR, bel⟩
  obtain ⟨va, vc, rfl, hvc⟩ := hR.form
  have g3 := h.2.1.2.1
  exact ⟨va, vc, rfl, hvc, h.below bel, wr.heap.size, w5.heap.size, by omega, Nat.le_refl _, hR⟩
/-- a round over blocks -/
theorem two_round {m slo sgl jlo jgl r0 r1 b off n c k : Nat} {xs l : List Int} {zss : List (List Int)} {w wr : World} (hm : m = 4 ∨ m = 8) (h : Two m slo sgl jlo jgl xs l w wr) (hR : Rows .i16 r0 r1 wr (.slice (some ⟨b, off, none⟩) n c) zss) (g0 : jgl + 2 ≤ r0) (g1 : r1 ≤ wr.heap.size) (hk : k < zss.length) (hr : ∀ i, i < zss.length → (zss.getD i []).length = m) :
    ∃ ua uc, wr.cell? ⟨b, off + k, none⟩ = some (.slice ua m uc) ∧ Calls Tryd.prog 12 #[.pointer (some ⟨sgl + 1, 0, none⟩), .slice ua m uc] wr fun e w4 => ∃ va vc, e = .returned (.tuple #[.slice va m vc, .int .i64 0]) ∧
      Calls Tryd.prog 17 #[.pointer (some ⟨jgl + 1, 0, none⟩), .slice va m vc] w4 fun e w5 => ∃ ya yc, e = .returned (.tuple #[.slice ya m yc, .int .i64 0]) ∧ ∃ xs' l', Two m slo sgl jlo jgl xs' l' w w5 ∧ Rows .i16 r0 r1 w5 (.slice (some ⟨b, off, none⟩) n c) zss ∧ r1 ≤ w5.heap.size := by
  obtain ⟨b', off', he, _, _, hx⟩ := hR.cell (by omega)
  cases he
  obtain ⟨u, hu, hru⟩ := hx k hk
  obtain ⟨ua, uc, rfl⟩ := hru.form
  have hlu := hr k hk
  rw [hlu] at hu hru
  refine ⟨ua, uc, hu, (two_feed hm h hru hlu g1 g0).mono ?_⟩
  rintro e w4 ⟨va, vc, rfl, h4⟩
  refine ⟨va, vc, rfl, h4.mono ?_⟩
  rintro e w5 ⟨ya, yc, rfl, h5, hkeep, s5⟩
  exact ⟨ya, yc, rfl, _, _, h5, hkeep _ _ _ _ g0 g1 hR, by omega⟩
/-- both told nothing but 0 -/
theorem two_same {m slo sgl jlo jgl vc yc : Nat} {va ya : Option Addr} {xs l : List Int} {w wr : World} (hm : m = 4 ∨ m = 8) (h : Two m slo sgl jlo jgl xs l w wr) (hx : Reads .i32 w.heap.size wr.heap.size wr (.slice va m vc) (List.replicate m 0)) (hy : Reads .i16 w.heap.size wr.heap.size wr (.slice ya m yc) (List.replicate m 0)) :
    Calls Tryd.prog 13 #[.slice va m vc, .slice (some ⟨wr.heap.size, 0, none⟩) m m] (wr.alloc (.cells (enc .i32 (List.replicate m 0)).toArray 21)) fun e w6 => e = .returned (.bool true) ∧
      Calls Tryd.prog 18 #[.slice ya m yc, .slice (some ⟨w6.heap.size, 0, none⟩) m m] (w6.alloc (.cells (enc .i16 (List.replicate m 0)).toArray 32)) fun e w7 => e = .returned (.bool true) ∧ Two m slo sgl jlo jgl xs l w w7 := by
  have b1 : Below wr.heap.size wr (wr.alloc (.cells (enc .i32 (List.replicate m 0)).toArray 21)) := (Below.refl _ _).alloc (Nat.le_refl _) _
  refine (same32 _ _ _ _ _ _ _ _ (hx.below b1 (Nat.le_refl _)) (reads_new32 wr m) (by simp; omega)).mono ?_
  rintro e w6 ⟨rfl, q, rfl⟩
  have b2 : Below wr.heap.size wr ((wr.alloc (.cells (enc .i32 (List.replicate m 0)).toArray 21)).drewN q) := below_drewN b1 q
  have b3 : Below wr.heap.size wr (((wr.alloc (.cells (enc .i32 (List.replicate m 0)).toArray 21)).drewN q).alloc (.cells (enc .i16 (List.replicate m 0)).toArray 32)) := b2.alloc b2.size _
  refine ⟨rfl, (same16 _ _ _ _ _ _ _ _ (hy.below b3 (Nat.le_refl _)) (reads_new16 _ m) (by simp; omega)).mono ?_⟩
  rintro e w7 ⟨rfl, q2, rfl⟩
  exact ⟨rfl, (h.below b3).drewN q2⟩

end Poly
end Go.Proofs.YtkmkackifihhjaaDoor
