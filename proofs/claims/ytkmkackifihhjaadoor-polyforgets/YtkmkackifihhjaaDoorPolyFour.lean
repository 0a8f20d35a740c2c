/-
  Two splitters and two joiners side by side. Conditions: the polynomial's numbers stand as their initialiser lays them; one goroutine.
-/
import Derived.Test.YtkmkackifihhjaaDoorPolyTwo
namespace Go.Proofs.YtkmkackifihhjaaDoor
set_option linter.unusedVariables false
open Go.RowKit
namespace Poly
open Bank (Blk But)

theorem Two.but {m slo sgl jlo jgl g : Nat} {xs l : List Int} {w wr w' : World} (h : Two m slo sgl jlo jgl xs l w wr) (hb : But g wr w') (h1 : g < slo ∨ sgl + 2 ≤ g) (h2 : g < jlo ∨ jgl + 2 ≤ g) (h3 : w.heap.size ≤ g) : Two m slo sgl jlo jgl xs l w w' :=
  ⟨h.1.but hb h1, h.2.1.but hb h2, h.2.2.1, h.2.2.2.1, below_but h.2.2.2.2 hb (Nat.le_refl _) h3⟩

/-- a and c, b and d; made in the order a, b, c, d -/
def Four (m alo agl blo bgl clo cgl dlo dgl : Nat) (xa xb lc ld : List Int) (w wr : World) : Prop :=
  Two m alo agl clo cgl xa lc w wr ∧ Two m blo bgl dlo dgl xb ld w wr ∧ agl + 2 ≤ blo ∧ bgl + 2 ≤ clo ∧ cgl + 2 ≤ dlo
section
variable {m alo agl blo bgl clo cgl dlo dgl : Nat} {xa xb lc ld : List Int} {w wr w' : World}
theorem Four.drewN (h : Four m alo agl blo bgl clo cgl dlo dgl xa xb lc ld w wr) (n : Nat) : Four m alo agl blo bgl clo cgl dlo dgl xa xb lc ld w (wr.drewN n) := ⟨h.1.drewN n, h.2.1.drewN n, h.2.2⟩
theorem Four.below (h : Four m alo agl blo bgl clo cgl dlo dgl xa xb lc ld w wr) (hb : Below wr.heap.size wr w') : Four m alo agl blo bgl clo cgl dlo dgl xa xb lc ld w w' := ⟨h.1.below hb, h.2.1.below hb, h.2.2⟩
theorem Four.alloc (h : Four m alo agl blo bgl clo cgl dlo dgl xa xb lc ld w wr) (o : Obj) : Four m alo agl blo bgl clo cgl dlo dgl xa xb lc ld w (wr.alloc o) := ⟨h.1.alloc o, h.2.1.alloc o, h.2.2⟩
/-- the order of the blocks -/
theorem Four.order (h : Four m alo agl blo bgl clo cgl dlo dgl xa xb lc ld w wr) : w.heap.size ≤ alo ∧ alo ≤ agl ∧ agl + 2 ≤ blo ∧ blo ≤ bgl ∧ bgl + 2 ≤ clo ∧ clo ≤ cgl ∧ cgl + 2 ≤ dlo ∧ dlo ≤ dgl ∧ dgl + 2 ≤ wr.heap.size :=
  ⟨h.1.2.2.2.1, h.1.1.1, h.2.2.1, h.2.1.1.1, h.2.2.2.1, h.1.2.1.1, h.2.2.2.2, h.2.1.2.1.1, h.2.1.2.1.2.1⟩
theorem Four.turnA {ys : List Int} (h : Four m alo agl blo bgl clo cgl dlo dgl xa xb lc ld w wr) (hS : Spl alo agl m ys w') (bt : But agl wr w') : Four m alo agl blo bgl clo cgl dlo dgl ys xb lc ld w w' := by
  have o := h.order
  exact ⟨h.1.turnS hS bt, h.2.1.but bt (.inl (by omega)) (.inl (by omega)) (by omega), h.2.2⟩
theorem Four.turnB {ys : List Int} (h : Four m alo agl blo bgl clo cgl dlo dgl xa xb lc ld w wr) (hS : Spl blo bgl m ys w') (bt : But bgl wr w') : Four m alo agl blo bgl clo cgl dlo dgl xa ys lc ld w w' := by
  have o := h.order
  exact ⟨h.1.but bt (.inr (by omega)) (.inl (by omega)) (by omega), h.2.1.turnS hS bt, h.2.2⟩
theorem Four.turnC {ys : List Int} (h : Four m alo agl blo bgl clo cgl dlo dgl xa xb lc ld w wr) (hJ : Joi clo cgl m ys w') (bt : But cgl wr w') : Four m alo agl blo bgl clo cgl dlo dgl xa xb ys ld w w' := by
  have o := h.order
  exact ⟨h.1.turnJ hJ bt, h.2.1.but bt (.inr (by omega)) (.inl (by omega)) (by omega), h.2.2⟩
theorem Four.turnD {ys : List Int} (h : Four m alo agl blo bgl clo cgl dlo dgl xa xb lc ld w wr) (hJ : Joi dlo dgl m ys w') (bt : But dgl wr w') : Four m alo agl blo bgl clo cgl dlo dgl xa xb lc ys w w' := by
  have o := h.order
  exact ⟨h.1.but bt (.inr (by omega)) (.inr (by omega)) (by omega), h.2.1.turnJ hJ bt, h.2.2⟩

theorem setup4 (hm : m = 4 ∨ m = 8) {wa : World} (hT : Wave.Tab w) (bela : Below w.heap.size w wa) :
    Calls Tryd.prog 10 #[] wa fun e w1 => ∃ bp, e = .returned (.pointer bp) ∧ Calls Tryd.prog 9 #[.pointer bp, .int .i64 m] w1 fun e w2 => ∃ agl, e = .returned (.tuple #[.pointer (some ⟨agl + 1, 0, none⟩), .int .i64 0]) ∧
      Calls Tryd.prog 10 #[] w2 fun e w3 => ∃ bp, e = .returned (.pointer bp) ∧ Calls Tryd.prog 9 #[.pointer bp, .int .i64 m] w3 fun e w4 => ∃ bgl, e = .returned (.tuple #[.pointer (some ⟨bgl + 1, 0, none⟩), .int .i64 0]) ∧
        Calls Tryd.prog 10 #[] w4 fun e w5 => ∃ bp, e = .returned (.pointer bp) ∧ Calls Tryd.prog 15 #[.pointer bp, .int .i64 m] w5 fun e w6 => ∃ cgl, e = .returned (.tuple #[.pointer (some ⟨cgl + 1, 0, none⟩), .int .i64 0]) ∧
          Calls Tryd.prog 10 #[] w6 fun e w7 => ∃ bp, e = .returned (.pointer bp) ∧ Calls Tryd.prog 15 #[.pointer bp, .int .i64 m] w7 fun e w8 => ∃ dgl, e = .returned (.tuple #[.pointer (some ⟨dgl + 1, 0, none⟩), .int .i64 0]) ∧
            ∃ alo blo clo dlo, Four m alo agl blo bgl clo cgl dlo dgl (List.replicate (10 * m) 0) (List.replicate (10 * m) 0) (List.replicate (20 * m) 0) (List.replicate (20 * m) 0) w w8 := by
  refine (madeS hm (tab_b bela (Nat.le_refl _) hT)).mono ?_
  rintro e w1 ⟨bp, rfl, h1⟩
  refine ⟨bp, rfl, h1.mono ?_⟩
  rintro e w2 ⟨agl, rfl, hA, s2, bel2, hT2⟩
  refine ⟨agl, rfl, (madeS hm hT2).mono ?_⟩
  rintro e w3 ⟨bp, rfl, h3⟩
  refine ⟨bp, rfl, h3.mono ?_⟩
  rintro e w4 ⟨bgl, rfl, hB, s4, bel4, hT4⟩
  refine ⟨bgl, rfl, (madeJ hm hT4).mono ?_⟩
  rintro e w5 ⟨bp, rfl, h5⟩
  refine ⟨bp, rfl, h5.mono ?_⟩
  rintro e w6 ⟨cgl, rfl, hC, s6, bel6, hT6⟩
  refine ⟨cgl, rfl, (madeJ hm hT6).mono ?_⟩
  rintro e w7 ⟨bp, rfl, h7⟩
  refine ⟨bp, rfl, h7.mono ?_⟩
  rintro e w8 ⟨dgl, rfl, hD, s8, bel8, hT8⟩
  have sa := bela.size
  have s24 := bel4.size
  have s46 := bel6.size
  have b02 : Below w.heap.size w w2 := bela.trans (bel2.mono sa)
  have b04 : Below w.heap.size w w4 := b02.trans (bel4.mono b02.size)
  have b06 : Below w.heap.size w w6 := b04.trans (bel6.mono b04.size)
  have b08 : Below w.heap.size w w8 := b06.trans (bel8.mono b06.size)
  have s02 := b02.size
  have hA1 := hB.1
  have hB1 := hC.1
  have hC1 := hD.1
  refine ⟨dgl, rfl, wa.heap.size, w2.heap.size, w4.heap.size, w6.heap.size, ⟨?_, ?_, ?_, sa, b08⟩, ⟨?_, hD, ?_, ?_, b08⟩, ?_, ?_, ?_⟩
  · exact ((hA.below bel4 (by omega)).below bel6 (by omega)).below bel8 (by omega)
  · exact hC.below bel8 (by omega)
  · omega
  · exact (hB.below bel6 (by omega)).below bel8 (by omega)
  · omega
  · omega
  · omega
  · omega
  · omega

/-- blocks of numbers beside the four -/
theorem four_cut {lo' hi' : Nat} {q : List Int} {vl : Value} (hm : m = 4 ∨ m = 8) (h : Four m alo agl blo bgl clo cgl dlo dgl xa xb lc ld w wr) (hr : Reads .i16 lo' hi' wr vl q) (h1 : hi' ≤ wr.heap.size) (hl : q.length ≤ 300) :
    Calls Tryd.prog 11 #[vl, .int .i64 m] wr fun e w5 => ∃ va vc, e = .returned (.slice va (M.cutL m q).length vc) ∧ (M.cutL m q).length ≤ vc ∧ Four m alo agl blo bgl clo cgl dlo dgl xa xb lc ld w w5 ∧ ∃ r0 r1, dgl + 2 ≤ r0 ∧ r1 ≤ w5.heap.size ∧ Rows .i16 r0 r1 w5 (.slice va (M.cutL m q).length vc) (M.cutL m q) := by
  refine (cut16 m lo' hi' q vl wr hm hr h1 (by omega)).mono ?_
  rintro e w5 ⟨vb, rfl, hR, bel⟩
  obtain ⟨va, vc, rfl, hvc⟩ := hR.form
  have o := h.order
  exact ⟨va, vc, rfl, hvc, h.below bel, wr.heap.size, w5.heap.size, by omega, Nat.le_refl _, hR⟩

/-- a block of the past, through a and c -/
theorem four_past {r0 r1 b off n c k : Nat} {zss : List (List Int)} (hm : m = 4 ∨ m = 8) (h : Four m alo agl blo bgl clo cgl dlo dgl xa xb lc ld w wr) (hR : Rows .i16 r0 r1 wr (.slice (some ⟨b, off, none⟩) n c) zss) (g0 : dgl + 2 ≤ r0) (g1 : r1 ≤ wr.heap.size) (hk : k < zss.length) (hr : ∀ i, i < zss.length → (zss.getD i []).length = m) :
    ∃ ua uc, wr.cell? ⟨b, off + k, none⟩ = some (.slice ua m uc) ∧ Calls Tryd.prog 12 #[.pointer (some ⟨agl + 1, 0, none⟩), .slice ua m uc] wr fun e w4 => ∃ va vc, e = .returned (.tuple #[.slice va m vc, .int .i64 0]) ∧
      Calls Tryd.prog 17 #[.pointer (some ⟨cgl + 1, 0, none⟩), .slice va m vc] w4 fun e w5 => ∃ ya yc, e = .returned (.tuple #[.slice ya m yc, .int .i64 0]) ∧ ∃ xa' lc', Four m alo agl blo bgl clo cgl dlo dgl xa' xb lc' ld w w5 ∧ Rows .i16 r0 r1 w5 (.slice (some ⟨b, off, none⟩) n c) zss ∧ r1 ≤ w5.heap.size := by
  obtain ⟨b', off', he, _, _, hx⟩ := hR.cell (by omega)
  cases he
  obtain ⟨u, hu, hru⟩ := hx k hk
  obtain ⟨ua, uc, rfl⟩ := hru.form
  have hlu := hr k hk
  rw [hlu] at hu hru
  have o := h.order
  refine ⟨ua, uc, hu, (feedS hm h.1.1 hru hlu g1 (.inl (by omega))).mono ?_⟩
  rintro e w4 ⟨va, vc, rfl, hS4, bt4, hr4⟩
  have s4 := bt4.size
  have h4 := h.turnA hS4 bt4
  refine ⟨va, vc, rfl, (feedJ hm h4.1.2.1 hr4 (M.spl_length m _) (Nat.le_refl _) (.inl (by omega))).mono ?_⟩
  rintro e w5 ⟨ya, yc, rfl, hJ5, bt5, hr5⟩
  have s5 := bt5.size
  exact ⟨ya, yc, rfl, _, _, h4.turnC hJ5 bt5, (hR.but bt4 g1 (.inl (by omega))).but bt5 (by omega) (.inl (by omega)), by omega⟩

/-- a block of nothing but 0 through a and through c -/
theorem four_zero (hm : m = 4 ∨ m = 8) (h : Four m alo agl blo bgl clo cgl dlo dgl xa xb lc ld w wr) :
    Calls Tryd.prog 12 #[.pointer (some ⟨agl + 1, 0, none⟩), .slice (some ⟨wr.heap.size, 0, none⟩) m m] (wr.alloc (.cells (enc .i16 (List.replicate m 0)).toArray 32)) fun e w4 => ∃ va vc, e = .returned (.tuple #[.slice va m vc, .int .i64 0]) ∧
      Calls Tryd.prog 17 #[.pointer (some ⟨cgl + 1, 0, none⟩), .slice (some ⟨w4.heap.size, 0, none⟩) m m] (w4.alloc (.cells (enc .i32 (List.replicate m 0)).toArray 21)) fun e w5 => ∃ ya yc, e = .returned (.tuple #[.slice ya m yc, .int .i64 0]) ∧ Four m alo agl blo bgl clo cgl dlo dgl (M.nx m (List.replicate m 0) xa) xb (M.nj m (List.replicate m 0) lc) ld w w5 := by
  have o := h.order
  have ha := h.alloc (.cells (enc .i16 (List.replicate m 0)).toArray 32)
  refine (feedS hm ha.1.1 (reads_new16 wr m) (by simp) (by rw [alloc_size]; exact Nat.le_refl _) (.inl (by omega))).mono ?_
  rintro e w4 ⟨va, vc, rfl, hS4, bt4, hr4⟩
  have s4 := bt4.size
  rw [alloc_size] at s4
  have h4 := ha.turnA hS4 bt4
  have hb := h4.alloc (.cells (enc .i32 (List.replicate m 0)).toArray 21)
  refine ⟨va, vc, rfl, (feedJ hm hb.1.2.1 (reads_new32 w4 m) (by simp) (by rw [alloc_size]; exact Nat.le_refl _) (.inl (by omega))).mono ?_⟩
  rintro e w5 ⟨ya, yc, rfl, hJ5, bt5, hr5⟩
  exact ⟨ya, yc, rfl, hb.turnC hJ5 bt5⟩

/-- both begin anew -/
theorem four_reset (hm : m = 4 ∨ m = 8) (h : Four m alo agl blo bgl clo cgl dlo dgl xa xb lc ld w wr) :
    Calls Tryd.prog 20 #[.pointer (some ⟨agl + 1, 0, none⟩)] wr fun e w4 => e = .returned (.tuple #[]) ∧ Calls Tryd.prog 21 #[.pointer (some ⟨cgl + 1, 0, none⟩)] w4 fun e w5 => e = .returned (.tuple #[]) ∧ Four m alo agl blo bgl clo cgl dlo dgl (List.replicate (10 * m) 0) xb (List.replicate (20 * m) 0) ld w w5 := by
  refine (splitReset alo agl m xa wr h.1.1 (by omega)).mono ?_
  rintro e w4 ⟨rfl, hS4, bt4⟩
  have h4 := h.turnA hS4 bt4
  refine ⟨rfl, (joinReset clo cgl m lc w4 h4.1.2.1 (by omega)).mono ?_⟩
  rintro e w5 ⟨rfl, hJ5, bt5⟩
  exact ⟨rfl, h4.turnC hJ5 bt5⟩

/-- a block through all four, when a is as b and c as d -/
theorem four_round {r0 r1 b off n c k : Nat} {x l : List Int} {zss : List (List Int)} (hm : m = 4 ∨ m = 8) (h : Four m alo agl blo bgl clo cgl dlo dgl x x l l w wr) (hR : Rows .i16 r0 r1 wr (.slice (some ⟨b, off, none⟩) n c) zss) (g0 : dgl + 2 ≤ r0) (g1 : r1 ≤ wr.heap.size) (hk : k < zss.length) (hr : ∀ i, i < zss.length → (zss.getD i []).length = m) :
    ∃ ua uc, wr.cell? ⟨b, off + k, none⟩ = some (.slice ua m uc) ∧ Calls Tryd.prog 12 #[.pointer (some ⟨agl + 1, 0, none⟩), .slice ua m uc] wr fun e w4 => ∃ va vc, e = .returned (.tuple #[.slice va m vc, .int .i64 0]) ∧
      Calls Tryd.prog 12 #[.pointer (some ⟨bgl + 1, 0, none⟩), .slice ua m uc] w4 fun e w5 => ∃ za zc, e = .returned (.tuple #[.slice za m zc, .int .i64 0]) ∧
        Calls Tryd.prog 13 #[.slice va m vc, .slice za m zc] w5 fun e w6 => e = .returned (.bool true) ∧
          Calls Tryd.prog 17 #[.pointer (some ⟨cgl + 1, 0, none⟩), .slice va m vc] w6 fun e w7 => ∃ pa pc, e = .returned (.tuple #[.slice pa m pc, .int .i64 0]) ∧
            Calls Tryd.prog 17 #[.pointer (some ⟨dgl + 1, 0, none⟩), .slice va m vc] w7 fun e w8 => ∃ qa qc, e = .returned (.tuple #[.slice qa m qc, .int .i64 0]) ∧
              Calls Tryd.prog 18 #[.slice pa m pc, .slice qa m qc] w8 fun e w9 => e = .returned (.bool true) ∧ ∃ x' l', Four m alo agl blo bgl clo cgl dlo dgl x' x' l' l' w w9 ∧ Rows .i16 r0 r1 w9 (.slice (some ⟨b, off, none⟩) n c) zss ∧ r1 ≤ w9.heap.size := by
  obtain ⟨b', off', he, _, _, hx⟩ := hR.cell (by omega)
  cases he
  obtain ⟨u, hu, hru⟩ := hx k hk
  obtain ⟨ua, uc, rfl⟩ := hru.form
  have hlu := hr k hk
  rw [hlu] at hu hru
  have o := h.order
  refine ⟨ua, uc, hu, (feedS hm h.1.1 hru hlu g1 (.inl (by omega))).mono ?_⟩
  rintro e w4 ⟨va, vc, rfl, hS4, bt4, hr4⟩
  have s4 := bt4.size
  have h4 := h.turnA hS4 bt4
  have hR4 := hR.but bt4 g1 (.inl (by omega))
  refine ⟨va, vc, rfl, (feedS hm h4.2.1.1 (hru.but bt4 g1 (.inl (by omega))) hlu (by omega) (.inl (by omega))).mono ?_⟩
  rintro e w5 ⟨za, zc, rfl, hS5, bt5, hr5⟩
  have s5 := bt5.size
  have h5 := h4.turnB hS5 bt5
  have hR5 := hR4.but bt5 (by omega) (.inl (by omega))
  have hr45 := hr4.but bt5 (Nat.le_refl _) (.inl (by omega))
  refine ⟨za, zc, rfl, (same32 _ _ _ _ _ _ _ _ hr45 hr5 (by rw [M.spl_length]; omega)).mono ?_⟩
  rintro e w6 ⟨rfl, q, rfl⟩
  have h6 := h5.drewN q
  refine ⟨rfl, (feedJ (w := w5.drewN q) hm h6.1.2.1 (hr45.drewN q) (M.spl_length m _) (by show w4.heap.size ≤ w5.heap.size; omega) (.inl (by omega))).mono ?_⟩
  rintro e w7 ⟨pa, pc, rfl, hJ7, bt7, hr7⟩
  have s7 : w5.heap.size ≤ w7.heap.size := bt7.size
  have h7 := h6.turnC hJ7 bt7
  have hR7 := (hR5.drewN q).but bt7 (by show r1 ≤ w5.heap.size; omega) (.inl (by omega))
  have hr47 := (hr45.drewN q).but bt7 (by show w4.heap.size ≤ w5.heap.size; omega) (.inl (by omega))
  refine ⟨pa, pc, rfl, (feedJ hm h7.2.1.2.1 hr47 (M.spl_length m _) (by omega) (.inl (by omega))).mono ?_⟩
  rintro e w8 ⟨qa, qc, rfl, hJ8, bt8, hr8⟩
  have s8 := bt8.size
  have h8 := h7.turnD hJ8 bt8
  have hR8 := hR7.but bt8 (by omega) (.inl (by omega))
  have hr7' : Reads .i16 w5.heap.size w7.heap.size w7 (.slice pa m pc) _ := hr7
  refine ⟨qa, qc, rfl, (same16 _ _ _ _ _ _ _ _ (hr7'.but bt8 (Nat.le_refl _) (.inl (by omega))) hr8 (by rw [M.jn_length]; omega)).mono ?_⟩
  rintro e w9 ⟨rfl, q2, rfl⟩
  exact ⟨rfl, _, _, h8.drewN q2, hR8.drewN q2, by show r1 ≤ w8.heap.size; omega⟩
end

end Poly
end Go.Proofs.YtkmkackifihhjaaDoor
