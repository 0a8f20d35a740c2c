/-
  One round of each law of layer 8, as a chain of contracts. Conditions: as told at each.
-/
import Derived.Test.YtkmkackifihhjaaDoorPolyAlive
import Derived.ChangeSlices
import Derived.ProofKit
namespace Go.Proofs.YtkmkackifihhjaaDoor
set_option linter.unusedVariables false
open Go.RowKit
namespace Poly
open Bank (Blk But)

theorem feedS {m lo gl lo' hi' : Nat} {x xs : List Int} {vx : Value} {w : World} (hm : m = 4 ∨ m = 8) (h : Spl lo gl m xs w) (hx : Reads .i16 lo' hi' w vx x) (hxl : x.length = m) (h1 : hi' ≤ w.heap.size) (hg : gl < lo' ∨ hi' ≤ gl) :
    Calls Tryd.prog 12 #[.pointer (some ⟨gl + 1, 0, none⟩), vx] w fun e w' => ∃ va vc, e = .returned (.tuple #[.slice va m vc, .int .i64 0]) ∧ Spl lo gl m (M.nx m x xs) w' ∧ But gl w w' ∧ Reads .i32 w.heap.size w'.heap.size w' (.slice va m vc) (M.spl m (M.nx m x xs)) := by
  have key : ∀ e w', (∃ v, e = Ending.returned (.tuple #[v, .int .i64 0]) ∧ Spl lo gl m (M.nx m x xs) w' ∧ But gl w w' ∧ Reads .i32 w.heap.size w'.heap.size w' v (M.spl m (M.nx m x xs))) → ∃ va vc, e = .returned (.tuple #[.slice va m vc, .int .i64 0]) ∧ Spl lo gl m (M.nx m x xs) w' ∧ But gl w w' ∧ Reads .i32 w.heap.size w'.heap.size w' (.slice va m vc) (M.spl m (M.nx m x xs)) := by
    rintro e w' ⟨v, rfl, hS, hb, hr⟩
    obtain ⟨va, vc, rfl⟩ := hr.form
    rw [M.spl_length] at hr ⊢
    exact ⟨va, vc, rfl, hS, hb, hr⟩
  rcases hm with rfl | rfl
  · exact (splitFeed 4 8 40 lo gl lo' hi' 17 x xs vx w (.inl ⟨rfl, rfl, rfl, rfl⟩) h hx hxl h1 hg).mono key
  · exact (splitFeed 8 16 80 lo gl lo' hi' 18 x xs vx w (.inr ⟨rfl, rfl, rfl, rfl⟩) h hx hxl h1 hg).mono key

theorem feedJ {m lo gl lo' hi' : Nat} {s l : List Int} {vs : Value} {w : World} (hm : m = 4 ∨ m = 8) (h : Joi lo gl m l w) (hs : Reads .i32 lo' hi' w vs s) (hsl : s.length = m) (h1 : hi' ≤ w.heap.size) (hg : gl < lo' ∨ hi' ≤ gl) :
    Calls Tryd.prog 17 #[.pointer (some ⟨gl + 1, 0, none⟩), vs] w fun e w' => ∃ va vc, e = .returned (.tuple #[.slice va m vc, .int .i64 0]) ∧ Joi lo gl m (M.nj m s l) w' ∧ But gl w w' ∧ Reads .i16 w.heap.size w'.heap.size w' (.slice va m vc) (M.jn m (M.nj m s l)) := by
  have key : ∀ e w', (∃ v, e = Ending.returned (.tuple #[v, .int .i64 0]) ∧ Joi lo gl m (M.nj m s l) w' ∧ But gl w w' ∧ Reads .i16 w.heap.size w'.heap.size w' v (M.jn m (M.nj m s l))) → ∃ va vc, e = .returned (.tuple #[.slice va m vc, .int .i64 0]) ∧ Joi lo gl m (M.nj m s l) w' ∧ But gl w w' ∧ Reads .i16 w.heap.size w'.heap.size w' (.slice va m vc) (M.jn m (M.nj m s l)) := by
    rintro e w' ⟨v, rfl, hS, hb, hr⟩
    obtain ⟨va, vc, rfl⟩ := hr.form
    rw [M.jn_length] at hr ⊢
    exact ⟨va, vc, rfl, hS, hb, hr⟩
  rcases hm with rfl | rfl
  · exact (joinFeed 4 8 80 lo gl lo' hi' s l vs w (.inl ⟨rfl, rfl, rfl⟩) h hs hsl h1 hg).mono key
  · exact (joinFeed 8 16 160 lo gl lo' hi' s l vs w (.inr ⟨rfl, rfl, rfl⟩) h hs hsl h1 hg).mono key

theorem split_any {m lo hi : Nat} {zss : List (List Int)} {vb : Value} {w : World} (hm : m = 4 ∨ m = 8) (hR : Rows .i16 lo hi w vb zss) (h1 : hi ≤ w.heap.size) (hr : ∀ i, i < zss.length → (zss.getD i []).length = m) (hn : zss.length ≤ 100) :
    Calls Tryd.prog 14 #[vb, .int .i64 m] w fun e w' => ∃ va vc, e = .returned (.slice va m vc) ∧ Reads .i32 w.heap.size w'.heap.size w' (.slice va m vc) (M.spl m (M.news zss)) ∧ Below w.heap.size w w' := by
  have key : ∀ e w', (∃ v, e = Ending.returned v ∧ Reads .i32 w.heap.size w'.heap.size w' v (M.spl m (M.news zss)) ∧ Below w.heap.size w w') → ∃ va vc, e = .returned (.slice va m vc) ∧ Reads .i32 w.heap.size w'.heap.size w' (.slice va m vc) (M.spl m (M.news zss)) ∧ Below w.heap.size w w' := by
    rintro e w' ⟨v, rfl, hr, hb⟩
    obtain ⟨va, vc, rfl⟩ := hr.form
    rw [M.spl_length] at hr ⊢
    exact ⟨va, vc, rfl, hr, hb⟩
  rcases hm with rfl | rfl
  · exact (split_4 lo hi zss vb w hR h1 hr hn).mono key
  · exact (split_8 lo hi zss vb w hR h1 hr hn).mono key

theorem join_any {m lo hi : Nat} {zss : List (List Int)} {vb : Value} {w : World} (hm : m = 4 ∨ m = 8) (hR : Rows .i32 lo hi w vb zss) (h1 : hi ≤ w.heap.size) (hr : ∀ i, i < zss.length → (zss.getD i []).length = m) (hn : zss.length ≤ 100) :
    Calls Tryd.prog 19 #[vb, .int .i64 m] w fun e w' => ∃ va vc, e = .returned (.slice va m vc) ∧ Reads .i16 w.heap.size w'.heap.size w' (.slice va m vc) (M.jn m (M.allv m zss)) ∧ Below w.heap.size w w' := by
  have key : ∀ e w', (∃ v, e = Ending.returned v ∧ Reads .i16 w.heap.size w'.heap.size w' v (M.jn m (M.allv m zss)) ∧ Below w.heap.size w w') → ∃ va vc, e = .returned (.slice va m vc) ∧ Reads .i16 w.heap.size w'.heap.size w' (.slice va m vc) (M.jn m (M.allv m zss)) ∧ Below w.heap.size w w' := by
    rintro e w' ⟨v, rfl, hr, hb⟩
    obtain ⟨va, vc, rfl⟩ := hr.form
    rw [M.jn_length] at hr ⊢
    exact ⟨va, vc, rfl, hr, hb⟩
  rcases hm with rfl | rfl
  · exact (join_4 lo hi zss vb w hR h1 hr hn).mono key
  · exact (join_8 lo hi zss vb w hR h1 hr hn).mono key

/-- the first blocks of rows -/
theorem Rows.head {k : IntKind} {lo hi : Nat} {w : World} {b off n c : Nat} {zss : List (List Int)} (h : Rows k lo hi w (.slice (some ⟨b, off, none⟩) n c) zss) {q : Nat} (hq : q ≤ zss.length) (hq0 : 0 < q) : Rows k lo hi w (.slice (some ⟨b, off, none⟩) q c) (zss.take q) := by
  obtain ⟨a, c', he, hl, hx⟩ := h
  cases he
  rcases hx with rfl | ⟨b', off', he, h0, h1, hx⟩
  · simp at hq; omega
  · cases he
    refine ⟨_, c, by rw [List.length_take, Nat.min_eq_left hq], by rw [List.length_take]; omega, .inr ⟨b, off, rfl, h0, h1, fun i hi => ?_⟩⟩
    rw [List.length_take] at hi
    obtain ⟨u, hu, hr⟩ := hx i (by omega)
    refine ⟨u, hu, ?_⟩
    have e : (zss.take q).getD i [] = zss.getD i [] := by
      simp only [List.getD]
      rw [List.getElem?_take, if_pos (by omega)]
    rw [e]; exact hr

theorem elemS16 : Tryd.prog.elem 30 = 22 := by simp [Program.elem, Tryd.underlying30]
theorem sizeS16 (w : World) : (Go.sizeOf 22).run Tryd.prog w = .ok 1 w := by kernel_rfl
theorem elemS32 : Tryd.prog.elem 42 = 33 := by simp [Program.elem, Tryd.underlying42]
theorem sizeS32 (w : World) : (Go.sizeOf 33).run Tryd.prog w = .ok 1 w := by kernel_rfl
/-- 'b[:i+1]' -/
theorem head16 (b off n c k : Nat) (hk : k + 1 ≤ c) (wx : World) : (Instr.slice 30 (.slice (some ⟨b, off, none⟩) n c) none (some (.int .i64 ((k : Int) + 1))) none).run Tryd.prog wx = .ok (.slice (some ⟨b, off, none⟩) (k + 1) c) wx := by
  rw [run_slice_h (P := Tryd.prog) wx 30 _ n c (by rw [elemS16]; exact Tryd.underlying30) .i64 ((k : Int) + 1) (by omega) (by omega), elemS16, sizeS16]
  show Result.ok (Go.sliced _ 0 ((k : Int) + 1).toNat c 1) wx = _
  unfold Go.sliced
  rw [if_neg (by omega), show ((k : Int) + 1).toNat = k + 1 from by omega]
  simp [add_off]
theorem head32 (b off n c k : Nat) (hk : k + 1 ≤ c) (wx : World) : (Instr.slice 42 (.slice (some ⟨b, off, none⟩) n c) none (some (.int .i64 ((k : Int) + 1))) none).run Tryd.prog wx = .ok (.slice (some ⟨b, off, none⟩) (k + 1) c) wx := by
  rw [run_slice_h (P := Tryd.prog) wx 42 _ n c (by rw [elemS32]; exact Tryd.underlying42) .i64 ((k : Int) + 1) (by omega) (by omega), elemS32, sizeS32]
  show Result.ok (Go.sliced _ 0 ((k : Int) + 1).toNat c 1) wx = _
  unfold Go.sliced
  rw [if_neg (by omega), show ((k : Int) + 1).toNat = k + 1 from by omega]
  simp [add_off]

/-- between the rounds of PolySplits -/
def InvS (m lo gl r0 r1 k : Nat) (vb : Value) (zss : List (List Int)) (w wr : World) : Prop :=
  Spl lo gl m (M.lineS m (zss.take k) (List.replicate (10 * m) 0)) wr ∧ Rows .i16 r0 r1 wr vb zss ∧ gl + 2 ≤ r0 ∧ r1 ≤ wr.heap.size ∧ w.heap.size ≤ lo ∧ Below w.heap.size w wr
def InvJ (m lo gl r0 r1 k : Nat) (vb : Value) (zss : List (List Int)) (w wr : World) : Prop :=
  Joi lo gl m (M.lineJ m (zss.take k) (List.replicate (20 * m) 0)) wr ∧ Rows .i32 r0 r1 wr vb zss ∧ gl + 2 ≤ r0 ∧ r1 ≤ wr.heap.size ∧ w.heap.size ≤ lo ∧ Below w.heap.size w wr

theorem stepS {m lo gl r0 r1 k b off n c : Nat} {zss : List (List Int)} {w wr : World} (hm : m = 4 ∨ m = 8) (h : InvS m lo gl r0 r1 k (.slice (some ⟨b, off, none⟩) n c) zss w wr) (hk : k < zss.length) (hr : ∀ i, i < zss.length → (zss.getD i []).length = m) (hn : zss.length ≤ 100) :
    ∃ ua uc, wr.cell? ⟨b, off + k, none⟩ = some (.slice ua m uc) ∧ Calls Tryd.prog 12 #[.pointer (some ⟨gl + 1, 0, none⟩), .slice ua m uc] wr fun e w4 => ∃ xa xc, e = .returned (.tuple #[.slice xa m xc, .int .i64 0]) ∧
      Calls Tryd.prog 14 #[.slice (some ⟨b, off, none⟩) (k + 1) c, .int .i64 m] w4 fun e w5 => ∃ ya yc, e = .returned (.slice ya m yc) ∧
        Calls Tryd.prog 13 #[.slice xa m xc, .slice ya m yc] w5 fun e w6 => e = .returned (.bool true) ∧ InvS m lo gl r0 r1 (k + 1) (.slice (some ⟨b, off, none⟩) n c) zss w w6 := by
  obtain ⟨hS, hR, g1, g2, g3, bel⟩ := h
  obtain ⟨b', off', he, _, _, hx⟩ := hR.cell (by omega)
  cases he
  obtain ⟨u, hu, hru⟩ := hx k hk
  obtain ⟨ua, uc, rfl⟩ := hru.form
  have hlu := hr k hk
  rw [hlu] at hu
  have hru' : Reads .i16 r0 r1 wr (.slice ua m uc) (zss.getD k []) := by rw [← hlu]; rw [hlu]; rw [hlu] at hru; exact hru
  refine ⟨ua, uc, hu, (feedS hm hS hru' hlu g2 (.inl (by omega))).mono ?_⟩
  rintro e w4 ⟨xa, xc, rfl, hS4, bt4, hr4⟩
  have e1 : M.nx m (zss.getD k []) (M.lineS m (zss.take k) (List.replicate (10 * m) 0)) = M.lineS m (zss.take (k + 1)) (List.replicate (10 * m) 0) := by rw [M.take_snoc hk, M.lineS_snoc]
  rw [e1] at hS4 hr4
  have hR4 := hR.but bt4 g2 (.inl (by omega))
  have s4 := bt4.size
  refine ⟨xa, xc, rfl, (split_any hm (Rows.head hR4 (q := k + 1) (by omega) (by omega)) (by omega) (fun i hi => ?_) (by rw [List.length_take]; omega)).mono ?_⟩
  · rw [List.length_take] at hi
    have e : (zss.take (k + 1)).getD i [] = zss.getD i [] := by
      simp only [List.getD]
      rw [List.getElem?_take, if_pos (by omega)]
    rw [e]; exact hr i (by omega)
  rintro e w5 ⟨ya, yc, rfl, hr5, bel5⟩
  rw [← M.spl_congr (M.lineS_news m zss (k + 1))] at hr5
  have s5 := bel5.size
  refine ⟨ya, yc, rfl, (same32 _ _ _ _ _ _ _ _ (hr4.below bel5 (Nat.le_refl _)) hr5 (by rw [M.spl_length]; omega)).mono ?_⟩
  rintro e w6 ⟨rfl, q, rfl⟩
  refine ⟨rfl, (hS4.below bel5 hS4.2.1).drewN q, (hR4.below bel5 (by omega)).drewN q, g1, by show r1 ≤ w5.heap.size; omega, g3, below_drewN ?_ q⟩
  have b4 := below_but bel bt4 (Nat.le_refl _) (by have := hS.1; omega)
  have s0 := bel.size
  exact b4.trans (bel5.mono (by omega))

theorem stepJ {m lo gl r0 r1 k b off n c : Nat} {zss : List (List Int)} {w wr : World} (hm : m = 4 ∨ m = 8) (h : InvJ m lo gl r0 r1 k (.slice (some ⟨b, off, none⟩) n c) zss w wr) (hk : k < zss.length) (hr : ∀ i, i < zss.length → (zss.getD i []).length = m) (hn : zss.length ≤ 100) :
    ∃ ua uc, wr.cell? ⟨b, off + k, none⟩ = some (.slice ua m uc) ∧ Calls Tryd.prog 17 #[.pointer (some ⟨gl + 1, 0, none⟩), .slice ua m uc] wr fun e w4 => ∃ xa xc, e = .returned (.tuple #[.slice xa m xc, .int .i64 0]) ∧
      Calls Tryd.prog 19 #[.slice (some ⟨b, off, none⟩) (k + 1) c, .int .i64 m] w4 fun e w5 => ∃ ya yc, e = .returned (.slice ya m yc) ∧
        Calls Tryd.prog 18 #[.slice xa m xc, .slice ya m yc] w5 fun e w6 => e = .returned (.bool true) ∧ InvJ m lo gl r0 r1 (k + 1) (.slice (some ⟨b, off, none⟩) n c) zss w w6 := by
  obtain ⟨hS, hR, g1, g2, g3, bel⟩ := h
  obtain ⟨b', off', he, _, _, hx⟩ := hR.cell (by omega)
  cases he
  obtain ⟨u, hu, hru⟩ := hx k hk
  obtain ⟨ua, uc, rfl⟩ := hru.form
  have hlu := hr k hk
  rw [hlu] at hu hru
  refine ⟨ua, uc, hu, (feedJ hm hS hru hlu g2 (.inl (by omega))).mono ?_⟩
  rintro e w4 ⟨xa, xc, rfl, hS4, bt4, hr4⟩
  have e1 : M.nj m (zss.getD k []) (M.lineJ m (zss.take k) (List.replicate (20 * m) 0)) = M.lineJ m (zss.take (k + 1)) (List.replicate (20 * m) 0) := by rw [M.take_snoc hk, M.lineJ_snoc]
  rw [e1] at hS4 hr4
  have hR4 := hR.but bt4 g2 (.inl (by omega))
  have s4 := bt4.size
  refine ⟨xa, xc, rfl, (join_any hm (Rows.head hR4 (q := k + 1) (by omega) (by omega)) (by omega) (fun i hi => ?_) (by rw [List.length_take]; omega)).mono ?_⟩
  · rw [List.length_take] at hi
    have e : (zss.take (k + 1)).getD i [] = zss.getD i [] := by
      simp only [List.getD]
      rw [List.getElem?_take, if_pos (by omega)]
    rw [e]; exact hr i (by omega)
  rintro e w5 ⟨ya, yc, rfl, hr5, bel5⟩
  rw [← M.jn_congr (M.lineJ_allv m zss (k + 1))] at hr5
  have s5 := bel5.size
  refine ⟨ya, yc, rfl, (same16 _ _ _ _ _ _ _ _ (hr4.below bel5 (Nat.le_refl _)) hr5 (by rw [M.jn_length]; omega)).mono ?_⟩
  rintro e w6 ⟨rfl, q, rfl⟩
  refine ⟨rfl, (hS4.below bel5 hS4.2.1).drewN q, (hR4.below bel5 (by omega)).drewN q, g1, by show r1 ≤ w5.heap.size; omega, g3, below_drewN ?_ q⟩
  have b4 := below_but bel bt4 (Nat.le_refl _) (by have := hS.1; omega)
  have s0 := bel.size
  exact b4.trans (bel5.mono (by omega))

theorem open16 {H : Type} {enc' : TypeId × Value → H} {w : World} {base : Nat} {spare : Nat → Bool} {held : Bool} {fuel : Nat} {a : Option Addr} {len cap : Nat} {x : DataW H × List MemPlace}
    (h : DataW.trod enc' Tryd.prog w base spare held fuel 22 [.slice a len cap] = some x) : ∃ xs, Reads .i16 0 w.heap.size w (.slice a len cap) xs := by
  rcases Go.ChangeShapes.open_ints Tryd.underlying22 Tryd.underlying32 (by kernel_rfl) h with ⟨hcs, _⟩ | ⟨a', len', cap', zs, hcs, hb, hl, hm, hzl, _, hc, hw⟩
  · simp at hcs
    obtain ⟨rfl, rfl, rfl⟩ := hcs
    exact ⟨[], none, 0, rfl, Nat.le_refl _, fun z hz => by simp at hz, .inl rfl⟩
  · simp at hcs
    obtain ⟨rfl, rfl, rfl⟩ := hcs
    have hlm : len ≤ zs.length := by rw [hzl]; split <;> omega
    refine ⟨zs.take len, some a', cap, by rw [List.length_take, Nat.min_eq_left hlm], by rw [List.length_take]; omega, fun z hz => hw z (List.mem_of_mem_take hz), ?_⟩
    rcases Nat.eq_zero_or_pos len with h0 | h0
    · exact .inl (by rw [h0]; rfl)
    · obtain ⟨b, off, spot⟩ := a'
      have hspot : spot = none := by simpa [Addr.add] using World.cell?_spot (hc 0 (by omega))
      subst hspot
      refine .inr ⟨b, off, rfl, Nat.zero_le _, ?_, fun i hi => ?_⟩
      · have := World.block_lt_of_cell? w _ (hc 0 (by omega))
        simpa [Addr.add] using this
      · rw [List.length_take] at hi
        have k := hc i (by omega)
        rw [Go.WideShapes.add_plain] at k
        rw [k, M.getD_take (by omega)]
theorem open32 {H : Type} {enc' : TypeId × Value → H} {w : World} {base : Nat} {spare : Nat → Bool} {held : Bool} {fuel : Nat} {a : Option Addr} {len cap : Nat} {x : DataW H × List MemPlace}
    (h : DataW.trod enc' Tryd.prog w base spare held fuel 33 [.slice a len cap] = some x) : ∃ xs, Reads .i32 0 w.heap.size w (.slice a len cap) xs := by
  rcases Go.ChangeShapes.open_ints Tryd.underlying33 Tryd.underlying21 (by kernel_rfl) h with ⟨hcs, _⟩ | ⟨a', len', cap', zs, hcs, hb, hl, hm, hzl, _, hc, hw⟩
  · simp at hcs
    obtain ⟨rfl, rfl, rfl⟩ := hcs
    exact ⟨[], none, 0, rfl, Nat.le_refl _, fun z hz => by simp at hz, .inl rfl⟩
  · simp at hcs
    obtain ⟨rfl, rfl, rfl⟩ := hcs
    have hlm : len ≤ zs.length := by rw [hzl]; split <;> omega
    refine ⟨zs.take len, some a', cap, by rw [List.length_take, Nat.min_eq_left hlm], by rw [List.length_take]; omega, fun z hz => hw z (List.mem_of_mem_take hz), ?_⟩
    rcases Nat.eq_zero_or_pos len with h0 | h0
    · exact .inl (by rw [h0]; rfl)
    · obtain ⟨b, off, spot⟩ := a'
      have hspot : spot = none := by simpa [Addr.add] using World.cell?_spot (hc 0 (by omega))
      subst hspot
      refine .inr ⟨b, off, rfl, Nat.zero_le _, ?_, fun i hi => ?_⟩
      · have := World.block_lt_of_cell? w _ (hc 0 (by omega))
        simpa [Addr.add] using this
      · rw [List.length_take] at hi
        have k := hc i (by omega)
        rw [Go.WideShapes.add_plain] at k
        rw [k, M.getD_take (by omega)]

end Poly
end Go.Proofs.YtkmkackifihhjaaDoor
