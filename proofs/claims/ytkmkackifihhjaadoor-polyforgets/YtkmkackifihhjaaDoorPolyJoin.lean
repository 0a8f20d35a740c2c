/-
  Feeding a joiner; resets. Conditions: as told at each.
-/
import Derived.Test.YtkmkackifihhjaaDoorPolyFeed
namespace Go.Proofs.YtkmkackifihhjaaDoor
set_option linter.unusedVariables false
open Go.RowKit
namespace Poly
open Bank (Blk But)

/-- 'clear(s)', s a whole row -/
theorem run_clear_row {P : Program} (w : World) (t e ty : TypeId) (z : Value) (ht : P.underlying t = some (.slice e)) (hv : ∀ w, (zeroValue e).run P w = .ok z w) (hz : z.cells = #[z]) (h1 : z.oneCell' = true) (g n c : Nat) (cur : Array Value) (tt : TypeId)
    (hg : w.heap[g]? = some (.cells cur tt (0, 0))) (hs : cur.size = n) (hn : 0 < n) :
    (Builtin.clear_ #[t] ty #[.slice (some ⟨g, 0, none⟩) n c]).run P w = .ok (.tuple #[]) (w.setRow g (List.replicate n z).toArray) := by
  have hzc : (Builtin.zeroCells z.cells n).toList = List.replicate n z := by
    rw [hz]
    simp [Builtin.zeroCells]
    apply List.ext_getElem
    · simp
    · intro i h1 h2
      simp [Nat.mod_one]
  have hst := run_storeCells_at (P := P) g 0 tt (List.replicate n z) 0 cur w hg (by simp; omega) (by intro v hv'; rw [List.eq_of_mem_replicate hv']; exact h1)
  have hX : cur.toList.take (0 + 0) ++ List.replicate n z ++ cur.toList.drop (0 + 0 + (List.replicate n z).length) = List.replicate n z := by
    rw [List.drop_eq_nil_of_le (by simp; omega)]; simp
  rw [hX] at hst
  obtain ⟨m, rfl⟩ : ∃ m, n = m + 1 := ⟨n - 1, by omega⟩
  simp [Builtin.clear_, run_underlying ht, hv, hzc, hst]

theorem splitReset (lo gl m : Nat) (xs : List Int) (w : World) (h : Spl lo gl m xs w) (hm : 1 ≤ m) :
    Calls Tryd.prog 20 #[.pointer (some ⟨gl + 1, 0, none⟩)] w fun e w' => e = .returned (.tuple #[]) ∧ Spl lo gl m (List.replicate (10 * m) 0) w' ∧ But gl w w' := by
  obtain ⟨c0, c3⟩ := h.cells
  have hcl : ∀ ty, (Builtin.clear_ #[22] ty #[.slice (some ⟨gl, 0, none⟩) (10 * m) (10 * m)]).run Tryd.prog w = .ok (.tuple #[]) (w.setRow gl (List.replicate (10 * m) (.int .i16 0)).toArray) := fun ty =>
    run_clear_row w 22 32 ty (.int .i16 0) Tryd.underlying22 (fun w => by kernel_rfl) rfl rfl gl (10 * m) (10 * m) _ _ h.2.2.1 (by simp [enc_length]; exact h.2.2.2.1) (by omega)
  have hS : Spl lo gl m (List.replicate (10 * m) 0) (w.setRow gl (List.replicate (10 * m) (.int .i16 0)).toArray) :=
    h.relay (But.setRow (Bank.But.refl _ _) _) (by rw [enc_rep]; exact Blk.setRow h.2.2.1 _) (by simp) (zeros16 _)
  have HS : Hid (Spl _ _ _ _ _) := hS
  clear h hS
  generalize (List.replicate (10 * m) (Value.int .i16 0)).toArray = cs at *
  generalize 10 * m = M10 at *
  go_enter Tryd.func20, Tryd.ntmps20
  go_wp2
  go_end0
  exact ⟨rfl, HS.out, But.setRow (Bank.But.refl _ _) _⟩

theorem Joi.cells {lo gl m : Nat} {xs : List Int} {w : World} (h : Joi lo gl m xs w) : w.cell? ⟨gl + 1, 0, none⟩ = some (.int .i64 m) ∧ w.cell? ⟨gl + 1, 3, none⟩ = some (.slice (some ⟨gl, 0, none⟩) (20 * m) (20 * m)) := by
  obtain ⟨h0, h1, h2, h3, h4, vf, vw, h5, h6, h7⟩ := h
  exact ⟨h5.cell (o := 0) rfl, h5.cell (o := 3) rfl⟩
theorem Joi.seen {lo gl m : Nat} {xs : List Int} {w : World} (h : Joi lo gl m xs w) : Seen m (gl + 1) lo gl (.slice (some ⟨gl, 0, none⟩) (20 * m) (20 * m)) w := by
  obtain ⟨h0, h1, h2, h3, h4, vf, vw, h5, h6, h7⟩ := h
  exact ⟨by omega, by omega, h5.cell (o := 0) rfl, h5.cell (o := 3) rfl, vf, h5.cell (o := 1) rfl, h6⟩
theorem Joi.relay {lo gl m : Nat} {xs ys : List Int} {w w' : World} (h : Joi lo gl m xs w) (hb : But gl w w') (hy : Blk w' gl (enc .i32 ys).toArray 21) (hl : ys.length = 20 * m) (hf : M.fits32 ys) : Joi lo gl m ys w' := by
  obtain ⟨h0, h1, h2, h3, h4, vf, vw, h5, h6, h7⟩ := h
  have hs := hb.size
  exact ⟨h0, by omega, hy, hl, hf, vf, vw, hb.blk h5 (by omega), h6.but hb (by omega) (.inr (Nat.le_refl _)), h7.but hb (by omega) (.inr (Nat.le_refl _))⟩

theorem joinReset (lo gl m : Nat) (xs : List Int) (w : World) (h : Joi lo gl m xs w) (hm : 1 ≤ m) :
    Calls Tryd.prog 21 #[.pointer (some ⟨gl + 1, 0, none⟩)] w fun e w' => e = .returned (.tuple #[]) ∧ Joi lo gl m (List.replicate (20 * m) 0) w' ∧ But gl w w' := by
  obtain ⟨c0, c3⟩ := h.cells
  have hcl : ∀ ty, (Builtin.clear_ #[33] ty #[.slice (some ⟨gl, 0, none⟩) (20 * m) (20 * m)]).run Tryd.prog w = .ok (.tuple #[]) (w.setRow gl (List.replicate (20 * m) (.int .i32 0)).toArray) := fun ty =>
    run_clear_row w 33 21 ty (.int .i32 0) Tryd.underlying33 (fun w => by kernel_rfl) rfl rfl gl (20 * m) (20 * m) _ _ h.2.2.1 (by simp [enc_length]; exact h.2.2.2.1) (by omega)
  have hS : Joi lo gl m (List.replicate (20 * m) 0) (w.setRow gl (List.replicate (20 * m) (.int .i32 0)).toArray) :=
    h.relay (But.setRow (Bank.But.refl _ _) _) (by rw [enc_rep]; exact Blk.setRow h.2.2.1 _) (by simp) (zeros32 _)
  have HS : Hid (Joi _ _ _ _ _) := hS
  clear h hS
  generalize (List.replicate (20 * m) (Value.int .i32 0)).toArray = cs at *
  generalize 20 * m = M20 at *
  go_enter Tryd.func21, Tryd.ntmps21
  go_wp2
  go_end0
  exact ⟨rfl, HS.out, But.setRow (Bank.But.refl _ _) _⟩

theorem joinReset_nil (w : World) : Calls Tryd.prog 21 #[.pointer none] w fun e w' => e = .returned (.tuple #[]) ∧ w' = w := by
  go_enter Tryd.func21, Tryd.ntmps21
  go_wp2
  go_end0
  exact ⟨rfl, rfl⟩

theorem joinFeed_err (lo gl m : Nat) (xs : List Int) (a : Option Addr) (l c : Nat) (w : World) (h : Joi lo gl m xs w) (hl : l ≠ m) :
    Calls Tryd.prog 17 #[.pointer (some ⟨gl + 1, 0, none⟩), .slice a l c] w fun e w' => e = .returned (.tuple #[.slice none 0 0, .int .i64 1]) ∧ w' = w := by
  obtain ⟨c0, c3⟩ := h.cells
  have hne : ((l : Int) != (m : Int)) = true := by rw [bne_iff_ne]; omega
  clear h
  go_enter Tryd.func17, Tryd.ntmps17
  go_wp2
  go_ret2
  exact ⟨rfl, rfl⟩

theorem joinFeed_nil (v : Value) (w : World) :
    Calls Tryd.prog 17 #[.pointer none, v] w fun e w' => e = .returned (.tuple #[.slice none 0 0, .int .i64 3]) ∧ w' = w := by
  go_enter Tryd.func17, Tryd.ntmps17
  go_wp2
  go_ret2
  exact ⟨rfl, rfl⟩

theorem sample_any {m gl lo j : Nat} {l : List Int} {w : World} (hm : m = 4 ∨ m = 8) (h : Joi lo gl m l w) (hj : j < m) :
    Calls Tryd.prog 34 #[.pointer (some ⟨gl + 1, 0, none⟩), .int .i64 j] w fun e w' => e = .returned (.int .i16 (M.sat16 (M.rnd (M.fj m l j 5) 14))) ∧ ∃ n, w' = w.drewN n := by
  rcases hm with rfl | rfl
  · exact sample_4 (gl + 1) gl lo gl j l w h.seen h.2.2.1 h.2.2.2.1 h.2.2.2.2.1 hj
  · exact sample_8 (gl + 1) gl lo gl j l w h.seen h.2.2.1 h.2.2.2.1 h.2.2.2.2.1 hj

/-- the sums over a joiner's waves -/
theorem joiSums {m M2 gl lo lo' hi' : Nat} {l s : List Int} {vs : Value} {w : World} (hm : (m = 4 ∧ M2 = 8) ∨ (m = 8 ∧ M2 = 16)) (h : Joi lo gl m l w) (hr : Reads .i32 lo' hi' w vs s) (hl : s.length = m) (h1' : hi' ≤ w.heap.size) :
    Calls Tryd.prog 27 #[.pointer (some ⟨gl + 1, 0, none⟩), vs, .int .i64 15] w fun e w' => e = .returned (.slice (some ⟨w.heap.size, 0, none⟩) M2 M2) ∧
      Blk w' w.heap.size (enc .i32 (M.vs m s)).toArray 21 ∧ Below w.heap.size w w' ∧ w'.heap.size = w.heap.size + 1 := by
  obtain ⟨h0, h1, h2, h3, h4, vf, vw, h5, h6, h7⟩ := h
  have e := sums_any (gl + 1) lo gl lo' hi' vw _ s ((List.range (2 * m)).map (M.wj m)) 15 M2 w (h5.cell (o := 2) rfl) h7 hr (by
    intro i hi
    have hi : i < 2 * m := by simpa using hi
    have e : ((List.range (2 * m)).map (M.wj m)).getD i [] = M.wj m i := by simp [List.getD, hi]
    rw [e, M.wj_length, hl]) (by omega) (by omega) (by omega) (by simp; omega) (by simp; omega) (by omega) h1' (by simp; omega)
  refine e.mono ?_
  rintro e w' ⟨rfl, hb, hbel, hs⟩
  refine ⟨rfl, ?_, hbel, hs⟩
  have e2 : ((List.range M2).map fun i => M.sat32 (M.rnd (Dot.dotTo s (((List.range (2 * m)).map (M.wj m)).getD i []) s.length) 15)) = M.vs m s := by
    unfold M.vs
    rw [show M2 = 2 * m from by omega]
    apply List.map_congr_left
    intro i hi
    have hi := List.mem_range.1 hi
    have e : ((List.range (2 * m)).map (M.wj m)).getD i [] = M.wj m i := by simp [List.getD, hi]
    rw [e, hl]
  rw [e2] at hb
  exact hb

theorem joined (m : Nat) (s l : List Int) (hl : l.length = 20 * m) :
    (enc .i32 (l.take (2 * m) ++ l.take (20 * m - 2 * m))).toArray.toList.take 0 ++ enc .i32 (M.vs m s) ++ (enc .i32 (l.take (2 * m) ++ l.take (20 * m - 2 * m))).toArray.toList.drop (0 + (enc .i32 (M.vs m s)).length) = enc .i32 (M.nj m s l) := by
  rw [enc_length, M.vs_length]
  simp only [enc, List.take_zero, List.nil_append, Nat.zero_add]
  rw [← List.map_drop, ← List.map_append]
  congr 1
  unfold M.nj
  have ha : (l.take (2 * m)).length = 2 * m := by rw [List.length_take]; omega
  rw [List.drop_left' ha, List.take_append, M.vs_length]
  congr 1
  rw [List.take_of_length_le (by rw [M.vs_length]; omega)]

/-- what the joiner's line is moved to, and what comes into it -/
theorem joinMid {m M2 M20 lo gl lo' hi' : Nat} {s l : List Int} {vs : Value} {w : World} (hm : (m = 4 ∧ M2 = 8 ∧ M20 = 80) ∨ (m = 8 ∧ M2 = 16 ∧ M20 = 160)) (h : Joi lo gl m l w) (hs : Reads .i32 lo' hi' w vs s) (hsl : s.length = m) (h1 : hi' ≤ w.heap.size) (hg : gl < lo' ∨ hi' ≤ gl) :
    Calls Tryd.prog 33 #[.slice (some ⟨gl, 0, none⟩) M20 M20, .int .i64 M2] w.drew fun e w1 => e = .returned (.tuple #[]) ∧ w1.cell? ⟨gl + 1, 0, none⟩ = some (.int .i64 m) ∧ w1.cell? ⟨gl + 1, 3, none⟩ = some (.slice (some ⟨gl, 0, none⟩) M20 M20) ∧
      Calls Tryd.prog 27 #[.pointer (some ⟨gl + 1, 0, none⟩), vs, .int .i64 15] w1.drew fun e w2 => ∃ H, e = .returned (.slice (some ⟨H, 0, none⟩) M2 M2) ∧ w2.cell? ⟨gl + 1, 0, none⟩ = some (.int .i64 m) ∧ w2.cell? ⟨gl + 1, 3, none⟩ = some (.slice (some ⟨gl, 0, none⟩) M20 M20) ∧
        ∃ X : Array Value, (∀ ty, (Builtin.copy_ #[33, 33] ty #[.slice (some ⟨gl, 0, none⟩) M20 M20, .slice (some ⟨H, 0, none⟩) M2 M2]).run Tryd.prog w2 = .ok (goInt M2) (w2.setRow gl X)) ∧ Joi lo gl m (M.nj m s l) (w2.setRow gl X) ∧ But gl w (w2.setRow gl X) := by
  have hlen := h.2.2.2.1
  have e20 : 20 * m = M20 := by omega
  have e2 : 2 * m = M2 := by omega
  have hmv := moveOn32 gl M2 l w.drew h.2.2.1 (by omega) (by omega)
  rw [hlen, e20] at hmv
  refine hmv.mono ?_
  rintro e w1 ⟨rfl, hw1⟩
  have hb1 : But gl w w1 := by rw [hw1]; exact But.setRow (Bank.But.refl _ _).drew _
  have hB1 : Blk w1 gl (enc .i32 (l.take M2 ++ l.take (M20 - M2))).toArray 21 := by rw [hw1]; exact Blk.setRow (w := w.drew) h.2.2.1 _
  have hJ1 : Joi lo gl m (l.take M2 ++ l.take (M20 - M2)) w1 := h.relay hb1 hB1 (by simp; omega) (fun z hz => by
    rcases List.mem_append.1 hz with hz | hz <;> exact h.2.2.2.2.1 z (List.mem_of_mem_take hz))
  obtain ⟨k0, k3⟩ := hJ1.cells
  rw [e20] at k3
  have hr1 := hs.but hb1 h1 (by omega)
  have hs1 := hb1.size
  refine ⟨rfl, k0, k3, ?_⟩
  refine (joiSums (w := w1.drew) (M2 := M2) (by omega) hJ1 hr1 hsl (by show hi' ≤ w1.heap.size; omega)).mono ?_
  rintro e w2 ⟨rfl, hb2, hbel2, hs2⟩
  have hbel2' : Below w1.heap.size w1.drew w2 := hbel2
  have hJ2 : Joi lo gl m (l.take M2 ++ l.take (M20 - M2)) w2 := Joi.below (w := w1.drew) hJ1 hbel2' hJ1.2.1
  obtain ⟨j0, j3⟩ := hJ2.cells
  rw [e20] at j3
  have hb12 : But gl w w2 := But.below' hb1.drew hbel2' hs1
  refine ⟨w1.heap.size, rfl, j0, j3, (enc .i32 (M.nj m s l)).toArray, fun ty => ?_, ?_, But.setRow hb12 _⟩
  · have hX := joined m s l hlen
    rw [e2, e20] at hX
    have hlen2 : (enc .i32 (M.vs m s)).length = M2 := by rw [enc_length, M.vs_length]; exact e2
    have hcp := run_copy_row (P := Tryd.prog) w2 33 33 ty 21 gl 0 M20 M20 ⟨w1.heap.size, 0, none⟩ M2 M2 _ 21 (enc .i32 (M.vs m s)) Tryd.underlying33 (by kernel_rfl) hJ2.2.2.1
      (by rw [hlen2]; exact (Nat.min_eq_left (by omega)).symm) (fun j v hv => by
        rw [add_at]
        exact hb2.cell (by simpa using hv)) (by rw [hlen2]; simp [enc_length]; omega) (enc_one _ _)
    rw [hX, hlen2] at hcp
    exact hcp
  · exact hJ2.relay (But.setRow (Bank.But.refl _ _) _) (Blk.setRow hJ2.2.2.1 _) (M.nj_length hlen) (M.nj_fits h.2.2.2.2.1)

set_option maxRecDepth 100000 in
set_option maxHeartbeats 2000000 in
theorem joinFeed (m M2 M20 lo gl lo' hi' : Nat) (s l : List Int) (vs : Value) (w : World) (hm : (m = 4 ∧ M2 = 8 ∧ M20 = 80) ∨ (m = 8 ∧ M2 = 16 ∧ M20 = 160)) (h : Joi lo gl m l w) (hs : Reads .i32 lo' hi' w vs s) (hsl : s.length = m) (h1 : hi' ≤ w.heap.size) (hg : gl < lo' ∨ hi' ≤ gl) :
    Calls Tryd.prog 17 #[.pointer (some ⟨gl + 1, 0, none⟩), vs] w fun e w' => ∃ v, e = .returned (.tuple #[v, .int .i64 0]) ∧ Joi lo gl m (M.nj m s l) w' ∧ But gl w w' ∧ Reads .i16 w.heap.size w'.heap.size w' v (M.jn m (M.nj m s l)) := by
  obtain ⟨c0, c3⟩ := h.cells
  have e20 : 20 * m = M20 := by omega
  rw [e20] at c3
  have hmid := joinMid hm h hs hsl h1 hg
  obtain ⟨sa, sc, rfl⟩ := hs.form
  rw [hsl] at hmid ⊢
  have e2' : 2 * (m : Int) = (M2 : Int) := by omega
  have hne : ((m : Int) != (m : Int)) = false := by simp
  have m1 : (m : Int) ≤ 8 := by omega
  have m2 : (M2 : Int) ≤ 16 := by omega
  have m3 : (M20 : Int) ≤ 160 := by omega
  have hwr : IntKind.i64.wrap (M2 : Int) = (M2 : Int) := Bank.wrap_id _ (by omega) (by omega)
  have hm48 : Hid (m = 4 ∨ m = 8) := by show m = 4 ∨ m = 8; omega
  have hmk : ∀ wx : World, (Instr.makeSlice 22 (.int .i64 m) (.int .i64 m)).run Tryd.prog wx = .ok (.slice (some ⟨wx.heap.size, 0, none⟩) m m) (wx.alloc (.cells (enc .i16 (List.replicate m 0)).toArray 32)) := fun wx => make16 wx m (by omega)
  have HF : Hid (∀ (wx : World) f, Fill .i16 32 wx.heap.size m 0 f (wx.alloc (.cells (enc .i16 (List.replicate m 0)).toArray 32))) := fun wx f => Fill.start (Blk.new wx _ _)
  generalize (enc .i16 (List.replicate m 0)).toArray = c16 at hmk HF
  clear h hs hm e20 hsl
  go_enter Tryd.func17, Tryd.ntmps17
  go_wp2
  go_region_with (go_at_call 33; refine hmid.mono ?_; rintro e w1 ⟨rfl, k0, k3, hsum⟩; clear hmid c0 c3)
  all_goals
    go_wp2
    go_region_with (go_at_call 27; refine hsum.mono ?_; rintro e w2 ⟨H, rfl, j0, j3, X, hcp, hJ, hB⟩; have HJ : Hid (Joi _ _ _ _ _) := hJ; have HB : Hid (But _ _ _) := hB; clear hsum hJ hB)
    all_goals
      have d0 := (Joi.cells HJ.out).1
      have HF2 := HF.out (w2.setRow gl X) (fun j => M.sat16 (M.rnd (M.fj m (M.nj m s l) j 5) 14))
      have hmk2 := hmk (w2.setRow gl X)
      have HF3 : Hid (Fill _ _ _ _ _ _ _) := HF2
      clear hmk HF HF2 j0 j3
      generalize w2.setRow gl X = w3 at *
      go_wp2
      go_loopw [47] (fun i wr => ∃ k : Nat, k ≤ m ∧ i = .int .i64 k ∧ Fill .i16 32 w3.heap.size m k (fun j => M.sat16 (M.rnd (M.fj m (M.nj m s l) j 5) 14)) wr ∧ Below w3.heap.size w3 wr ∧ wr.heap.size = w3.heap.size + 1) (fun i _ => m - (intOf i).toNat)
      case atStart => exact ⟨0, by omega, rfl, HF3.out, (Below.refl _ _).alloc (Nat.le_refl _) _, by simp⟩
      case round =>
        clear hmk2 HF3 hcp d0
        obtain ⟨k, hk, rfl, hf, hbel, hsz⟩ := hrel
        have hJ : Joi lo gl m (M.nj m s l) wr := Joi.below HJ.out hbel (Joi.below HJ.out (Below.refl w3.heap.size w3) (And.left (And.right HJ.out))).2.1
        by_cases hlt : k < m
        · have hlt' : (k : Int) < m := by omega
          have hsm := sample_any hm48.out hJ hlt
          obtain ⟨⟨u, hu⟩, hfz⟩ := hf.cell hlt
          have HJ2 : Hid (Joi _ _ _ _ _) := hJ
          generalize hy : M.sat16 (M.rnd (M.fj m (M.nj m s l) k 5) 14) = y at hsm
          have HY : Hid _ := hy
          clear hJ hy
          go_wp2_with (go_at_call 34; refine hsm.mono ?_; rintro e w' ⟨rfl, n, rfl⟩)
          go_roundw
          case rel => exact ⟨k + 1, by omega, by go_num, (hf.drewN _).step hlt HY.out.symm, (below_drewN hbel _).setCell (Nat.le_refl _) _, by simpa [World.setCell] using hsz⟩
          case measure => simp [intOf]; omega
        · obtain rfl : k = m := by omega
          go_wp2
          go_ret2
          refine ⟨_, rfl, hJ, But.below' HB.out hbel (But.size HB.out), ?_⟩
          have hr := reads_blk hf.whole (fit16.2 (M.jn_fits k (M.nj k s l)))
          have hs0 := But.size HB.out
          simp only [List.length_map, List.length_range] at hr
          exact hr.mono hs0 (by omega)

end Poly
end Go.Proofs.YtkmkackifihhjaaDoor
