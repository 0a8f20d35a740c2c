import Derived.Maps.OwnIn
import Derived.Test.YtcaifpjbjghhaaaGreatDoorSubP42
import Derived.Test.YtcaifpjbjghhaaaGreatDoorSubP41
import Derived.Test.YtcaifpjbjghhaaaGreatDoorSubP15
import Derived.Test.YtcaifpjbjghhaaaGreatDoorSubP29
import Derived.Maps.AppendAt
import Derived.Test.YtcaifpjbjghhaaaGreatDoorSubP40
import Derived.Test.YtcaifpjbjghhaaaGreatDoorSubP32
import Derived.Test.YtcaifpjbjghhaaaGreatDoorSubP39
import Derived.Test.YtcaifpjbjghhaaaGreatDoorSubP22
/-
  Contract of split: the plane of one channel's samples. Conditions: as told at each.
-/
namespace Go.Proofs.YtcaifpjbjghhaaaGreatDoor
set_option linter.unusedVariables false
open Go.RowKit Go.Shelf
namespace M
def spT {N : Nat} (B : Nat) (x xs : List Int) (pre : List (Fin N)) : List Int × List (List Int) :=
  pre.foldl (fun s k => (nx B ((x.drop (k.val * B)).take B) s.1, s.2 ++ [spl B (nx B ((x.drop (k.val * B)).take B) s.1)])) (xs, [])
theorem spT_snoc {N : Nat} (B : Nat) (x xs : List Int) (pre : List (Fin N)) (k : Fin N) : spT B x xs (pre ++ [k]) = (nx B ((x.drop (k.val * B)).take B) (spT B x xs pre).1, (spT B x xs pre).2 ++ [spl B (nx B ((x.drop (k.val * B)).take B) (spT B x xs pre).1)]) := by simp [spT]
theorem spT_take {N : Nat} (B : Nat) (x xs : List Int) : ∀ q, q ≤ N → spT B x xs ((List.finRange N).take q) = (sst B x xs q, (List.range q).map fun k => spl B (sst B x xs (k + 1)))
  | 0, _ => rfl
  | q + 1, h => by
    rw [Sub.take_fin h, spT_snoc, spT_take B x xs q (by omega), List.range_succ, List.map_append]
    show (nx B ((x.drop (q * B)).take B) (sst B x xs q), _ ++ [spl B (nx B ((x.drop (q * B)).take B) (sst B x xs q))]) = _
    rw [Nat.mul_comm q B]
    rfl
theorem spT_len {N : Nat} (B : Nat) (x xs : List Int) (pre : List (Fin N)) : (spT B x xs pre).2.length = pre.length := by
  have key : ∀ (pre : List (Fin N)) (s : List Int × List (List Int)), (pre.foldl (fun (s : List Int × List (List Int)) (k : Fin N) => (nx B ((x.drop (k.val * B)).take B) s.1, s.2 ++ [spl B (nx B ((x.drop (k.val * B)).take B) s.1)])) s).2.length = s.2.length + pre.length := by
    intro pre
    induction pre with
    | nil => intro s; rfl
    | cons y ys ih => intro s; rw [List.foldl_cons, ih]; simp; omega
  have := key pre (xs, [])
  simpa [spT] using this
end M
namespace Sub
open Bank (Blk But)
open Poly (Reads cell_keep alloc_size Spl)
open _root_.Go.Proofs.YtcaifpjbjghhaaaGreatDoor.Form (fv fc bel1 blk_below)
attribute [local go_sem] Oper.semAt_some

theorem cell_obj {w : World} {b o : Nat} {u : Value} (h : w.cell? ⟨b, o, none⟩ = some u) : ∃ x : Obj, w.heap[b]? = some x ∧ x.isCells = true := by
  unfold World.cell? at h
  dsimp only at h
  split at h
  · rename_i c t f hc; exact ⟨_, hc, rfl⟩
  · cases h
theorem Reads.part {k : IntKind} {lo hi L c b off : Nat} {w : World} {zs : List Int} (h : Reads k lo hi w (.slice (some ⟨b, off, none⟩) L c) zs) {i m : Nat} (hi' : i + m ≤ L) (hm : 0 < m) : Reads k lo hi w (.slice (some ⟨b, off + i, none⟩) m m) ((zs.drop i).take m) := by
  obtain ⟨a', c', he, hc, hw, hx⟩ := h
  cases he
  rcases hx with h0 | ⟨b', o', h1, h2, h3, h4⟩
  · rw [h0] at hi'; simp at hi'; omega
  · cases h1
    have hl : ((zs.drop i).take m).length = m := by simp; omega
    refine ⟨_, m, by rw [hl], by rw [hl]; exact Nat.le_refl _, fun z hz => hw z (List.mem_of_mem_drop (List.mem_of_mem_take hz)), .inr ⟨b, off + i, rfl, h2, h3, fun j hj => ?_⟩⟩
    rw [hl] at hj
    have := h4 (i + j) (by omega)
    rw [← Nat.add_assoc] at this
    rw [this]
    congr 2
    rw [List.getD_eq_getElem?_getD, List.getD_eq_getElem?_getD, List.getElem?_take_of_lt hj, List.getElem?_drop]

theorem own_stand {w w' : World} {base e n : Nat} {v : Value} {xs : List Value} (h : w.ownsRow base e 1 v n xs) (hk : ∀ g, v.ownBlock = some g → w'.heap[g]? = w.heap[g]?) : w'.ownsRow base e 1 v n xs :=
  ⟨h.1, h.2.imp id fun ⟨g, cap, cur, k1, k2, k3, k4⟩ => ⟨g, cap, cur, k1, k2, (hk g (by rw [k1]; rfl)).trans k3, k4⟩⟩
def Gro (Bs C : Nat) (u : Value) (rows : List (List Int)) (w : World) : Prop :=
  ∃ us : List Value, w.ownsRow Bs 97 1 u rows.length us ∧ ∀ q x, us[q]? = some x → ∃ b o c, x = .slice (some ⟨b, o, none⟩) C c ∧ C ≤ c ∧ Bs ≤ b ∧ b < w.heap.size ∧ u.ownBlock ≠ some b ∧ ∀ j, j < C → w.cell? ⟨b, o + j, none⟩ = some (.int .i32 ((rows.getD q []).getD j 0))
section
variable {Bs C : Nat} {u u' : Value} {rows : List (List Int)} {w w' : World}
theorem Gro.nil (Bs C : Nat) (w : World) : Gro Bs C (.slice none 0 0) [] w := ⟨[], World.ownsRow_nil _ _ _ _, fun q x h => by simp at h⟩
theorem Gro.form (h : Gro Bs C u rows w) : ∃ a c, u = .slice a rows.length c := by
  obtain ⟨us, h1, _⟩ := h; exact Poly.own_form h1
theorem Gro.owns (h : Gro Bs C u rows w) : ∃ us, w.ownsRow Bs 97 1 u rows.length us := by
  obtain ⟨us, h1, _⟩ := h; exact ⟨us, h1⟩
theorem Gro.keep (h : Gro Bs C u rows w) (hs : w.heap.size ≤ w'.heap.size) (hk : ∀ k x, Bs ≤ k → w.heap[k]? = some x → x.isCells = true → w'.heap[k]? = some x) : Gro Bs C u rows w' := by
  obtain ⟨us, h1, h2⟩ := h
  refine ⟨us, ⟨h1.1, ?_⟩, fun q x hx => ?_⟩
  · rcases h1.2 with h | ⟨g, cap, cur, k1, k2, k3, k4⟩
    · exact .inl h
    · exact .inr ⟨g, cap, cur, k1, k2, hk g _ k2 k3 rfl, k4⟩
  · obtain ⟨b, o, c, e1, e2, e3, e4, e5, e6⟩ := h2 q x hx
    refine ⟨b, o, c, e1, e2, e3, by omega, e5, fun j hj => ?_⟩
    have hc := e6 j hj
    obtain ⟨y, hy, hy2⟩ := cell_obj hc
    exact (cell_keep ((hk b y e3 hy hy2).trans hy.symm)).trans hc
theorem Gro.snoc (h : Gro Bs C u rows w) {b o c M : Nat} {ys : List Int} (hc : C ≤ c) (hM : Bs ≤ M) (hb : M ≤ b) (hb2 : b < w.heap.size) (hu : ∀ g, u.ownBlock = some g → g < M) (hy : ∀ j, j < C → w.cell? ⟨b, o + j, none⟩ = some (.int .i32 (ys.getD j 0)))
    (hg : w.grownBy w' u.ownBlock) (hat : u'.ownBlock = u.ownBlock ∨ ∃ g0, u'.ownBlock = some g0 ∧ w.heap.size ≤ g0) (hown : ∀ us, w.ownsRow Bs 97 1 u rows.length us → w'.ownsRow Bs 97 1 u' (rows.length + 1) (us ++ [.slice (some ⟨b, o, none⟩) C c])) :
    Gro Bs C u' (rows ++ [ys]) w' := by
  obtain ⟨us, h1, h2⟩ := h
  have hl : us.length = rows.length := by have := h1.1; omega
  have hs := hg.size
  have key : ∀ b', b' < w.heap.size → u.ownBlock ≠ some b' → u'.ownBlock ≠ some b' := fun b' h0 h1 e => by
    rcases hat with h | ⟨g0, h, k⟩
    · exact h1 (h ▸ e)
    · rw [h] at e; cases e; omega
  refine ⟨us ++ [.slice (some ⟨b, o, none⟩) C c], by rw [List.length_append]; exact hown us h1, fun q y hq => ?_⟩
  rcases Nat.lt_or_ge q us.length with hlt | hge
  · rw [List.getElem?_append_left hlt] at hq
    obtain ⟨b', o', c', e1, e2, e3, e4, e5, e6⟩ := h2 q y hq
    refine ⟨b', o', c', e1, e2, e3, by omega, key b' e4 e5, fun j hj => ?_⟩
    rw [(cell_keep (hg.block b' e4 (fun e => e5 e.symm))).trans (e6 j hj)]
    congr 3
    rw [List.getD_eq_getElem?_getD, List.getD_eq_getElem?_getD, List.getElem?_append_left (by omega)]
  · rw [List.getElem?_append_right hge] at hq
    have h0 : q - us.length = 0 := by
      have := (List.getElem?_eq_some_iff.1 hq).1
      simp at this; omega
    rw [h0] at hq
    simp at hq
    subst hq
    have hne : u.ownBlock ≠ some b := fun e => by have := hu b e; omega
    refine ⟨b, o, c, rfl, hc, by omega, by omega, key b hb2 hne, fun j hj => ?_⟩
    rw [(cell_keep (hg.block b hb2 (fun e => hne e.symm))).trans (hy j hj)]
    congr 3
    rw [List.getD_eq_getElem?_getD, List.getElem?_append_right (by omega), show q - rows.length = 0 by omega]
    rfl
theorem Gro.b2 (h : Gro Bs C u rows w) {n : Nat} (hn : rows.length = n) (n1 : 1 ≤ n) : B2 .i32 Bs w.heap.size u n C (fun i j => (rows.getD i []).getD j 0) w := by
  obtain ⟨us, h1, h2⟩ := h
  have hl : us.length = n := by have := h1.1; omega
  rcases id h1.2 with ⟨_, h0⟩ | ⟨g, cap, cur, rfl, k2, k3, k4, _⟩
  · omega
  · refine ⟨g, 0, cap, by rw [hn], by omega, k2, (Array.getElem?_eq_some_iff.1 k3).1, fun i hi => ?_⟩
    have hu : us[i]? = some us[i] := List.getElem?_eq_getElem (by omega)
    have hc := h1.cells (g := g) rfl i _ hu
    obtain ⟨b, o, c, e1, e2, e3, e4, e5, e6⟩ := h2 i _ hu
    rw [Poly.add_at] at hc
    exact ⟨_, by rw [Nat.zero_add]; exact hc, b, o, c, e1, e2, e3, e4, e6⟩
end

structure Spi (lo gl B P : Nat) (W0 : World) (xs : List Int) (rows : List (List Int)) (W : World) : Prop where
  spl : Spl lo gl B xs W
  box : ∃ u, Blk W P #[u] 82 ∧ Gro W0.heap.size B u rows W
  os : W.os = W0.os
  tape : W.tape = W0.tape
  output : W.output = W0.output
  size : W0.heap.size ≤ W.heap.size
  block : ∀ k, k < W0.heap.size → k ≠ gl → k ≠ P → W.heap[k]? = W0.heap[k]?
theorem Spi.keep {lo gl B P : Nat} {W0 W W' : World} {xs : List Int} {rows : List (List Int)} (h : Spi lo gl B P W0 xs rows W) (os : W'.os = W.os) (tp : W'.tape = W.tape) (ou : W'.output = W.output) (hs : W.heap.size ≤ W'.heap.size) (hP : P < W0.heap.size) (hg : gl + 2 ≤ W0.heap.size)
    (hk : ∀ k, k < W0.heap.size → W'.heap[k]? = W.heap[k]?) (hk2 : ∀ k x, W0.heap.size ≤ k → W.heap[k]? = some x → x.isCells = true → W'.heap[k]? = some x) : Spi lo gl B P W0 xs rows W' := by
  obtain ⟨h1, ⟨u, h2, h3⟩, h4, h5, h6, h7, h8⟩ := h
  exact ⟨h1.keep hs fun b k0 k1 => hk b (by omega), ⟨u, (hk P hP).trans h2, h3.keep hs fun k x k0 => hk2 k x k0⟩, os.trans h4, tp.trans h5, ou.trans h6, by omega, fun k k0 k1 k2 => (hk k k0).trans (h8 k k0 k1 k2)⟩
theorem own_spi {β : Type} {lo gl B P : Nat} {W0 : World} {X : β → List Int} {R : β → List (List Int)} (hP : P < W0.heap.size) (hg : gl + 2 ≤ W0.heap.size) : OwnFrom W0.heap.size (fun (x : β) W => Spi lo gl B P W0 (X x) (R x) W) := fun s U V row hs hgr hr =>
  hs.keep hgr.os hgr.tape hgr.output hgr.size hP hg (fun k hk => hgr.block k (by have := hs.size; omega) (fun e => by have := (hr k e.symm).1; omega)) fun k x hk hx hc => by
    refine (hgr.block k (Array.getElem?_eq_some_iff.1 hx).1 (fun e => ?_)).trans hx
    obtain ⟨_, o, ho, hoc⟩ := hr k e.symm
    rw [hx] at ho
    cases ho
    rw [hc] at hoc
    cases hoc

end Sub
end Go.Proofs.YtcaifpjbjghhaaaGreatDoor

/-
  Contract of split, the walk. Conditions: as told at each.
-/
namespace Go.Proofs.YtcaifpjbjghhaaaGreatDoor
set_option linter.unusedVariables false
open Go.RowKit Go.Shelf
namespace Sub
open Bank (Blk But)
open Poly (Reads cell_keep alloc_size Spl)
open _root_.Go.Proofs.YtcaifpjbjghhaaaGreatDoor.Form (fv fc bel1 blk_below)
attribute [local go_sem] Oper.semAt_some

theorem slotsS (ts : Array Value) (p3 p7 p8 : Value) (hs : ts.size = 26) (h3 : ts[3]? = some p3) (h7 : ts[7]? = some p7) (h8 : ts[8]? = some p8) : ∃ t : Nat → Value, ts = #[t 0, t 1, t 2, p3, t 4, t 5, t 6, p7, p8, t 9, t 10, t 11, t 12, t 13, t 14, t 15, t 16, t 17, t 18, t 19, t 20, t 21, t 22, t 23, t 24, t 25] := by
  have e := slots_get ts 26 hs
  refine ⟨fun k => ts.getD k (.bool false), ?_⟩
  have e3 : ts.getD 3 (.bool false) = p3 := by rw [Array.getD_eq_getD_getElem?, h3]; rfl
  have e7 : ts.getD 7 (.bool false) = p7 := by rw [Array.getD_eq_getD_getElem?, h7]; rfl
  have e8 : ts.getD 8 (.bool false) = p8 := by rw [Array.getD_eq_getD_getElem?, h8]; rfl
  rw [← e3, ← e7, ← e8]
  exact e

set_option maxRecDepth 100000 in
set_option maxHeartbeats 4000000 in
theorem split_any (lo gl B N lo' hi' : Nat) (xs x : List Int) (v : Value) (w : World) (hB : B = 4 ∨ B = 8) (N1 : 1 ≤ N) (N16 : N ≤ 16) (h : Spl lo gl B xs w) (hx : Reads .i16 lo' hi' w v x) (hl : x.length = N * B) (h1 : hi' ≤ w.heap.size) (hg : gl < lo' ∨ hi' ≤ gl) :
    Calls Tryz.prog 87 #[.pointer (some ⟨gl + 1, 0, none⟩), v, .int .i64 (B : Int)] w fun e w' => ∃ u, e = .returned u ∧ Spl lo gl B (M.sst B x xs N) w' ∧ But gl w w' ∧ B2 .i32 w.heap.size w'.heap.size u N B (M.spF B x xs) w' := by
  have hNB : 1 ≤ N * B := Nat.mul_pos N1 (by omega)
  obtain ⟨vx, xc, rfl⟩ := hx.form
  obtain ⟨xb, xo, rfl, q0, q1, hcx⟩ := hx.cell (by omega)
  have hxc : x.length ≤ xc := by obtain ⟨a', c', he, hc, _⟩ := hx; cases he; exact hc
  obtain ⟨L, hxL⟩ : ∃ L, x.length = L := ⟨_, rfl⟩
  rw [hxL] at hx hcx hxc hl ⊢
  have HxL : Hid (x.length = L) := hxL
  have HlN : Hid (L = N * B) := hl
  have hsp := h.2.1
  have hsl := h.1
  obtain ⟨W0, hW0⟩ : ∃ W0, (((w.alloc (.cells #[.pointer (some ⟨gl + 1, 0, none⟩)] 143)).alloc (.cells #[.slice none 0 0] 82)).alloc (.cells #[.slice (some ⟨xb, xo, none⟩) L xc] 55)).alloc (.cells #[.int .i64 (B : Int)] 3) = W0 := ⟨_, rfl⟩
  have sz0 : W0.heap.size = w.heap.size + 4 := by rw [← hW0]; simp
  have bel : Below w.heap.size w W0 := by rw [← hW0]; exact (((bel1 _ _).alloc (bel1 _ _).size _).alloc (by simp; omega) _).alloc (by simp; omega) _
  have p0 : Blk W0 w.heap.size #[.pointer (some ⟨gl + 1, 0, none⟩)] 143 := by rw [← hW0]; exact (((Blk.new w _ _).alloc _).alloc _).alloc _
  have u0 : Blk W0 (w.heap.size + 1) #[.slice none 0 0] 82 := by
    rw [← hW0]
    have := Blk.new (w.alloc (.cells #[.pointer (some ⟨gl + 1, 0, none⟩)] 143)) #[.slice none 0 0] 82
    rw [alloc_size] at this
    exact (this.alloc _).alloc _
  have s0 : Blk W0 (w.heap.size + 2) #[.slice (some ⟨xb, xo, none⟩) L xc] 55 := by
    rw [← hW0]
    have := Blk.new ((w.alloc (.cells #[.pointer (some ⟨gl + 1, 0, none⟩)] 143)).alloc (.cells #[.slice none 0 0] 82)) #[.slice (some ⟨xb, xo, none⟩) L xc] 55
    rw [alloc_size, alloc_size] at this
    exact this.alloc _
  have n0 : Blk W0 (w.heap.size + 3) #[.int .i64 (B : Int)] 3 := by
    rw [← hW0]
    have := Blk.new (((w.alloc (.cells #[.pointer (some ⟨gl + 1, 0, none⟩)] 143)).alloc (.cells #[.slice none 0 0] 82)).alloc (.cells #[.slice (some ⟨xb, xo, none⟩) L xc] 55)) #[.int .i64 (B : Int)] 3
    rw [alloc_size, alloc_size, alloc_size] at this
    exact this
  have spl0 : Spl lo gl B xs W0 := h.below bel hsp
  have i0 : Spi lo gl B (w.heap.size + 1) W0 (M.spT (N := N) B x xs []).1 (M.spT (N := N) B x xs []).2 W0 := ⟨spl0, ⟨_, u0, Gro.nil _ _ _⟩, rfl, rfl, rfl, Nat.le_refl _, fun _ _ _ _ => rfl⟩
  have hx0 := hx.below bel h1
  have hch := fun wx => chunk_any xb xo xc B L (by omega) wx
  have HCh : Hid (∀ wx, Calls _ _ _ wx _) := hch
  clear h hx hch hcx hxL hl
  refine (callsIn_wide (n := 9)).1 (callsIn_of_wp_marks Tryz.func87 rfl trivial (wpIn_wide.2 ?_) rfl)
  simp only [Tryz.ntmps87, List.size_toArray, List.length_cons, List.length_nil, Nat.reduceAdd, Nat.reduceSub, Array.replicate_succ, Array.replicate_zero, List.push_toArray, List.append_toArray, List.nil_append, List.cons_append]
  go_wp2_with (go_at_call 147; refine (HCh.out _).mono ?_; clear HCh; rintro e w' ⟨rfl, hw⟩; rw [hw]; clear hw w')
  try rw [hW0]
  clear hW0
  refine (wpIn_wide (n := 9)).1 ?_
  refine wpIn_rangeFunc_ownH rfl (by omega) (gf := 189) (lb := #[.pointer (some ⟨w.heap.size + 2, 0, none⟩), .pointer (some ⟨w.heap.size + 3, 0, none⟩)]) rfl trivial (enters_of Tryz.func189 (by kernel_rfl) rfl)
    (chunk_stops (9 - 1) (w.heap.size + 2) (w.heap.size + 3) xb xo xc N B L HlN.out hxc (by omega) (by omega) N16 W0 s0 n0) KC.t (KC.b (by omega) (by omega)) (Below.refl _ _) (fun _ => rfl)
    (fun pre W => Spi lo gl B (w.heap.size + 1) W0 (M.spT B x xs pre).1 (M.spT B x xs pre).2 W ∧ pre.length ≤ 10000)
    (fun _ _ _ => False)
    (OwnFrom.and (own_spi (X := fun pre : List (Fin N) => (M.spT B x xs pre).1) (R := fun pre : List (Fin N) => (M.spT B x xs pre).2) (by omega) (by omega)) (ownFrom_pure _ _))
    (fun _ _ _ _ _ hs _ _ => hs)
    ⟨i0, by simp⟩
    (fun x a' W => ∃ ts : Array Value, a' = { tmps := ts, defers := [] } ∧ ts.size = 26 ∧ ts[3]? = some (.pointer (some ⟨w.heap.size, 0, none⟩)) ∧ ts[7]? = some (.pointer (some ⟨w.heap.size + 1, 0, none⟩)) ∧ ts[8]? = some (cv xb xo B x))
    (fun x a' _ X Y row hs hg hr => hs)
    ?_ ?_ ?_ ?_
  · rintro l pre x W K' ⟨hI, hp⟩ hK
    have hcv : cv xb xo B x = .slice (some ⟨xb, xo + x.val * B, none⟩) B B := rfl
    gi_wp2
    exact hK _ _ ((KeepsOthers.refl _).from _) ⟨rfl, rfl⟩ ⟨hI, hp⟩ ⟨_, rfl, rfl, rfl, rfl, rfl⟩
  · rintro l pre k a' W hl' _ ⟨hI, hp⟩ ⟨ts, rfl, hts, ht3, ht7, ht8⟩ hlt
    obtain ⟨t, rfl⟩ := slotsS ts _ _ _ hts ht3 ht7 ht8
    clear ht3 ht7 ht8 hts
    obtain ⟨spl, ⟨u, bu, gu⟩, ios, itp, iou, isz, ibk⟩ := hI
    have hkN := k.isLt
    have hkb : k.val * B + B ≤ L := by rw [HlN.out]; have := Nat.mul_le_mul_right B (Nat.succ_le_of_lt hkN); rw [Nat.succ_mul] at this; exact this
    have hxW : Reads .i16 lo' hi' W (.slice (some ⟨xb, xo, none⟩) L xc) x := hx0.keep fun b k0 k1 => ibk b (by omega) (by omega) (by omega)
    have hblk := Reads.part hxW hkb (by omega)
    have hbl : ((x.drop (k.val * B)).take B).length = B := by simp; rw [HxL.out]; omega
    obtain ⟨M2, M10, sp, hm⟩ : ∃ M2 M10 : Nat, ∃ sp : Int, (B = 4 ∧ M2 = 8 ∧ M10 = 40 ∧ sp = 17) ∨ (B = 8 ∧ M2 = 16 ∧ M10 = 80 ∧ sp = 18) := by
      rcases hB with h | h
      · exact ⟨8, 40, 17, .inl ⟨h, rfl, rfl, rfl⟩⟩
      · exact ⟨16, 80, 18, .inr ⟨h, rfl, rfl, rfl⟩⟩
    have hfd := Poly.splitFeed B M2 M10 lo gl lo' hi' sp _ _ _ W hm spl hblk hbl (by omega) hg
    have hsn := M.spT_snoc B x xs pre k
    obtain ⟨ys, hys⟩ : ∃ ys, M.spl B (M.nx B ((x.drop (k.val * B)).take B) (M.spT B x xs pre).1) = ys := ⟨_, rfl⟩
    obtain ⟨ln, hln⟩ : ∃ ln, M.nx B ((x.drop (k.val * B)).take B) (M.spT B x xs pre).1 = ln := ⟨_, rfl⟩
    obtain ⟨rows, hrw⟩ : ∃ rows, (M.spT B x xs pre).2 = rows := ⟨_, rfl⟩
    have hyl : ys.length = B := by rw [← hys]; simp [M.spl]
    rw [hys, hln, hrw] at hsn
    rw [hln] at hys
    rw [hln, hys] at hfd
    rw [hrw] at gu
    have hrl : rows.length < 10001 := by rw [← hrw, M.spT_len]; omega
    have HSn : Hid (M.spT B x xs (pre ++ [k]) = (ln, rows ++ [ys])) := hsn
    have hb3 := (ibk w.heap.size (by omega) (by omega) (by omega)).trans p0
    have hb3' : Blk W w.heap.size #[.pointer (some ⟨gl + 1, 0, none⟩)] 143 := hb3
    have c3 : W.cell? ⟨w.heap.size, 0, none⟩ = some (.pointer (some ⟨gl + 1, 0, none⟩)) := hb3'.cell rfl
    obtain ⟨au, cu, rfl⟩ := gu.form
    obtain ⟨us, hus⟩ := gu.owns
    have hfin : ∀ w3 v, But gl W w3 → Spl lo gl B ln w3 → Reads .i32 W.heap.size w3.heap.size w3 v ys → ∃ b o c, v = .slice (some ⟨b, o, none⟩) B c ∧ w3.cell? ⟨w.heap.size + 1, 0, none⟩ = some (.slice au rows.length cu) ∧ w3.frozen? ⟨w.heap.size + 1, 0, none⟩ = false ∧ w3.ownsRow W0.heap.size 97 1 (.slice au rows.length cu) rows.length us ∧ W0.heap.size ≤ w3.heap.size ∧
        (∀ w4 w5 v', w4 = w3.alloc (.cells #[.slice (some ⟨b, o, none⟩) B c] 97) → w5.ownsRow W0.heap.size 97 1 v' (rows.length + 1) (us ++ [.slice (some ⟨b, o, none⟩) B c]) → w4.grownBy w5 (Value.slice au rows.length cu).ownBlock → (v'.ownBlock = (Value.slice au rows.length cu).ownBlock ∨ v'.ownBlock = some w4.heap.size) →
          (w5.cell? ⟨w.heap.size + 1, 0, none⟩ = some (.slice au rows.length cu) ∧ w5.frozen? ⟨w.heap.size + 1, 0, none⟩ = false) ∧ Spi lo gl B (w.heap.size + 1) W0 ln (rows ++ [ys]) (w5.setCell ⟨w.heap.size + 1, 0, none⟩ v') ∧ KeepsFrom W0.heap.size W (w5.setCell ⟨w.heap.size + 1, 0, none⟩ v') ∧ KC (w.heap.size + 2) (w.heap.size + 3) W (w5.setCell ⟨w.heap.size + 1, 0, none⟩ v')) := by
      intro w3 v hbt hs3 hr3
      obtain ⟨av, cc, rfl⟩ := hr3.form
      obtain ⟨b, o, rfl, b0, b1, hc⟩ := hr3.cell (by omega)
      have hcap : ys.length ≤ cc := by obtain ⟨a', c', he, hc', _⟩ := hr3; cases he; exact hc'
      rw [hyl] at hc hcap ⊢
      have sw3 := hbt.size
      have bu3 : Blk w3 (w.heap.size + 1) #[.slice au rows.length cu] 82 := hbt.blk bu (by omega)
      have hus3 : w3.ownsRow W0.heap.size 97 1 (.slice au rows.length cu) rows.length us := own_stand hus fun g hg => hbt.block g (Qnt.own_lt hus hg) (by have := (Qnt.own_blk hus hg).1; omega)
      refine ⟨b, o, cc, rfl, bu3.cell rfl, bu3.free 0, hus3, by omega, ?_⟩
      intro w4 w5 v' hw4 hown hgr hat
      have s4 : w4.heap.size = w3.heap.size + 1 := by rw [hw4, alloc_size]
      have a4 : ∀ k, k < w3.heap.size → w4.heap[k]? = w3.heap[k]? := fun k hk => by rw [hw4]; exact Below.heap_alloc _ _ _ hk
      have s5 := hgr.size
      have hgu : ∀ g, (Value.slice au rows.length cu).ownBlock = some g → W0.heap.size ≤ g ∧ g < W.heap.size := fun g hg => ⟨(Qnt.own_blk hus hg).1, Qnt.own_lt hus hg⟩
      have hne : ∀ k, k < W0.heap.size → (Value.slice au rows.length cu).ownBlock ≠ some k := fun k hk e => by have := hgu k e; omega
      have chain : ∀ k, k < W.heap.size → k ≠ gl → (Value.slice au rows.length cu).ownBlock ≠ some k → k ≠ w.heap.size + 1 → (w5.setCell ⟨w.heap.size + 1, 0, none⟩ v').heap[k]? = W.heap[k]? := fun k h0 h1 h2 h3 =>
        (Below.heap_setCell _ _ _ _ (by show k ≠ w.heap.size + 1; omega)).trans ((hgr.block k (by omega) (fun e => h2 e.symm)).trans ((a4 k (by omega)).trans (hbt.block k h0 h1)))
      have bu5 : Blk w5 (w.heap.size + 1) #[.slice au rows.length cu] 82 := (hgr.block _ (by omega) (fun e => hne _ (by omega) e.symm)).trans ((a4 _ (by omega)).trans bu3)
      have g4 : Gro W0.heap.size B (.slice au rows.length cu) rows w4 := gu.keep (by omega) fun k x hk hx _ => by
        have hkl := (Array.getElem?_eq_some_iff.1 hx).1
        exact (a4 k (by omega)).trans ((hbt.block k hkl (by omega)).trans hx)
      have hus4 : w4.ownsRow W0.heap.size 97 1 (.slice au rows.length cu) rows.length us := own_stand hus3 fun g hg => a4 g (by have := hgu g hg; omega)
      have g5 : Gro W0.heap.size B v' (rows ++ [ys]) w5 := g4.snoc hcap isz b0 (by omega) (fun g hg => (hgu g hg).2) (fun j hj => (cell_keep (a4 b b1)).trans (hc j hj)) hgr (hat.imp id fun h => ⟨_, h, Nat.le_refl _⟩) fun us' h' => by rw [Qnt.own_uniq h' hus4]; exact hown
      have sF : (w5.setCell ⟨w.heap.size + 1, 0, none⟩ v').heap.size = w5.heap.size := by simp [World.setCell]
      refine ⟨⟨bu5.cell rfl, bu5.free 0⟩, ⟨?_, ⟨v', bu5.set 0 v', ?_⟩, ?_, ?_, ?_, by omega, ?_⟩, ⟨by omega, ?_⟩, ?_, ?_⟩
      · refine hs3.keep (by omega) fun k k0 k1 => ?_
        exact (Below.heap_setCell _ _ _ _ (by show k ≠ w.heap.size + 1; omega)).trans ((hgr.block k (by omega) (fun e => hne k (by omega) e.symm)).trans (a4 k (by omega)))
      · exact g5.keep (by omega) fun k x hk hx _ => (Below.heap_setCell _ _ _ _ (by show k ≠ w.heap.size + 1; omega)).trans hx
      · exact hgr.os.trans ((by rw [hw4]; rfl : w4.os = w3.os).trans (hbt.os.trans ios))
      · exact hgr.tape.trans ((by rw [hw4]; rfl : w4.tape = w3.tape).trans (hbt.tape.trans itp))
      · exact hgr.output.trans ((by rw [hw4]; rfl : w4.output = w3.output).trans (hbt.output.trans iou))
      · exact fun k k0 k1 k2 => (chain k (by omega) k1 (hne k k0) k2).trans (ibk k k0 k1 k2)
      · intro k ob hk hx hc0
        have hkl := (Array.getElem?_eq_some_iff.1 hx).1
        refine (chain k hkl (by omega) (fun e => ?_) (by omega)).trans hx
        obtain ⟨_, cur, hcu⟩ := Qnt.own_blk hus e
        rw [show W.heap[k]? = _ from hcu] at hx
        cases hx
        cases hc0
      · exact chain _ (by omega) (by omega) (hne _ (by omega)) (by omega)
      · exact chain _ (by omega) (by omega) (hne _ (by omega)) (by omega)
    have HFin : Hid _ := hfin
    obtain ⟨i0_, hi0, hz0, hz1, hz2⟩ := info_parts infoS32
    clear hfin hus gu spl ibk ios itp iou bu hb3 hb3' hblk hxW hsn hyl hys hln hrw hm
    unfold cv
    gi_wp2_with (first
      | (refine ⟨trivial, ?_⟩; gi_at_call 148; refine (CallsIn.inRound l (callsIn_wide.2 hfd)).mono ?_; clear hfd; rintro e w3 ⟨v3, rfl, hs3, hbt3, hr3⟩; obtain ⟨b, o, c, rfl, y1, y2, y3, y5, y4⟩ := HFin.out w3 v3 hbt3 hs3 hr3; clear hs3 hbt3 hr3 HFin; have Y4 : Hid _ := y4; have Y3 : Hid (World.ownsRow _ _ _ _ _ _ _) := y3; clear y4 y3)
      | (gi_at_builtin; refine wpListIn_append_own_at _ rfl (.tmp 21) (.tmp 23) 82 rfl W0.heap.size 97 i0_ (.slice none 0 0) 1 24 Tryz.underlying82 hi0 hz0 hz1 hz2 rfl (by decide) _ _ _ rfl (Y3.out.alloc _) ⟨_, 0, none⟩ 1 1 [.slice (some ⟨b, o, none⟩) B c] rfl rfl (cell_one_new _ _ _) ?c2 ?c3 ?c4 ?c5 ?_))
    case c2 => intro u hu; simp at hu; subst hu; rfl
    case c3 => unfold maxLen; omega
    case c4 => omega
    case c5 => simp; omega
    · intro v' w5 hown hgrow _ hat
      obtain ⟨av', cv', rfl⟩ := Poly.own_form hown
      obtain ⟨⟨z1, z2⟩, sp5, kf5, kc5⟩ := Y4.out _ w5 _ rfl (by rw [sz0]; exact hown) hgrow (by rw [alloc_size]; exact hat)
      have S5 : Hid _ := sp5
      have K5 : Hid _ := kf5
      have C5 : Hid _ := kc5
      clear sp5 kf5 kc5 hown hgrow hat Y4 Y3
      gi_wp2
      exact ⟨K5.out, C5.out, by rw [HSn.out]; exact S5.out, by simp; omega⟩
  · rintro D zs W hD rfl ⟨hI, hp⟩ hK
    have htk := M.spT_take (N := N) B x xs N (Nat.le_refl _)
    rw [take_all] at htk
    rw [htk] at hI
    obtain ⟨spl, ⟨u, bu, gu⟩, ios, itp, iou, isz, ibk⟩ := hI
    have c7 : W.cell? ⟨w.heap.size + 1, 0, none⟩ = some u := bu.cell rfl
    go_wp2
    refine ⟨by simp, .inl ⟨_, _, rfl, run_takeDeferred hK, ?_⟩⟩
    have hsF : (W.putObj D (.deferred none)).heap.size = W.heap.size := by simp
    have kp : ∀ k, k < W0.heap.size → (W.putObj D (.deferred none)).heap[k]? = W.heap[k]? := fun k hk => World.putObj_heap_other (by omega)
    refine ⟨u, by simp [results, Tryz.f87, go_sem], u, rfl, spl.keep (by omega) fun b k0 k1 => kp b (by omega), ⟨ios.trans bel.os, itp.trans bel.tape, iou.trans bel.output, by omega, fun b hb hb2 => (kp b (by omega)).trans ((ibk b (by omega) hb2 (by omega)).trans (bel.block b hb))⟩, ?_⟩
    have g2 : Gro W0.heap.size B u ((List.range N).map fun k => M.spl B (M.sst B x xs (k + 1))) (W.putObj D (.deferred none)) := gu.keep (by omega) fun k ob hk hx hc0 => by
      refine (World.putObj_heap_other (fun e => ?_)).trans hx
      subst e
      rw [hK] at hx
      cases hx
      cases hc0
    exact ((g2.b2 (n := N) (by simp) N1).mono (by omega) (Nat.le_refl _)).ext fun i hi j hj => by unfold M.spF; congr 1; rw [List.getD_eq_getElem?_getD, List.getElem?_map, List.getElem?_range hi]; rfl
  · rintro D c pre W _ _ h _
    exact h.elim

end Sub
end Go.Proofs.YtcaifpjbjghhaaaGreatDoor

/-
  An encoder in memory, and what stands while it is fed. Plain facts, no walk. Conditions: as told at each.
-/
namespace Go.Proofs.YtcaifpjbjghhaaaGreatDoor
set_option linter.unusedVariables false
open Go.RowKit
namespace Sub
open Bank (Blk But)
open Poly (Reads cell_keep alloc_size Spl Joi Rows)
open _root_.Go.Proofs.YtcaifpjbjghhaaaGreatDoor.Form (fv fc bel1 blk_below)

def oc (f : M.Fmt) (v : Value) : Array Value := #[.int .i64 f.c, .int .i64 f.r, .int .i64 f.h, .int .i64 f.b, .int .i64 f.k, .int .i64 f.m, .int .i64 f.j, .int .i64 f.p, .int .i64 f.l, .int .i64 f.y, v]
structure Enc (p l C B : Nat) (f : M.Fmt) (lo g : Nat → Nat) (L : Nat → List Int) (w : World) : Prop where
  obj : Blk w p (oc f (.slice (some ⟨l, 0, none⟩) C C)) 146
  spl : Spls l p C B lo g L w
  lp : l < p
structure Dec (p l C B : Nat) (f : M.Fmt) (lo g : Nat → Nat) (L : Nat → List Int) (w : World) : Prop where
  obj : Blk w p (oc f (.slice (some ⟨l, 0, none⟩) C C)) 179
  joi : Jois l p C B lo g L w
  lp : l < p
section
variable {p l C B : Nat} {f : M.Fmt} {lo g : Nat → Nat} {L L' : Nat → List Int} {w w' : World}
theorem Enc.keep (h : Enc p l C B f lo g L w) (hs : w.heap.size ≤ w'.heap.size) (hk : ∀ b, l ≤ b → b ≤ p → w'.heap[b]? = w.heap[b]?) : Enc p l C B f lo g L w' :=
  ⟨(hk p (by have := h.lp; omega) (Nat.le_refl _)).trans h.obj, h.spl.keep hs fun b h0 h1 => hk b h0 (by have := h.lp; omega), h.lp⟩
theorem Dec.keep (h : Dec p l C B f lo g L w) (hs : w.heap.size ≤ w'.heap.size) (hk : ∀ b, l ≤ b → b ≤ p → w'.heap[b]? = w.heap[b]?) : Dec p l C B f lo g L w' :=
  ⟨(hk p (by have := h.lp; omega) (Nat.le_refl _)).trans h.obj, h.joi.keep hs fun b h0 h1 => hk b h0 (by have := h.lp; omega), h.lp⟩
theorem Enc.below {H : Nat} (h : Enc p l C B f lo g L w) (hb : Below H w w') (hp : p < H) : Enc p l C B f lo g L w' := h.keep hb.size fun b _ h1 => hb.block b (by omega)
theorem Dec.below {H : Nat} (h : Dec p l C B f lo g L w) (hb : Below H w w') (hp : p < H) : Dec p l C B f lo g L w' := h.keep hb.size fun b _ h1 => hb.block b (by omega)
theorem Enc.ext (h : Enc p l C B f lo g L w) (e : ∀ c, c < C → L c = L' c) : Enc p l C B f lo g L' w :=
  ⟨h.obj, ⟨h.spl.top, fun c hc => by rw [← e c hc]; exact h.spl.obj c hc, h.spl.low, h.spl.ord⟩, h.lp⟩
theorem Enc.lt (h : Enc p l C B f lo g L w) : p < w.heap.size := h.obj.lt
theorem Dec.lt (h : Dec p l C B f lo g L w) : p < w.heap.size := h.obj.lt
theorem Enc.gl (h : Enc p l C B f lo g L w) {c : Nat} (hc : c < C) : l < g c ∧ g c + 2 ≤ p := by have := h.spl.low c hc; omega
theorem Dec.gl (h : Dec p l C B f lo g L w) {c : Nat} (hc : c < C) : l < g c ∧ g c + 2 ≤ p := by have := h.joi.low c hc; omega
theorem oc_cells {p : Nat} {v : Value} {t : TypeId} (h : Blk w p (oc f v) t) : w.cell? ⟨p, 0, none⟩ = some (.int .i64 f.c) ∧ w.cell? ⟨p, 1, none⟩ = some (.int .i64 f.r) ∧ w.cell? ⟨p, 2, none⟩ = some (.int .i64 f.h) ∧ w.cell? ⟨p, 3, none⟩ = some (.int .i64 f.b) ∧ w.cell? ⟨p, 4, none⟩ = some (.int .i64 f.k) ∧ w.cell? ⟨p, 5, none⟩ = some (.int .i64 f.m) ∧ w.cell? ⟨p, 6, none⟩ = some (.int .i64 f.j) ∧ w.cell? ⟨p, 7, none⟩ = some (.int .i64 f.p) ∧ w.cell? ⟨p, 8, none⟩ = some (.int .i64 f.l) ∧ w.cell? ⟨p, 9, none⟩ = some (.int .i64 f.y) ∧ w.cell? ⟨p, 10, none⟩ = some v :=
  ⟨h.cell rfl, h.cell rfl, h.cell rfl, h.cell rfl, h.cell rfl, h.cell rfl, h.cell rfl, h.cell rfl, h.cell rfl, h.cell rfl, h.cell rfl⟩
theorem Spls.top' {l E : Nat} (h : Spls l E C B lo g L w) {c : Nat} (hc : c < C) : w.cell? ⟨l, c, none⟩ = some (.pointer (some ⟨g c + 1, 0, none⟩)) := by
  obtain ⟨hd, h1, _, h2⟩ := h.top; exact h1.cell (h2 c hc)
theorem Jois.top' {l E : Nat} (h : Jois l E C B lo g L w) {c : Nat} (hc : c < C) : w.cell? ⟨l, c, none⟩ = some (.pointer (some ⟨g c + 1, 0, none⟩)) := by
  obtain ⟨hd, h1, _, h2⟩ := h.top; exact h1.cell (h2 c hc)
end

structure Fed (p l C B N gp q : Nat) (f : M.Fmt) (lo g : Nat → Nat) (L L' : Nat → List Int) (X : Nat → Nat → Nat → Int) (W wr : World) : Prop where
  enc : Enc p l C B f lo g (fun c => if c < q then L' c else L c) wr
  top : ∃ hd : Array Value, Blk wr gp hd 82 ∧ hd.size = C ∧ ∀ c, c < q → ∃ u, hd[c]? = some u ∧ B2 .i32 (gp + 1) wr.heap.size u N B (X c) wr
  lns : Lns g C W wr
  gp : p < gp
section
variable {p l C B N gp q : Nat} {f : M.Fmt} {lo g : Nat → Nat} {L L' : Nat → List Int} {X : Nat → Nat → Nat → Int} {W wr w2 : World}
theorem Fed.step (h : Fed p l C B N gp q f lo g L L' X W wr) (hq : q < C) (hb : But (g q) wr w2) (hx : Spl (lo q) (g q) B (L' q) w2) {u : Value} (hu : B2 .i32 wr.heap.size w2.heap.size u N B (X q) w2) (hW : W.heap.size ≤ gp) :
    Fed p l C B N gp (q + 1) f lo g L L' X W (w2.setCell ⟨gp, q, none⟩ u) := by
  obtain ⟨h1, ⟨hd, h2, h3, h4⟩, h5, h6⟩ := h
  have sz : (w2.setCell ⟨gp, q, none⟩ u).heap.size = w2.heap.size := by simp [World.setCell]
  have s2 := hb.size
  have hgq := h1.gl hq
  have hgp := h2.lt
  have h2' : Blk w2 gp hd 82 := hb.blk h2 (by omega)
  have set : ∀ k, k ≠ gp → (w2.setCell ⟨gp, q, none⟩ u).heap[k]? = w2.heap[k]? := fun k hk => Below.heap_setCell _ _ _ _ (by show k ≠ gp; exact hk)
  have he : Spls l p C B lo g (fun c => if c < q + 1 then L' c else L c) w2 := h1.spl.fed hq hb hx (by simp) fun c' hc' => by
    by_cases e : c' < q
    · rw [if_pos e, if_pos (by omega)]
    · rw [if_neg e, if_neg (by omega)]
  have hpb : Blk w2 p (oc f (.slice (some ⟨l, 0, none⟩) C C)) 146 := hb.blk h1.obj (by omega)
  refine ⟨⟨hpb.set_ne (by show p ≠ gp; omega) _, he.keep (by omega) fun b k0 k1 => set b (by have := h1.lp; omega), h1.lp⟩, ⟨_, h2'.set q u, by simpa using h3, fun c hc => ?_⟩, ?_, h6⟩
  · by_cases e : c = q
    · subst e
      refine ⟨u, by rw [Array.getElem?_setIfInBounds, if_pos rfl, if_pos (by omega)], ?_⟩
      rw [sz]
      exact (hu.keep fun b k0 k1 => set b (by omega)).mono (by omega) (Nat.le_refl _)
    · obtain ⟨u', hu', hb'⟩ := h4 c (by omega)
      refine ⟨u', by rw [Array.getElem?_setIfInBounds, if_neg (fun e' => e e'.symm)]; exact hu', ?_⟩
      rw [sz]
      exact (hb'.keep fun b k0 k1 => (set b (by omega)).trans (hb.block b k1 (by omega))).mono (Nat.le_refl _) s2
  · have := h5.size
    exact ⟨hb.os.trans h5.os, hb.tape.trans h5.tape, hb.output.trans h5.output, by rw [sz]; omega, fun k k0 k1 => (set k (by omega)).trans ((hb.block k (by omega) (k1 q hq)).trans (h5.block k k0 k1))⟩
theorem Fed.v3 (h : Fed p l C B N gp C f lo g L L' X W wr) : V3 .i32 wr.heap.size (.slice (some ⟨gp, 0, none⟩) C C) C N B X wr := by
  obtain ⟨hd, h2, h3, h4⟩ := h.top
  refine ⟨gp, 0, C, rfl, Nat.le_refl _, h2.lt, fun i hi => ?_⟩
  obtain ⟨u, hu, hb⟩ := h4 i hi
  exact ⟨u, by rw [Nat.zero_add]; exact h2.cell hu, hb.v2⟩
theorem Fed.start (h : Enc p l C B f lo g L W) {w2 : World} (hb : Below W.heap.size W w2) : Fed p l C B N w2.heap.size 0 f lo g L L' X W (w2.alloc (.cells (nils C) 82)) := by
  have hb2 := hb.alloc hb.size (.cells (nils C) 82)
  have := h.lt; have := hb.size
  exact ⟨(h.below hb2 h.lt).ext fun c _ => by simp, ⟨_, Blk.new _ _ _, nils_size C, fun c hc => absurd hc (by omega)⟩, Lns.of_below hb2, by omega⟩

structure KF (a gp C : Nat) (Wn wx : World) : Prop where
  size : Wn.heap.size ≤ wx.heap.size
  block : ∀ k, k < Wn.heap.size → k ≠ a → k ≠ gp → wx.heap[k]? = Wn.heap[k]?
  head : ∃ hd : Array Value, Blk wx gp hd 82 ∧ hd.size = C
theorem KF.cell {a : Nat} {Wn wx : World} (h : KF a gp C Wn wx) (hq : q < C) : (∃ u, wx.cell? ⟨gp, q, none⟩ = some u) ∧ wx.frozen? ⟨gp, q, none⟩ = false := by
  obtain ⟨_, _, hd, h1, h2⟩ := h
  exact ⟨⟨hd[q]'(by omega), h1.cell (by simp [h2, hq])⟩, h1.free q⟩
theorem KF.but {a : Nat} {Wn wx w2 : World} (h : KF a gp C Wn wx) (b : But a wx w2) (hz : a ≠ gp) : KF a gp C Wn w2 := by
  obtain ⟨h0, h1, hd, h2, h3⟩ := h
  exact ⟨Nat.le_trans h0 b.size, fun k k0 k1 k2 => (b.block k (by omega) k1).trans (h1 k k0 k1 k2), hd, b.blk h2 (Ne.symm hz), h3⟩
theorem KF.set {a : Nat} {Wn wx : World} (h : KF a gp C Wn wx) (v : Value) : KF a gp C Wn (wx.setCell ⟨gp, q, none⟩ v) := by
  obtain ⟨h0, h1, hd, h2, h3⟩ := h
  exact ⟨by simpa [World.setCell] using h0, fun k k0 k1 k2 => (Below.heap_setCell _ _ _ _ (by show k ≠ gp; exact k2)).trans (h1 k k0 k1 k2), _, h2.set q v, by simpa using h3⟩
theorem KF.blk {a : Nat} {Wn wx : World} (h : KF a gp C Wn wx) {k : Nat} {cur : Array Value} {t : TypeId} (hk : Blk Wn k cur t) (h1 : k ≠ a) (h2 : k ≠ gp) : Blk wx k cur t := (h.block k hk.lt h1 h2).trans hk
end

end Sub
end Go.Proofs.YtcaifpjbjghhaaaGreatDoor

/-
  Contract of a decoder's Play: planes that do not fit. Conditions: as told at each.
-/
namespace Go.Proofs.YtcaifpjbjghhaaaGreatDoor
set_option linter.unusedVariables false
open Go.RowKit
namespace Sub
open Bank (Blk But)
open _root_.Go.Proofs.YtcaifpjbjghhaaaGreatDoor.Form (fv fc Says bel1 blk_below)

theorem Play_no (hi p l C B : Nat) (f : M.Fmt) (lo g : Nat → Nat) (L : Nat → List Int) (v : Value) (n : Nat) (ln : Nat → Nat) (mn : Nat → Nat → Nat) (w : World) (he : Dec p l C B f lo g L w) (h : L3 hi v n ln mn w) (hh : hi ≤ w.heap.size) (hn : n ≤ 65536) (hl : ∀ i, i < n → ln i ≤ 65536 ∧ ∀ j, j < ln i → mn i j ≤ 65536) (hno : ¬ isL n ln mn f.h f.k f.b) :
    Calls Tryz.prog 33 #[.pointer (some ⟨p, 0, none⟩), v] w fun e w' => e = .returned (.tuple #[.slice none 0 0, .int .i64 1]) ∧ Below w.heap.size w w' := by
  have h1 := (arePlanes_any hi f v n ln mn w h hh hn hl).mono fun e w' (hs : Says _ w e w') => show e = .returned (.bool false) ∧ Below w.heap.size w w' by
    obtain ⟨b, rfl, hb, hq⟩ := hs
    cases b with
    | false => exact ⟨rfl, hb⟩
    | true => exact absurd (hq.1 rfl) hno
  obtain ⟨a, c, rfl⟩ := h.form
  have x0 := he.obj
  clear h hl hno he
  obtain ⟨c_, r_, h_, b_, k_, m_, j_, p_, l_, y_⟩ := f
  unfold fv at h1
  dsimp only at h1
  have xs := oc_cells x0; dsimp only at xs; obtain ⟨x0, x1, x2, x3, x4, x5, x6, x7, x8, x9, x10⟩ := xs
  go_enter Tryz.func33, Tryz.ntmps33
  go_wp2_with (go_at_call 43; refine h1.mono ?_; clear h1; rintro e w2 ⟨rfl, b2⟩; have B2 : Hid (Below w.heap.size w w2) := b2; clear b2)
  go_ret2
  exact ⟨rfl, B2.out⟩

end Sub
end Go.Proofs.YtcaifpjbjghhaaaGreatDoor

/-
  Contract of join: the samples of one channel's plane. Conditions: as told at each.
-/
namespace Go.Proofs.YtcaifpjbjghhaaaGreatDoor
set_option linter.unusedVariables false
open Go.RowKit
namespace Sub
open Bank (Blk But)
open Poly (Reads cell_keep alloc_size Joi)
open _root_.Go.Proofs.YtcaifpjbjghhaaaGreatDoor.Form (fv fc bel1 blk_below)

theorem infoI16 : (Tryz.prog.info? 182).map (fun i => (i.zero, i.size, i.bytes)) = some (some (.int .i16 0), 1, 2) := by kernel_rfl
def Jo (w : World) (lo gl B k : Nat) (F : Nat → Nat → Int) (l : List Int) (v : Value) (wr : World) : Prop :=
  Joi lo gl B (M.jst B F l k) wr ∧ But gl w wr ∧ wr.ownsRow w.heap.size 182 1 v (k * B) ((M.jsm B F l k).map (Value.int .i16))
theorem Jo.step {w wr w3 w5 : World} {lo gl B k : Nat} {F : Nat → Nat → Int} {l : List Int} {v v5 : Value} (h : Jo w lo gl B k F l v wr) (hb : But gl wr w3) (hj : Joi lo gl B (M.jst B F l (k + 1)) w3) (hg : gl + 2 ≤ w.heap.size)
    (ho : w5.ownsRow w.heap.size 182 1 v5 (k * B + B) (((M.jsm B F l k).map (Value.int .i16)) ++ (M.jn B (M.jst B F l (k + 1))).map (Value.int .i16))) (hgr : w3.grownBy w5 v.ownBlock) : Jo w lo gl B (k + 1) F l v5 w5 := by
  obtain ⟨_, hw, hov⟩ := h
  have hne : ∀ b, b < w.heap.size → v.ownBlock ≠ some b := fun b hb e => by have := (Qnt.own_blk hov e).1; omega
  have s1 := hw.size
  have s3 := hb.size
  have s5 := hgr.size
  refine ⟨hj.keep (by omega) fun b h0 h1 => hgr.block b (by omega) (fun e => hne b (by omega) e.symm), ⟨hgr.os.trans (hb.os.trans hw.os), hgr.tape.trans (hb.tape.trans hw.tape), hgr.output.trans (hb.output.trans hw.output), by omega, fun b h0 h1 => ?_⟩, ?_⟩
  · exact (hgr.block b (by omega) (fun e => hne b h0 e.symm)).trans ((hb.block b (by omega) h1).trans (hw.block b h0 h1))
  · rw [Nat.succ_mul, M.jsm, List.map_append]; exact ho
theorem jo_own {w wr w3 : World} {lo gl B k : Nat} {F : Nat → Nat → Int} {l : List Int} {v : Value} (h : Jo w lo gl B k F l v wr) (hb : But gl wr w3) (hg : gl + 2 ≤ w.heap.size) : w3.ownsRow w.heap.size 182 1 v (k * B) ((M.jsm B F l k).map (Value.int .i16)) :=
  own_stand h.2.2 fun g hg' => hb.block g (Qnt.own_lt h.2.2 hg') (by have := (Qnt.own_blk h.2.2 hg').1; omega)

set_option maxRecDepth 100000 in
set_option maxHeartbeats 4000000 in
theorem join_any (lo gl B N lo' hi' : Nat) (F : Nat → Nat → Int) (l : List Int) (v : Value) (w : World) (hB : B = 4 ∨ B = 8) (N1 : 1 ≤ N) (N16 : N ≤ 16) (h : Joi lo gl B l w) (hx : B2 .i32 lo' hi' v N B F w) (hF : Qnt.F32 F) (h1 : hi' ≤ w.heap.size) (hg : gl < lo' ∨ hi' ≤ gl) :
    Calls Tryz.prog 92 #[.pointer (some ⟨gl + 1, 0, none⟩), v] w fun e w' => ∃ u, e = .returned u ∧ Joi lo gl B (M.jst B F l N) w' ∧ But gl w w' ∧ w'.ownsRow w.heap.size 182 1 u (N * B) ((M.jsm B F l N).map (Value.int .i16)) := by
  obtain ⟨b, o, c, rfl, hc, hb0, hb1, hrow⟩ := hx
  have hg2 := h.2.1
  have hfd : ∀ k wr, k < N → But gl w wr → Joi lo gl B (M.jst B F l k) wr → ∃ u, wr.cell? ⟨b, o + k, none⟩ = some u ∧ Calls Tryz.prog 153 #[.pointer (some ⟨gl + 1, 0, none⟩), u] wr fun e w3 => ∃ b3 o3 c3, e = .returned (.tuple #[.slice (some ⟨b3, o3, none⟩) B c3, .int .i64 0]) ∧ Joi lo gl B (M.jst B F l (k + 1)) w3 ∧ But gl wr w3 ∧ (∀ j u, ((M.jn B (M.jst B F l (k + 1))).map (Value.int .i16))[j]? = some u → w3.cell? (Addr.add ⟨b3, o3, none⟩ j) = some u) := by
    intro k wr hk hbt hj
    obtain ⟨u, hu, hr⟩ := hrow k hk
    obtain ⟨M2, M20, hm⟩ : ∃ M2 M20 : Nat, (B = 4 ∧ M2 = 8 ∧ M20 = 80) ∨ (B = 8 ∧ M2 = 16 ∧ M20 = 160) := by
      rcases hB with h | h
      · exact ⟨8, 80, .inl ⟨h, rfl, rfl⟩⟩
      · exact ⟨16, 160, .inr ⟨h, rfl, rfl⟩⟩
    have kp : ∀ q, lo' ≤ q → q < hi' → wr.heap[q]? = w.heap[q]? := fun q q0 q1 => hbt.block q (by omega) (by omega)
    have hr' := (hr.keep kp).reads fun j => Poly.wf32.2 (hF k j)
    refine ⟨u, (cell_keep (kp b hb0 hb1)).trans hu, (Poly.joinFeed B M2 M20 lo gl lo' hi' (rl B (F k)) _ u wr hm hj hr' (rl_length _ _) (by have := hbt.size; omega) hg).mono ?_⟩
    rintro e w3 ⟨v3, rfl, hj3, hb3, hr3⟩
    have hl3 : (M.jn B (M.nj B (rl B (F k)) (M.jst B F l k))).length = B := M.jn_length _ _
    obtain ⟨a3, c3, rfl⟩ := hr3.form
    obtain ⟨b3, o3, rfl, _, _, hc3⟩ := hr3.cell (by omega)
    rw [hl3]
    refine ⟨b3, o3, c3, rfl, hj3, hb3, fun j u hj' => ?_⟩
    rw [List.getElem?_map] at hj'
    obtain ⟨z, hz, rfl⟩ := Option.map_eq_some_iff.1 hj'
    have hjl : j < (M.jn B (M.nj B (rl B (F k)) (M.jst B F l k))).length := (List.getElem?_eq_some_iff.1 hz).1
    rw [show (⟨b3, o3, none⟩ : Addr).add j = ⟨b3, o3 + j, none⟩ by unfold Addr.add; split <;> simp_all]
    rw [hc3 j (by omega), List.getD_eq_getElem?_getD]
    rw [show M.jst B F l (k + 1) = M.nj B (rl B (F k)) (M.jst B F l k) from rfl] at hz
    rw [hz]; rfl
  have HFd : Hid _ := hfd
  have st0 : Jo w lo gl B 0 F l (.slice none 0 0) w := ⟨h, ⟨rfl, rfl, rfl, Nat.le_refl _, fun _ _ _ => rfl⟩, by rw [Nat.zero_mul]; exact World.ownsRow_nil _ _ _ _⟩
  have St0 : Hid (Jo w lo gl B 0 F l (.slice none 0 0) w) := st0
  obtain ⟨i0, hi0, hz0, hz1, hz2⟩ := info_parts infoI16
  clear hfd hrow st0 h hF
  go_enter Tryz.func92, Tryz.ntmps92
  go_wp2
  go_loopw [5, 12] (fun s i wr => ∃ k : Nat, k ≤ N ∧ i = .int .i64 k ∧ Jo w lo gl B k F l s wr) (fun _ i _ => N - (intOf i).toNat)
  case atStart => exact ⟨0, by omega, rfl, St0.out⟩
  case round =>
    clear St0
    obtain ⟨k, hk, rfl, hj⟩ := hrel
    obtain ⟨sa, sc, rfl⟩ := Poly.own_form hj.2.2
    have HJ : Hid _ := hj
    by_cases hlt : k < N
    · have i1 : (k : Int) < (N : Int) := by omega
      obtain ⟨u, hu, hcall⟩ := HFd.out k wr hlt hj.2.1 hj.1
      have HC : Hid (Calls _ _ _ _ _) := hcall
      obtain ⟨KB, hKB⟩ : ∃ KB, k * B = KB := ⟨_, rfl⟩
      have hKB2 : KB ≤ 200 := by rw [← hKB]; have := Nat.mul_le_mul (show k ≤ 16 by omega) (show B ≤ 8 by omega); omega
      have hown := fun w3 hb => jo_own HJ.out (w3 := w3) hb hg2
      have hstep := fun w3 w5 v5 hb hjj ho hgr => Jo.step HJ.out (w3 := w3) (w5 := w5) (v5 := v5) hb hjj hg2 ho hgr
      rw [hKB] at hown hstep ⊢
      have HO : Hid (∀ w3, But gl wr w3 → World.ownsRow _ _ _ _ _ _ _) := hown
      have HS : Hid (∀ w3 w5 v5, But gl wr w3 → _) := hstep
      have hsz := hj.2.1.size
      have hb8 : B ≤ 8 := by omega
      have hb8' : 1 ≤ B := by omega
      obtain ⟨ys, hys⟩ : ∃ ys, M.jn B (M.jst B F l (k + 1)) = ys := ⟨_, rfl⟩
      have hyl : ys.length = B := by rw [← hys]; exact M.jn_length _ _
      rw [hys] at HC HS
      clear hcall hown hstep hj hKB HFd HJ hys hB h1 hg
      go_wp2_with (first
        | (go_at_call 153; refine HC.out.mono ?_; clear HC; rintro e w3 ⟨b3, o3, c3, rfl, hj3, hb3, hc3⟩; have hso := hb3.size; have HB3 : Hid (But gl wr w3) := hb3; have HJ3 : Hid (Joi _ _ _ _ w3) := hj3; have HC3 : Hid (∀ j u, _ → w3.cell? _ = some u) := hc3; have HOw : Hid (World.ownsRow _ _ _ _ _ _ _) := HO.out w3 hb3; clear hj3 hb3 hc3 HO)
        | (at_builtin; refine wpList_append_own_at _ rfl (.tmp 22) (.tmp 23) 55 rfl w.heap.size 182 i0 (.int .i16 0) 1 2 Tryz.underlying55 hi0 hz0 hz1 hz2 rfl (by decide) _ _ _ rfl HOw.out ⟨b3, o3, none⟩ B c3 (ys.map (Value.int .i16)) rfl ?c1 HC3.out ?c2 ?c3 ?c4 ?c5 ?_))
      skip
      case c1 => rw [List.length_map, hyl, Nat.mul_one]
      case c2 => intro u hu; simp at hu; obtain ⟨_, _, rfl⟩ := hu; rfl
      case c3 => unfold maxLen; omega
      case c4 => omega
      case c5 => omega
      · intro v5 w5 hown5 hgrow5 _ hat5
        have HN : Hid (Jo w lo gl B (k + 1) F l v5 w5) := HS.out w3 w5 v5 HB3.out HJ3.out hown5 hgrow5
        clear hown5 hgrow5 hat5
        go_wp2
        go_roundw
        case rel => exact ⟨k + 1, by omega, by go_num, HN.out⟩
        case measure => simp [intOf]; omega
    · obtain rfl : k = N := by omega
      clear hj HFd
      go_wp2
      go_ret
      exact ⟨_, rfl, HJ.out.1, HJ.out.2.1, HJ.out.2.2⟩

end Sub
end Go.Proofs.YtcaifpjbjghhaaaGreatDoor

/-
  Contract of a decoder's Play. Conditions: as told at each.
-/
namespace Go.Proofs.YtcaifpjbjghhaaaGreatDoor
set_option linter.unusedVariables false
open Go.RowKit
namespace Sub
open Bank (Blk But)
open Poly (Reads cell_keep alloc_size Spl Joi)
open _root_.Go.Proofs.YtcaifpjbjghhaaaGreatDoor.Form (fv fc bel1 blk_below of_drew)

theorem mkR16 (w : World) (n : Nat) (hn : n ≤ 65536) : (Instr.makeSlice 62 (.int .i64 n) (.int .i64 n)).run Tryz.prog w = .ok (.slice (some ⟨w.heap.size, 0, none⟩) n n) (w.alloc (.cells (nils n) 55)) := by
  obtain ⟨i0, hi, hz0, hz1, hz2⟩ := info_parts Poly.infoS16
  have := run_make (P := Tryz.prog) w 62 55 i0 (.slice none 0 0) Tryz.underlying62 hi hz0 .i64 .i64 n n (by omega) (by omega) (by rw [hz2]; omega) (by omega)
  rw [this, hz1]; unfold nils; rw [← Poly.madeCells_rep]; simp [Value.cells]
structure Pld (p l C B N gp q : Nat) (f : M.Fmt) (lo g : Nat → Nat) (L : Nat → List Int) (X : Nat → Nat → Nat → Int) (W wr : World) : Prop where
  dec : Dec p l C B f lo g (fun c => if c < q then M.jst B (X c) (L c) N else L c) wr
  top : ∃ hd : Array Value, Blk wr gp hd 55 ∧ hd.size = C ∧ ∀ c, c < q → ∃ u, hd[c]? = some u ∧ Reads .i16 (gp + 1) wr.heap.size wr u (M.jsm B (X c) (L c) N)
  lns : Lns g C W wr
  gp : p < gp
section
variable {p l C B N gp q : Nat} {f : M.Fmt} {lo g : Nat → Nat} {L : Nat → List Int} {X : Nat → Nat → Nat → Int} {W wr w2 : World}
theorem Pld.step (h : Pld p l C B N gp q f lo g L X W wr) (hq : q < C) (hb : But (g q) wr w2) (hx : Joi (lo q) (g q) B (M.jst B (X q) (L q) N) w2) {u : Value} (hu : Reads .i16 wr.heap.size w2.heap.size w2 u (M.jsm B (X q) (L q) N)) (hW : W.heap.size ≤ gp) :
    Pld p l C B N gp (q + 1) f lo g L X W (w2.setCell ⟨gp, q, none⟩ u) := by
  obtain ⟨h1, ⟨hd, h2, h3, h4⟩, h5, h6⟩ := h
  have sz : (w2.setCell ⟨gp, q, none⟩ u).heap.size = w2.heap.size := by simp [World.setCell]
  have s2 := hb.size
  have hgq := h1.gl hq
  have hgp := h2.lt
  have h2' : Blk w2 gp hd 55 := hb.blk h2 (by omega)
  have set : ∀ k, k ≠ gp → (w2.setCell ⟨gp, q, none⟩ u).heap[k]? = w2.heap[k]? := fun k hk => Below.heap_setCell _ _ _ _ (by show k ≠ gp; exact hk)
  have he : Jois l p C B lo g (fun c => if c < q + 1 then M.jst B (X c) (L c) N else L c) w2 := h1.joi.fed hq hb hx (by simp) fun c' hc' => by
    by_cases e : c' < q
    · rw [if_pos e, if_pos (by omega)]
    · rw [if_neg e, if_neg (by omega)]
  have hpb : Blk w2 p (oc f (.slice (some ⟨l, 0, none⟩) C C)) 179 := hb.blk h1.obj (by omega)
  refine ⟨⟨hpb.set_ne (by show p ≠ gp; omega) _, he.keep (by omega) fun b k0 k1 => set b (by have := h1.lp; omega), h1.lp⟩, ⟨_, h2'.set q u, by simpa using h3, fun c hc => ?_⟩, ?_, h6⟩
  · by_cases e : c = q
    · subst e
      refine ⟨u, by rw [Array.getElem?_setIfInBounds, if_pos rfl, if_pos (by omega)], ?_⟩
      rw [sz]
      exact (hu.keep fun b k0 k1 => set b (by omega)).mono (by omega) (Nat.le_refl _)
    · obtain ⟨u', hu', hb'⟩ := h4 c (by omega)
      refine ⟨u', by rw [Array.getElem?_setIfInBounds, if_neg (fun e' => e e'.symm)]; exact hu', ?_⟩
      rw [sz]
      exact (hb'.keep fun b k0 k1 => (set b (by omega)).trans (hb.block b k1 (by omega))).mono (Nat.le_refl _) s2
  · have := h5.size
    exact ⟨hb.os.trans h5.os, hb.tape.trans h5.tape, hb.output.trans h5.output, by rw [sz]; omega, fun k k0 k1 => (set k (by omega)).trans ((hb.block k (by omega) (k1 q hq)).trans (h5.block k k0 k1))⟩
theorem Pld.rows (h : Pld p l C B N gp C f lo g L X W wr) : Poly.Rows .i16 gp wr.heap.size wr (.slice (some ⟨gp, 0, none⟩) C C) ((List.range C).map fun c => M.jsm B (X c) (L c) N) := by
  obtain ⟨hd, h2, h3, h4⟩ := h.top
  refine ⟨some ⟨gp, 0, none⟩, C, by simp, by simp, .inr ⟨gp, 0, rfl, Nat.le_refl _, h2.lt, fun i hi => ?_⟩⟩
  have hi' : i < C := by simpa using hi
  obtain ⟨u, hu, hb⟩ := h4 i hi'
  refine ⟨u, by rw [Nat.zero_add]; exact h2.cell hu, ?_⟩
  rw [List.getD_eq_getElem?_getD, List.getElem?_map, List.getElem?_range hi']
  exact hb.mono (by omega) (Nat.le_refl _)
theorem Pld.start (h : Dec p l C B f lo g L W) {w2 : World} (hb : Below W.heap.size W w2) : Pld p l C B N w2.heap.size 0 f lo g L X W (w2.alloc (.cells (nils C) 55)) := by
  have hb2 := hb.alloc hb.size (.cells (nils C) 55)
  have := h.lt; have := hb.size
  exact ⟨⟨(h.below hb2 h.lt).obj, ⟨(h.below hb2 h.lt).joi.top, fun c hc => by simp only [Nat.not_lt_zero, if_false]; exact (h.below hb2 h.lt).joi.obj c hc, (h.below hb2 h.lt).joi.low, (h.below hb2 h.lt).joi.ord⟩, h.lp⟩, ⟨_, Blk.new _ _ _, nils_size C, fun c hc => absurd hc (by omega)⟩, Lns.of_below hb2, by omega⟩

end

set_option maxRecDepth 100000 in
set_option maxHeartbeats 8000000 in
theorem Play_ok (p l C B N r : Nat) (f : M.Fmt) (lo g : Nat → Nat) (L : Nat → List Int) (lo' hi' : Nat) (X : Nat → Nat → Nat → Int) (v : Value) (w : World) (hF : Sb f C B N r) (he : Dec p l C B f lo g L w) (hv : B3 .i32 lo' hi' v C N B X w) (hX : ∀ c, Qnt.F32 (X c)) (hh : hi' ≤ w.heap.size) (hg : ∀ c, c < C → g c < lo' ∨ hi' ≤ g c) :
    Calls Tryz.prog 33 #[.pointer (some ⟨p, 0, none⟩), v] w fun e w' => ∃ u, e = .returned (.tuple #[u, .int .i64 0]) ∧ Reads .i16 w.heap.size w'.heap.size w' u (M.wov C (N * B) ((List.range C).map fun c => M.jsm B (X c) (L c) N)) ∧ Dec p l C B f lo g (fun c => M.jst B (X c) (L c) N) w' ∧ Lns g C w w' := by
  have n16 := hF.n16
  have c2 := hF.c2
  have b8 := hF.b8
  have hpl := he.lt
  have hlp := he.lp
  have h1 : Calls Tryz.prog 43 #[fv f, v] w fun e w' => e = .returned (.bool true) ∧ Below w.heap.size w w' :=
    (arePlanes_any hi' f _ C (fun _ => N) (fun _ _ => B) w hv.v3.l3 hh (by omega) (fun i hi => ⟨by omega, fun j hj => by omega⟩)).mono fun e w' ⟨q, he, hb', hq⟩ => ⟨by rw [he, hq.2 ⟨hF.hC.symm, fun i _ => ⟨hF.hN.symm, fun j _ => hF.hB.symm⟩⟩], hb'⟩
  obtain ⟨vb, vo, vc, rfl, hvc, hv0, hv1, hvr⟩ := hv
  have hjn : ∀ q wr, q < C → Lns g C w wr → Joi (lo q) (g q) B (L q) wr → ∃ u, (∀ wx : World, wx.heap[vb]? = wr.heap[vb]? → wx.cell? ⟨vb, vo + q, none⟩ = some u) ∧ Calls Tryz.prog 92 #[.pointer (some ⟨g q + 1, 0, none⟩), u] wr fun e w2 => ∃ b2, e = .returned b2 ∧ (∃ a n c, b2 = .slice a n c) ∧ Joi (lo q) (g q) B (M.jst B (X q) (L q) N) w2 ∧ But (g q) wr w2 ∧ Reads .i16 wr.heap.size w2.heap.size w2 b2 (M.jsm B (X q) (L q) N) := by
    intro q wr hq hl hj
    obtain ⟨u, hu, hb2⟩ := hvr q hq
    have hlow := he.joi.low
    have hpz := he.lt
    have kp : ∀ k, lo' ≤ k → k < hi' → wr.heap[k]? = w.heap[k]? := fun k k0 k1 => hl.block k (by omega) fun c hc e => by have := hg c hc; omega
    refine ⟨u, fun wx hk => (cell_keep (hk.trans (kp vb hv0 hv1))).trans hu, (join_any (lo q) (g q) B N lo' hi' (X q) (L q) u wr b8 (by omega) (by omega) hj (hb2.keep kp) (hX q) (by have := hl.size; omega) (hg q hq)).mono ?_⟩
    rintro e w2 ⟨b2, rfl, k1, k2, k3⟩
    have hr := Poly.reads_own (k := .i16) (t := 182) (v := b2) (zs := M.jsm B (X q) (L q) N) (by rw [M.jsm_length]; exact k3) (Poly.fit16.2 (M.jsm_fits _ _ _ _))
    obtain ⟨a, c, hf⟩ := hr.form
    exact ⟨b2, rfl, ⟨a, _, c, hf⟩, k1, k2, hr⟩
  have HJn : Hid _ := hjn
  have hwv : ∀ wr gp, Pld p l C B N gp C f lo g L X w wr → Calls Tryz.prog 93 #[.slice (some ⟨gp, 0, none⟩) C C] wr fun e w3 => ∃ a n c, e = .returned (.tuple #[.slice a n c, .int .i64 0]) ∧ Reads .i16 wr.heap.size w3.heap.size w3 (.slice a n c) (M.wov C (N * B) ((List.range C).map fun c => M.jsm B (X c) (L c) N)) ∧ Dec p l C B f lo g (fun c => M.jst B (X c) (L c) N) w3 ∧ Lns g C w w3 := by
    intro wr gp hp
    have hNB2 : N * B ≤ 128 := by have := Nat.mul_le_mul (show N ≤ 16 by omega) (show B ≤ 8 by omega); omega
    have hget : ∀ k, ((List.range C).map fun c => M.jsm B (X c) (L c) N).getD k [] = if k < C then M.jsm B (X k) (L k) N else [] := fun k => by
      by_cases h : k < C
      · rw [if_pos h, List.getD_eq_getElem?_getD, List.getElem?_map, List.getElem?_range h]; rfl
      · rw [if_neg h, List.getD_eq_getElem?_getD, List.getElem?_eq_none (by simp; omega)]; rfl
    refine (Pcm.Weave_ok gp wr.heap.size C (N * B) _ _ wr hp.rows (Nat.le_refl _) c2 (by simp) (fun k hk => by rw [hget, if_pos hk, M.jsm_length]) (fun k => ?_) (by omega)).mono ?_
    · rw [hget]; split
      · exact M.jsm_fits _ _ _ _
      · intro z hz; cases hz
    · rintro e w3 ⟨v3, rfl, hr, hb⟩
      obtain ⟨a, c, rfl⟩ := hr.form
      have hd := hp.dec.below hb hp.dec.lt
      refine ⟨a, _, c, rfl, hr, ⟨hd.obj, ⟨hd.joi.top, fun c hc => ?_, hd.joi.low, hd.joi.ord⟩, hd.lp⟩, hp.lns.below hb⟩
      have := hd.joi.obj c hc
      simp only [hc, if_true] at this
      exact this
  have HWv : Hid _ := hwv
  have HOb : Hid (∀ wx, Below w.heap.size w wx → Blk wx p (oc f (.slice (some ⟨l, 0, none⟩) C C)) 179) := fun wx hb => blk_below hb he.obj hpl
  have HSt : Hid (∀ w3, Below w.heap.size w w3 → Pld p l C B N w3.heap.size 0 f lo g L X w (w3.alloc (.cells (nils C) 55))) := fun w3 hb => Pld.start he hb
  have x0 := he.obj
  have HJ0 : Hid (Jois l p C B lo g L w) := he.joi
  have HgV : Hid (∀ c, c < C → g c < lo' ∨ hi' ≤ g c) := hg
  have hN := hF.hN
  have hC := hF.hC
  have hBB := hF.hB
  clear hjn hwv hF he hg hX hvr
  obtain ⟨c_, r_, h_, b_, k_, m_, j_, p_, l_, y_⟩ := f
  obtain rfl : h_ = C := hC
  obtain rfl : b_ = B := hBB
  obtain rfl : k_ = N := hN
  unfold fv at h1
  dsimp only at h1
  have xs := oc_cells x0; dsimp only at xs; obtain ⟨x0, x1, x2, x3, x4, x5, x6, x7, x8, x9, x10⟩ := xs
  have hmk := fun wx => mkR16 wx C (by omega)
  obtain ⟨cs, hcs⟩ : ∃ cs, nils C = cs := ⟨_, rfl⟩
  rw [hcs] at HSt
  simp only [hcs] at hmk
  clear hcs
  have i1 : (0 : Int) < C := by omega
  have i2 : (C : Int) ≤ 2 := by omega
  have i3 : 0 < C := by omega
  have i4 : (0 : Int) ≤ C := by omega
  go_enter Tryz.func33, Tryz.ntmps33
  go_wp2_with (first
    | (go_at_call 43; refine h1.mono ?_; clear h1; rintro e w2 ⟨rfl, b2⟩; clear x0 x1 x2 x3 x4 x5 x6 x7 x8 x9 x10; have xs := oc_cells (HOb.out w2 b2); dsimp only at xs; obtain ⟨x0, x1, x2, x3, x4, x5, x6, x7, x8, x9, x10⟩ := xs; have B2 : Hid (Below w.heap.size w w2) := b2; have S0 : Hid (Pld _ _ _ _ _ _ _ _ _ _ _ _ _ _) := HSt.out w2 b2; have y10 := (oc_cells S0.out.dec.obj).2.2.2.2.2.2.2.2.2.2; clear b2 HSt))
  have hb2 := B2.out
  have z2 := hb2.size
  clear x0 x1 x2 x3 x4 x5 x6 x7 x8 x9 x10 y10 hmk
  go_loopw [26] (fun i wr => ∃ q : Nat, q ≤ C ∧ i = .int .i64 q ∧ Pld p l C B N w2.heap.size q ⟨c_, r_, C, B, N, m_, j_, p_, l_, y_⟩ lo g L X w wr) (fun i _ => C - (intOf i).toNat)
  case atStart => exact ⟨0, by omega, rfl, S0.out⟩
  case round =>
    clear S0
    obtain ⟨q, hq, rfl, hf⟩ := hrel
    have HF : Hid _ := hf
    by_cases hlt : q < C
    · have hlt' : (q : Int) < C := by omega
      have t9 : wr.cell? ⟨l, q, none⟩ = some (.pointer (some ⟨g q + 1, 0, none⟩)) := hf.dec.joi.top' hlt
      have spq : Joi (lo q) (g q) B (L q) wr := by
        have := hf.dec.joi.obj q hlt
        simp only [Nat.lt_irrefl, if_false] at this
        exact this
      obtain ⟨u, hu, hcall⟩ := HJn.out q wr hlt hf.lns spq
      have c9 := hu wr rfl
      have HC : Hid (Calls _ _ _ _ _) := hcall
      have hgq := hf.dec.gl hlt
      have hgp := hf.gp
      have htp : ∀ w5, But (g q) wr w5 → (∃ uu, w5.cell? ⟨w2.heap.size, q, none⟩ = some uu) ∧ w5.frozen? ⟨w2.heap.size, q, none⟩ = false := fun w5 hb => by
        obtain ⟨hd, k1, k2, _⟩ := hf.top
        have k3 : Blk w5 w2.heap.size hd 55 := hb.blk k1 (by omega)
        exact ⟨⟨hd[q]'(by omega), k3.cell (by simp [k2, hlt])⟩, k3.free q⟩
      have HTp : Hid _ := htp
      clear hf spq hu hcall htp
      go_wp2_with (first
        | (go_at_call 92; refine HC.out.mono ?_; clear HC; rintro e w5 ⟨u5, rfl, ⟨a5, n5, c5, rfl⟩, k1, k2, k3⟩; obtain ⟨⟨uu, hu⟩, hfz⟩ := HTp.out w5 k2; have HS : Hid (Pld _ _ _ _ _ _ _ _ _ _ _ _ _ _) := HF.out.step hlt k2 k1 k3 z2; clear k1 k2 k3))
      go_roundw
      case rel => exact ⟨q + 1, by omega, by go_num, HS.out⟩
      case measure => simp [intOf]; omega
    · obtain rfl : C = q := by omega
      have hcall := HWv.out wr w2.heap.size hf
      have HC : Hid (Calls _ _ _ _ _) := hcall
      clear hf hcall HWv
      go_wp2_with (go_at_call 93; refine HC.out.mono ?_; clear HC; rintro e w5 ⟨a5, n5, c5, rfl, k1, k2, k3⟩; have HR : Hid (Reads _ _ _ _ _ _) := k1; have HD : Hid _ := k2; have HL : Hid _ := k3; clear k1 k2 k3)
      go_ret2
      exact ⟨_, rfl, HR.out.mono (by have := HF.out.lns.size; omega) (Nat.le_refl _), HD.out, HL.out⟩

end Sub
end Go.Proofs.YtcaifpjbjghhaaaGreatDoor

/-
  Contract of an encoder's Feed. Conditions: as told at each.
-/
namespace Go.Proofs.YtcaifpjbjghhaaaGreatDoor
set_option linter.unusedVariables false
open Go.RowKit
namespace Sub
open Bank (Blk But)
open Poly (Reads cell_keep alloc_size Spl Joi)
open _root_.Go.Proofs.YtcaifpjbjghhaaaGreatDoor.Form (fv fc bel1 blk_below of_drew)

set_option maxRecDepth 100000 in
set_option maxHeartbeats 8000000 in
theorem Feed_ok (p l C B N r n : Nat) (f : M.Fmt) (lo g : Nat → Nat) (L : Nat → List Int) (sl : Int) (lo' hi' : Nat) (x : List Int) (v : Value) (w : World) (hT : ∀ wx, Lns g C w wx → Alloc.Tabs wx) (hF : Sb f C B N r) (he : Enc p l C B f lo g L w) (hx : Reads .i16 lo' hi' w v x) (hh : hi' ≤ w.heap.size) (hl : x.length = C * (N * B)) (hS : Sh f C B r (M.anS f N B (M.enX B N C x L)) sl) (hn : M.pay f = n) :
    Calls Tryz.prog 30 #[.pointer (some ⟨p, 0, none⟩), v] w fun e w' => ∃ u, e = .returned (.tuple #[u, .int .i64 0]) ∧ w'.ownsRow w.heap.size 5 1 u n ((M.frb f C B N r sl (M.an f C B N r sl (M.enX B N C x L)) n).map fun x : Nat => Value.int .u8 x) ∧ Enc p l C B f lo g (M.enL B N C x L) w' ∧ Lns g C w w' := by
  have n16 := hF.n16
  have c2 := hF.c2
  have b8 := hF.b8
  have hpl := he.lt
  have hlp := he.lp
  obtain ⟨NB, hNB⟩ : ∃ NB, N * B = NB := ⟨_, rfl⟩
  have HNB : Hid (N * B = NB) := hNB
  have hNB1 : 1 ≤ NB := by rw [← hNB]; exact Nat.mul_pos (by omega) (by omega)
  have hNB2 : NB ≤ 128 := by rw [← hNB]; have := Nat.mul_le_mul (show N ≤ 16 by omega) (show B ≤ 8 by omega); omega
  have hxl : x.length ≤ 65536 := by
    rw [hl, hNB]; rcases c2 with h | h <;> rw [h] <;> omega
  have h1 := Pcm.Part_ok lo' hi' C NB v x w hx hh hxl c2 (by rw [hl, hNB])
  have h2 : ∀ wx, Calls Tryz.prog 86 #[fv f] wx fun e w' => e = .returned (.int .i64 (NB : Int)) ∧ Below wx.heap.size wx w' := fun wx => by
    have := Form.Samples_ok f wx (.inl hF.ok)
    have e : M.sam f = (NB : Int) := by unfold M.sam; rw [if_pos hF.ok.1, hF.hB, hF.hN, ← hNB, Int.mul_comm]; push_cast; rfl
    rw [e] at this
    exact this
  have hpart : ∀ w2 v', Poly.Rows .i16 w.heap.size w2.heap.size w2 v' (M.chs NB x C) → Below w.heap.size w w2 → ∃ cb co cc, v' = .slice (some ⟨cb, co, none⟩) C cc ∧ w.heap.size ≤ cb ∧ cb < w2.heap.size ∧ ∀ c, c < C → ∃ xb xo xc, ∀ wx : World, (∀ k, w.heap.size ≤ k → k < w2.heap.size → wx.heap[k]? = w2.heap[k]?) →
      wx.cell? ⟨cb, co + c, none⟩ = some (.slice (some ⟨xb, xo, none⟩) NB xc) ∧ Reads .i16 w.heap.size w2.heap.size wx (.slice (some ⟨xb, xo, none⟩) NB xc) (M.chn NB x c C) := by
    intro w2 v' hr hb
    obtain ⟨a, c0, rfl, _⟩ := hr.form
    have hcl : (M.chs NB x C).length = C := M.chs_length _ _ _
    obtain ⟨cb, co, rfl, k0, k1, hx⟩ := hr.cell (by rw [hcl]; omega)
    rw [hcl] at hx ⊢
    refine ⟨cb, co, c0, rfl, k0, k1, fun c hc => ?_⟩
    obtain ⟨u, hu, hr1⟩ := hx c hc
    rw [M.chs_get hc] at hr1
    obtain ⟨a1, c1, rfl⟩ := hr1.form
    obtain ⟨xb, xo, rfl, _⟩ := hr1.cell (by rw [M.chn_length]; omega)
    rw [M.chn_length] at hu hr1
    exact ⟨xb, xo, c1, fun wx hk => ⟨(cell_keep (hk cb k0 k1)).trans hu, hr1.keep hk⟩⟩
  have hend : ∀ wr gp, Lns g C w wr → V3 .i32 wr.heap.size (.slice (some ⟨gp, 0, none⟩) C C) C N B (M.enX B N C x L) wr → Calls Tryz.prog 14 #[fv f, .slice (some ⟨gp, 0, none⟩) C C] wr fun e w3 => ∃ aj oj cj az oz cz ac oc cc, e = .returned (.tuple #[pa (.slice (some ⟨aj, oj, none⟩) B cj) (.slice (some ⟨az, oz, none⟩) C cz) (.slice (some ⟨ac, oc, none⟩) N cc), .int .i64 0]) ∧ Below wr.heap.size wr w3 ∧
      ∀ wx, Below w3.heap.size w3 wx → Calls Tryz.prog 23 #[fv f, pa (.slice (some ⟨aj, oj, none⟩) B cj) (.slice (some ⟨az, oz, none⟩) C cz) (.slice (some ⟨ac, oc, none⟩) N cc)] wx fun e w4 => ∃ u, e = .returned (.tuple #[u, .int .i64 0]) ∧ w4.ownsRow wx.heap.size 5 1 u n ((M.frb f C B N r sl (M.an f C B N r sl (M.enX B N C x L)) n).map fun x : Nat => Value.int .u8 x) ∧ Below wx.heap.size wx w4 := by
    intro wr gp hln hv
    refine (Analyse_ok wr.heap.size f C B N r _ _ sl wr (hT wr hln) hF hS hv (fun c => M.enX_32 B N C x L c) (Nat.le_refl _)).mono ?_
    rintro e w3 ⟨vj, vs, vc, rfl, b3, k1, k2, k3⟩
    obtain ⟨aj, oj, cj, rfl⟩ := k1.form
    obtain ⟨az, oz, cz, rfl⟩ := k2.form
    obtain ⟨ac, oc, cc, rfl⟩ := k3.form
    refine ⟨aj, oj, cj, az, oz, cz, ac, oc, cc, rfl, b3, fun wx hb => ?_⟩
    obtain ⟨A, ok, hs, e1, e2, e3⟩ := sees_of (m := M.an f C B N r sl (M.enX B N C x L)) (k1.below hb (Nat.le_refl _)) (k2.below hb (Nat.le_refl _)) (k3.below hb (Nat.le_refl _))
    rw [e1, e2, e3]
    refine (Pack_laid w3.heap.size f C B N r n A _ sl wx (hT wx (hln.trans ((Lns.of_below b3).trans (Lns.of_below hb)))) hF hS ok hs hb.size (fun c _ b _ => M.anS_bd _ _ _ _ _ _) (fun b _ => ?_) hn).mono ?_
    · show -9223372036854775808 ≤ M.anJ f N B (M.enX B N C x L) b ∧ M.anJ f N B (M.enX B N C x L) b ≤ 9223372036854775807
      unfold M.anJ
      split
      · have := M.jn2_bd (M.enX B N C x L 0) (M.enX B N C x L 1) N B b; omega
      · omega
    · rintro e w4 ⟨b4, ⟨_, u, rfl, ho⟩ | ⟨hno, _⟩⟩
      · exact ⟨u, rfl, ho, b4⟩
      · exact absurd (M.an_ok hF) hno
  have HPt : Hid _ := hpart
  have HEn : Hid _ := hend
  have H2 : Hid (∀ wx, Calls _ _ _ wx _) := h2
  have hobj : ∀ wx, Below w.heap.size w wx → Blk wx p (oc f (.slice (some ⟨l, 0, none⟩) C C)) 146 := fun wx hb => blk_below hb he.obj hpl
  have HOb : Hid _ := hobj
  have hstart := fun w3 (hb : Below w.heap.size w w3) => Fed.start (N := N) (L' := M.enL B N C x L) (X := M.enX B N C x L) he hb
  have HSt : Hid _ := hstart
  obtain ⟨av, cv, rfl⟩ := hx.form
  have x0 := hobj w (Below.refl _ _)
  obtain ⟨XS, hXS⟩ : ∃ XS, M.enX B N C x L = XS := ⟨_, rfl⟩
  obtain ⟨LS, hLS⟩ : ∃ LS, M.enL B N C x L = LS := ⟨_, rfl⟩
  have hXq : ∀ q, M.spF B (M.chn NB x q C) (L q) = XS q := fun q => by rw [← hXS, ← hNB]; rfl
  have hLq : ∀ q, M.sst B (M.chn NB x q C) (L q) N = LS q := fun q => by rw [← hLS, ← hNB]; rfl
  have HXq : Hid _ := hXq
  have HLq : Hid _ := hLq
  have hN := hF.hN
  have hC := hF.hC
  have hBB := hF.hB
  clear hpart hend h2 hobj hstart hT hF hS hx hNB he hXq hLq hn
  obtain ⟨c_, r_, h_, b_, k_, m_, j_, p_, l_, y_⟩ := f
  obtain rfl : h_ = C := hC
  obtain rfl : b_ = B := hBB
  obtain rfl : k_ = N := hN
  rw [hXS] at HEn HSt ⊢
  rw [hLS] at HSt ⊢
  generalize M.frb ⟨c_, r_, C, B, N, m_, j_, p_, l_, y_⟩ C B N r sl (M.an ⟨c_, r_, C, B, N, m_, j_, p_, l_, y_⟩ C B N r sl XS) n = FR at *
  clear hXS hLS
  unfold fv pa at HEn
  unfold fv at H2
  dsimp only at HEn H2
  clear hl
  generalize x.length = xl at *
  have xs := oc_cells x0; dsimp only at xs; obtain ⟨x0, x1, x2, x3, x4, x5, x6, x7, x8, x9, x10⟩ := xs
  have hmk := fun wx => mkSS32 wx C (by omega)
  have i1 : (0 : Int) < C := by omega
  have i2 : (C : Int) ≤ 2 := by omega
  have i3 : 0 < C := by omega
  have i4 : (0 : Int) ≤ C := by omega
  go_enter Tryz.func30, Tryz.ntmps30
  go_wp2_with (go_at_call 85; refine h1.mono ?_; clear h1; rintro e w2 ⟨v', rfl, rows2, b2⟩; obtain ⟨cb, co, cc, rfl, cb0, cb1, hch⟩ := HPt.out w2 v' rows2 b2; clear HPt x0 x1 x2 x3 x4 x5 x6 x7 x8 x9 x10; have xs := oc_cells (HOb.out w2 b2); dsimp only at xs; obtain ⟨x0, x1, x2, x3, x4, x5, x6, x7, x8, x9, x10⟩ := xs; have HCh : Hid (∀ c, c < C → _) := hch; have B2 : Hid (Below w.heap.size w w2) := b2; clear rows2 b2 hch)
  obtain ⟨xb, xo, xc, hch0⟩ := HCh.out 0 (by omega)
  have ch0 := (hch0 w2 (fun _ _ _ => rfl)).1
  have HC0 : Hid (∀ wx : World, _ → _) := hch0
  have C0 : Hid ((fun wx => wx.cell? ⟨cb, co, none⟩ = some (.slice (some ⟨xb, xo, none⟩) NB xc) ∧ wx.cell? ⟨p, 0, none⟩ = some (.int .i64 c_) ∧ wx.cell? ⟨p, 1, none⟩ = some (.int .i64 r_) ∧ wx.cell? ⟨p, 2, none⟩ = some (.int .i64 (C : Int)) ∧ wx.cell? ⟨p, 3, none⟩ = some (.int .i64 (B : Int)) ∧ wx.cell? ⟨p, 4, none⟩ = some (.int .i64 (N : Int)) ∧ wx.cell? ⟨p, 5, none⟩ = some (.int .i64 m_) ∧ wx.cell? ⟨p, 6, none⟩ = some (.int .i64 j_) ∧ wx.cell? ⟨p, 7, none⟩ = some (.int .i64 p_) ∧ wx.cell? ⟨p, 8, none⟩ = some (.int .i64 l_) ∧ wx.cell? ⟨p, 9, none⟩ = some (.int .i64 y_)) w2.drew) := show _ ∧ _ from ⟨ch0, x0, x1, x2, x3, x4, x5, x6, x7, x8, x9⟩
  clear hch0 ch0 x0 x1 x2 x3 x4 x5 x6 x7 x8 x9 x10
  go_region_held3 (fun wx => wx.cell? ⟨cb, co, none⟩ = some (.slice (some ⟨xb, xo, none⟩) NB xc) ∧ wx.cell? ⟨p, 0, none⟩ = some (.int .i64 c_) ∧ wx.cell? ⟨p, 1, none⟩ = some (.int .i64 r_) ∧ wx.cell? ⟨p, 2, none⟩ = some (.int .i64 (C : Int)) ∧ wx.cell? ⟨p, 3, none⟩ = some (.int .i64 (B : Int)) ∧ wx.cell? ⟨p, 4, none⟩ = some (.int .i64 (N : Int)) ∧ wx.cell? ⟨p, 5, none⟩ = some (.int .i64 m_) ∧ wx.cell? ⟨p, 6, none⟩ = some (.int .i64 j_) ∧ wx.cell? ⟨p, 7, none⟩ = some (.int .i64 p_) ∧ wx.cell? ⟨p, 8, none⟩ = some (.int .i64 l_) ∧ wx.cell? ⟨p, 9, none⟩ = some (.int .i64 y_))
    (first | exact C0.out | exact C1.out)
    (first | (go_at_call 86; refine (H2.out _).mono ?_; clear H2; rintro e w3 ⟨rfl, b3⟩; have b3' : Below w2.heap.size w2 w3 := of_drew b3; have B3 : Hid (Below w.heap.size w w3) := B2.out.trans (b3'.mono B2.out.size); have S3 : Hid (∀ k, w.heap.size ≤ k → k < w2.heap.size → w3.heap[k]? = w2.heap[k]?) := fun k _ hk => b3'.block k hk; have Z3 : Hid (w2.heap.size ≤ w3.heap.size) := b3'.size; have C1 : Hid ((fun wx => wx.cell? ⟨cb, co, none⟩ = some (.slice (some ⟨xb, xo, none⟩) NB xc) ∧ wx.cell? ⟨p, 0, none⟩ = some (.int .i64 c_) ∧ wx.cell? ⟨p, 1, none⟩ = some (.int .i64 r_) ∧ wx.cell? ⟨p, 2, none⟩ = some (.int .i64 (C : Int)) ∧ wx.cell? ⟨p, 3, none⟩ = some (.int .i64 (B : Int)) ∧ wx.cell? ⟨p, 4, none⟩ = some (.int .i64 (N : Int)) ∧ wx.cell? ⟨p, 5, none⟩ = some (.int .i64 m_) ∧ wx.cell? ⟨p, 6, none⟩ = some (.int .i64 j_) ∧ wx.cell? ⟨p, 7, none⟩ = some (.int .i64 p_) ∧ wx.cell? ⟨p, 8, none⟩ = some (.int .i64 l_) ∧ wx.cell? ⟨p, 9, none⟩ = some (.int .i64 y_)) w3) := show _ ∧ _ from (by have xs := oc_cells (HOb.out w3 B3.out); dsimp only at xs; obtain ⟨x0, x1, x2, x3, x4, x5, x6, x7, x8, x9, x10⟩ := xs; exact ⟨(HC0.out w3 S3.out).1, x0, x1, x2, x3, x4, x5, x6, x7, x8, x9⟩); clear b3 b3'))
  all_goals (
    obtain ⟨ch0, x0, x1, x2, x3, x4, x5, x6, x7, x8, x9⟩ := C1.out
    have S0 : Hid (Fed _ _ _ _ _ _ _ _ _ _ _ _ _ _ _) := HSt.out w3 B3.out
    have x10 := (oc_cells S0.out.enc.obj).2.2.2.2.2.2.2.2.2.2
    clear C0 C1 ch0 HSt HC0 HOb
    generalize hnl : nils C = cs at *
    go_wp2
    have z2 := B2.out.size
    have z3 := Z3.out
    go_loopw [46] (fun i wr => ∃ q : Nat, q ≤ C ∧ i = .int .i64 q ∧ Fed p l C B N w3.heap.size q ⟨c_, r_, C, B, N, m_, j_, p_, l_, y_⟩ lo g L LS XS w wr ∧ ∀ k, w.heap.size ≤ k → k < w3.heap.size → wr.heap[k]? = w3.heap[k]?) (fun i _ => C - (intOf i).toNat)
    case atStart => exact ⟨0, by omega, rfl, S0.out, fun k _ hk => Below.heap_alloc _ _ _ hk⟩
    case round =>
      clear S0 x0 x1 x2 x3 x4 x5 x6 x7 x8 x9 x10
      obtain ⟨q, hq, rfl, hf, hkp⟩ := hrel
      by_cases hlt : q < C
      · have hlt' : (q : Int) < C := by omega
        obtain ⟨xbq, xoq, xcq, hchq⟩ := HCh.out q hlt
        have hgq := hf.enc.gl hlt
        have hwr := hf.lns.size
        have hgp := hf.gp
        obtain ⟨hd0, ht1, ht2, _⟩ := hf.top
        have hgpl := ht1.lt
        obtain ⟨ch1, ch2⟩ := hchq wr.drew (fun k h0 h1 => (hkp k h0 (by omega)).trans (S3.out k h0 h1))
        have spq : Spl (lo q) (g q) B (L q) wr.drew := by
          have := hf.enc.spl.obj q hlt
          simp only [Nat.lt_irrefl, if_false] at this
          exact this
        have hsp := split_any (lo q) (g q) B N w.heap.size w2.heap.size (L q) (M.chn NB x q C) _ wr.drew b8 (by omega) (by omega) spq ch2 (by rw [M.chn_length, HNB.out]) (by show w2.heap.size ≤ wr.heap.size; omega) (.inl (by omega))
        have HSp : Hid (Calls _ _ _ _ _) := hsp
        have K : Hid (KF (g q) w3.heap.size C wr.drew wr.drew) := ⟨Nat.le_refl _, fun _ _ _ _ => rfl, hd0, ht1, ht2⟩
        have HK : Hid (∀ wx, KF (g q) w3.heap.size C wr.drew wx → wx.cell? ⟨cb, co + q, none⟩ = some (.slice (some ⟨xbq, xoq, none⟩) NB xcq) ∧ wx.cell? ⟨p, 3, none⟩ = some (.int .i64 (B : Int))) := fun wx hx => by
          refine ⟨(cell_keep (hx.block cb (by show cb < wr.heap.size; omega) (by omega) (by omega))).trans ch1, ?_⟩
          have ho : Blk wx p (oc ⟨c_, r_, C, B, N, m_, j_, p_, l_, y_⟩ (.slice (some ⟨l, 0, none⟩) C C)) 146 := hx.blk hf.enc.obj (by omega) (by omega)
          exact ho.cell rfl
        have t9 : wr.cell? ⟨l, q, none⟩ = some (.pointer (some ⟨g q + 1, 0, none⟩)) := hf.enc.spl.top' hlt
        have hstp : ∀ w5 u, Spl (lo q) (g q) B (M.sst B (M.chn NB x q C) (L q) N) w5 → But (g q) wr.drew w5 → Sub.B2 .i32 wr.drew.heap.size w5.heap.size u N B (M.spF B (M.chn NB x q C) (L q)) w5 → Fed p l C B N w3.heap.size (q + 1) ⟨c_, r_, C, B, N, m_, j_, p_, l_, y_⟩ lo g L LS XS w (w5.setCell ⟨w3.heap.size, q, none⟩ u) ∧ ∀ k, w.heap.size ≤ k → k < w3.heap.size → (w5.setCell ⟨w3.heap.size, q, none⟩ u).heap[k]? = w3.heap[k]? := fun w5 u k1 k2 k3 => by
          rw [HLq.out q] at k1
          rw [HXq.out q] at k3
          refine ⟨hf.step hlt ⟨k2.os, k2.tape, k2.output, k2.size, k2.block⟩ k1 k3 (by omega), fun k h0 h1 => (Below.heap_setCell _ _ _ _ (by show k ≠ w3.heap.size; omega)).trans ((k2.block k (by show k < wr.heap.size; omega) (by omega)).trans (hkp k h0 h1))⟩
        have HStp : Hid _ := hstp
        clear hf hkp ht1 ht2 ch1 ch2 spq hsp hstp hchq
        go_wp2
        refine wp_region_held_drew (S := KF (g q) w3.heap.size C wr.drew) (by kernel_rfl) K.out (fun hS1 => ?_)
        refine wpAnyH_take (i := 0) (oi := ⟨some 51, _, _, _, _, _⟩) (v := ?_) rfl (by kernel_rfl) (by kernel_rfl) (by kernel_rfl) (fun _ _ _ h => h) (Or.inl ⟨by rfl, ?_⟩) hS1 ?_
        rotate_left
        · intro wx hx; obtain ⟨f1, f2⟩ := HK.out wx hx; go_simp; try with_reducible rfl
        try simp only [Act.put, List.setIfInBounds_toArray, List.set_cons_zero, List.set_cons_succ]
        refine wpAnyH_take (i := 1) (oi := ⟨some 52, _, _, _, _, _⟩) (v := ?_) rfl (by kernel_rfl) (by kernel_rfl) (by kernel_rfl) (fun _ _ _ h => h) (Or.inl ⟨by rfl, ?_⟩) hS1 ?_
        rotate_left
        · intro wx hx; obtain ⟨f1, f2⟩ := HK.out wx hx; go_simp; try with_reducible rfl
        try simp only [Act.put, List.setIfInBounds_toArray, List.set_cons_zero, List.set_cons_succ]
        refine wpAnyH_take (i := 2) (oi := ⟨some 53, _, _, _, _, _⟩) (v := ?_) rfl (by kernel_rfl) (by kernel_rfl) (by kernel_rfl) (fun _ _ _ h => h) (Or.inl ⟨by rfl, ?_⟩) hS1 ?_
        rotate_left
        · intro wx hx; obtain ⟨f1, f2⟩ := HK.out wx hx; go_simp; try with_reducible rfl
        try simp only [Act.put, List.setIfInBounds_toArray, List.set_cons_zero, List.set_cons_succ]
        refine wpAnyH_take (i := 3) (oi := ⟨some 54, _, _, _, _, _⟩) (v := ?_) rfl (by kernel_rfl) (by kernel_rfl) (by kernel_rfl) (fun _ _ _ h => h) (Or.inl ⟨by rfl, ?_⟩) hS1 ?_
        rotate_left
        · intro wx hx; obtain ⟨f1, f2⟩ := HK.out wx hx; go_simp; try with_reducible rfl
        try simp only [Act.put, List.setIfInBounds_toArray, List.set_cons_zero, List.set_cons_succ]
        refine wpAnyH_take (i := 4) (oi := ⟨some 55, _, _, _, _, _⟩) (v := ?_) rfl (by kernel_rfl) (by kernel_rfl) (by kernel_rfl) (fun _ _ _ h => h) (Or.inl ⟨by rfl, ?_⟩) hS1 ?_
        rotate_left
        · intro wx hx; obtain ⟨f1, f2⟩ := HK.out wx hx; go_simp; try with_reducible rfl
        try simp only [Act.put, List.setIfInBounds_toArray, List.set_cons_zero, List.set_cons_succ]
        refine wpAnyH_take (i := 5) (oi := ⟨some 56, _, _, _, _, _⟩) (v := ?_) rfl (by kernel_rfl) (by kernel_rfl) (by kernel_rfl) (fun _ _ _ h => h) (Or.inl ⟨by rfl, ?_⟩) hS1 ?_
        rotate_left
        · intro wx hx; obtain ⟨f1, f2⟩ := HK.out wx hx; go_simp; try with_reducible rfl
        try simp only [Act.put, List.setIfInBounds_toArray, List.set_cons_zero, List.set_cons_succ]
        refine wpAnyH_take (i := 6) (oi := ⟨some 57, _, _, _, _, _⟩) (v := ?_) rfl (by kernel_rfl) (by kernel_rfl) (by kernel_rfl) (fun _ _ _ h => h) (Or.inl ⟨by rfl, ?_⟩) hS1 ?_
        rotate_left
        · intro wx hx; obtain ⟨f1, f2⟩ := HK.out wx hx; go_simp; try with_reducible rfl
        try simp only [Act.put, List.setIfInBounds_toArray, List.set_cons_zero, List.set_cons_succ]
        refine wpAnyH_take (i := 7) (oi := ⟨some 58, _, _, _, _, _⟩) (v := ?_) rfl (by kernel_rfl) (by kernel_rfl) (by kernel_rfl) (fun _ _ _ h => h) (Or.inl ⟨by rfl, ?_⟩) hS1 ?_
        rotate_left
        · intro wx hx; obtain ⟨f1, f2⟩ := HK.out wx hx; go_simp; try with_reducible rfl
        try simp only [Act.put, List.setIfInBounds_toArray, List.set_cons_zero, List.set_cons_succ]
        refine wpAnyH_take (i := 8) (oi := ⟨some 59, _, _, _, _, _⟩) (v := ?_) rfl (by kernel_rfl) (by kernel_rfl) (by kernel_rfl) (fun _ _ _ h => h) (Or.inl ⟨by rfl, ?_⟩) hS1 ?_
        rotate_left
        · intro wx hx; obtain ⟨f1, f2⟩ := HK.out wx hx; go_simp; try with_reducible rfl
        try simp only [Act.put, List.setIfInBounds_toArray, List.set_cons_zero, List.set_cons_succ]
        refine wpAnyH_take (i := 9) (oi := ⟨some 60, _, _, _, _, _⟩) (v := ?_) rfl (by kernel_rfl) (by kernel_rfl) (by kernel_rfl) (fun _ _ _ h => h) (Or.inl ⟨by rfl, ?_⟩) hS1 ?_
        rotate_left
        · intro wx hx; obtain ⟨f1, f2⟩ := HK.out wx hx; go_simp; try with_reducible rfl
        try simp only [Act.put, List.setIfInBounds_toArray, List.set_cons_zero, List.set_cons_succ]
        refine wpAnyH_take (i := 10) (oi := ⟨some 61, _, _, _, _, _⟩) (v := ?_) rfl (by kernel_rfl) (by kernel_rfl) (by kernel_rfl) (fun _ _ _ h => h) (Or.inl ⟨by rfl, ?_⟩) hS1 ?_
        rotate_left
        · intro wx hx; obtain ⟨f1, f2⟩ := HK.out wx hx; go_simp; try with_reducible rfl
        try simp only [Act.put, List.setIfInBounds_toArray, List.set_cons_zero, List.set_cons_succ]
        refine wpAnyH_take (i := 11) (oi := ⟨some 62, _, _, _, _, _⟩) (v := ?_) rfl (by kernel_rfl) (by kernel_rfl) (by kernel_rfl) (fun _ _ _ h => h) (Or.inl ⟨by rfl, ?_⟩) hS1 ?_
        rotate_left
        · intro wx hx; obtain ⟨f1, f2⟩ := HK.out wx hx; go_simp; try with_reducible rfl
        try simp only [Act.put, List.setIfInBounds_toArray, List.set_cons_zero, List.set_cons_succ]

        refine wpAnyH_ready (rs := [12]) (by kernel_rfl) (by simp) ?_
        refine AllReadyH.cons (o := ⟨some 63, _, _, _, _, _⟩) rfl (fun K' hK' => ?_) AllReadyH.nil
        go_simp
        refine HSp.out.mono ?_
        clear HSp
        rintro e w5 ⟨u, rfl, k1, k2, k3⟩
        obtain ⟨bu, ou, cu, rfl, _⟩ := id k3
        have K5 : KF (g q) w3.heap.size C wr.drew w5 := hS1.but k2 (by omega)
        obtain ⟨st1, st2⟩ := HStp.out w5 _ k1 k2 k3
        have ST1 : Hid (Fed _ _ _ _ _ _ _ _ _ _ _ _ _ _ _) := st1
        have ST2 : Hid (∀ k, w.heap.size ≤ k → k < w3.heap.size → _) := st2
        obtain ⟨⟨uu, hu⟩, hfz⟩ := K5.cell hlt
        clear k1 k2 k3 st1 st2
        refine hK'.out _ _ K5 (fun _ => ?_)
        clear hK' K'
        try simp only [Act.put, List.setIfInBounds_toArray, List.set_cons_zero, List.set_cons_succ]
        refine wpAnyH_take (i := 13) (oi := ⟨some 64, _, _, _, _, _⟩) (v := ?_) rfl (by kernel_rfl) (by kernel_rfl) (by kernel_rfl) (fun _ _ _ h => h) (Or.inl ⟨by rfl, ?_⟩) K5 ?_
        rotate_left
        · intro wx hx; go_simp; try with_reducible rfl
        try simp only [Act.put, List.setIfInBounds_toArray, List.set_cons_zero, List.set_cons_succ]

        refine wpAnyH_ready (rs := [14]) (by kernel_rfl) (by simp) ?_
        refine AllReadyH.cons (o := ⟨none, _, _, _, _, _⟩) rfl (fun K' hK' => ?_) AllReadyH.nil
        go_simp
        refine hK'.out _ _ (K5.set _) (fun _ => ?_)
        clear hK' K'
        try simp only [Act.put, List.setIfInBounds_toArray, List.set_cons_zero, List.set_cons_succ]
        refine wpAnyH_done (by kernel_rfl) ?_ _
        go_wp2
        go_roundw
        case rel => exact ⟨q + 1, by omega, by go_num, ST1.out, ST2.out⟩
        case measure => simp [intOf]; omega
      · obtain rfl : C = q := by omega
        have hA := HEn.out wr w3.heap.size hf.lns hf.v3
        have hln := hf.lns.size
        have hpr := hf.enc.lt
        have hfi : ∀ w7, Below wr.heap.size wr w7 → Enc p l C B ⟨c_, r_, C, B, N, m_, j_, p_, l_, y_⟩ lo g LS w7 ∧ Lns g C w w7 := fun w7 hb => ⟨(hf.enc.below hb hpr).ext fun c hc => by simp [hc], hf.lns.below hb⟩
        have HFi : Hid _ := hfi
        have HObw : Hid (∀ wx, Below wr.heap.size wr wx → Blk wx p (oc ⟨c_, r_, C, B, N, m_, j_, p_, l_, y_⟩ (.slice (some ⟨l, 0, none⟩) C C)) 146) := fun wx hb => blk_below hb hf.enc.obj hpr
        have xs := oc_cells hf.enc.obj; dsimp only at xs; obtain ⟨x0, x1, x2, x3, x4, x5, x6, x7, x8, x9, x10⟩ := xs
        clear hf hkp hfi HEn
        go_wp2_with (go_at_call 14; refine hA.mono ?_; clear hA x0 x1 x2 x3 x4 x5 x6 x7 x8 x9 x10; rintro e w5 ⟨aj, oj, cj, az, oz, cz, ac, oc_, cc_, rfl, b5, hpk⟩; have B5 : Hid (Below wr.heap.size wr w5) := b5; have HPk : Hid _ := hpk; clear b5 hpk)
        obtain ⟨W6, hW6⟩ : ∃ W6, w5.alloc (.cells #[.slice (some ⟨aj, oj, none⟩) B cj, .slice (some ⟨az, oz, none⟩) C cz, .slice (some ⟨ac, oc_, none⟩) N cc_] 33) = W6 := ⟨_, rfl⟩
        rw [hW6]
        have b6 : Below w5.heap.size w5 W6.drew := by rw [← hW6]; exact bD (bel1 _ _)
        have k6 : Blk W6.drew w5.heap.size #[.slice (some ⟨aj, oj, none⟩) B cj, .slice (some ⟨az, oz, none⟩) C cz, .slice (some ⟨ac, oc_, none⟩) N cc_] 33 := by rw [← hW6]; exact Blk.new w5 _ _
        have b56 : Below wr.heap.size wr W6.drew := B5.out.trans (b6.mono B5.out.size)
        have HPb : Hid (∀ wx, Below W6.drew.heap.size W6.drew wx → (fun wx => wx.cell? ⟨w5.heap.size, 0, none⟩ = some (.slice (some ⟨aj, oj, none⟩) B cj) ∧ wx.cell? ⟨w5.heap.size, 1, none⟩ = some (.slice (some ⟨az, oz, none⟩) C cz) ∧ wx.cell? ⟨w5.heap.size, 2, none⟩ = some (.slice (some ⟨ac, oc_, none⟩) N cc_) ∧ wx.cell? ⟨p, 0, none⟩ = some (.int .i64 c_) ∧ wx.cell? ⟨p, 1, none⟩ = some (.int .i64 r_) ∧ wx.cell? ⟨p, 2, none⟩ = some (.int .i64 (C : Int)) ∧ wx.cell? ⟨p, 3, none⟩ = some (.int .i64 (B : Int)) ∧ wx.cell? ⟨p, 4, none⟩ = some (.int .i64 (N : Int)) ∧ wx.cell? ⟨p, 5, none⟩ = some (.int .i64 m_) ∧ wx.cell? ⟨p, 6, none⟩ = some (.int .i64 j_) ∧ wx.cell? ⟨p, 7, none⟩ = some (.int .i64 p_) ∧ wx.cell? ⟨p, 8, none⟩ = some (.int .i64 l_) ∧ wx.cell? ⟨p, 9, none⟩ = some (.int .i64 y_)) wx) := fun wx hb => by
          have hp := blk_below hb k6 k6.lt
          have xs := oc_cells (HObw.out wx (b56.trans (hb.mono b56.size)))
          dsimp only at xs
          obtain ⟨x0, x1, x2, x3, x4, x5, x6, x7, x8, x9, x10⟩ := xs
          exact ⟨hp.cell rfl, hp.cell rfl, hp.cell rfl, x0, x1, x2, x3, x4, x5, x6, x7, x8, x9⟩
        have C6 : Hid ((fun wx => wx.cell? ⟨w5.heap.size, 0, none⟩ = some (.slice (some ⟨aj, oj, none⟩) B cj) ∧ wx.cell? ⟨w5.heap.size, 1, none⟩ = some (.slice (some ⟨az, oz, none⟩) C cz) ∧ wx.cell? ⟨w5.heap.size, 2, none⟩ = some (.slice (some ⟨ac, oc_, none⟩) N cc_) ∧ wx.cell? ⟨p, 0, none⟩ = some (.int .i64 c_) ∧ wx.cell? ⟨p, 1, none⟩ = some (.int .i64 r_) ∧ wx.cell? ⟨p, 2, none⟩ = some (.int .i64 (C : Int)) ∧ wx.cell? ⟨p, 3, none⟩ = some (.int .i64 (B : Int)) ∧ wx.cell? ⟨p, 4, none⟩ = some (.int .i64 (N : Int)) ∧ wx.cell? ⟨p, 5, none⟩ = some (.int .i64 m_) ∧ wx.cell? ⟨p, 6, none⟩ = some (.int .i64 j_) ∧ wx.cell? ⟨p, 7, none⟩ = some (.int .i64 p_) ∧ wx.cell? ⟨p, 8, none⟩ = some (.int .i64 l_) ∧ wx.cell? ⟨p, 9, none⟩ = some (.int .i64 y_)) W6.drew) := HPb.out W6.drew (Below.refl _ _)
        have hpk := HPk.out W6.drew b6
        have B6 : Hid (Below wr.heap.size wr W6.drew) := b56
        clear hW6 b6 k6 b56 HPk HObw
        go_region_held3 (fun wx => wx.cell? ⟨w5.heap.size, 0, none⟩ = some (.slice (some ⟨aj, oj, none⟩) B cj) ∧ wx.cell? ⟨w5.heap.size, 1, none⟩ = some (.slice (some ⟨az, oz, none⟩) C cz) ∧ wx.cell? ⟨w5.heap.size, 2, none⟩ = some (.slice (some ⟨ac, oc_, none⟩) N cc_) ∧ wx.cell? ⟨p, 0, none⟩ = some (.int .i64 c_) ∧ wx.cell? ⟨p, 1, none⟩ = some (.int .i64 r_) ∧ wx.cell? ⟨p, 2, none⟩ = some (.int .i64 (C : Int)) ∧ wx.cell? ⟨p, 3, none⟩ = some (.int .i64 (B : Int)) ∧ wx.cell? ⟨p, 4, none⟩ = some (.int .i64 (N : Int)) ∧ wx.cell? ⟨p, 5, none⟩ = some (.int .i64 m_) ∧ wx.cell? ⟨p, 6, none⟩ = some (.int .i64 j_) ∧ wx.cell? ⟨p, 7, none⟩ = some (.int .i64 p_) ∧ wx.cell? ⟨p, 8, none⟩ = some (.int .i64 l_) ∧ wx.cell? ⟨p, 9, none⟩ = some (.int .i64 y_))
          (first | exact C6.out | exact C7.out)
          (first | (go_at_call 23; refine hpk.mono ?_; clear hpk; rintro e w7 ⟨u, rfl, ow, b7⟩; obtain ⟨au, cu, rfl⟩ := Poly.own_form ow; have C7 : Hid ((fun wx => wx.cell? ⟨w5.heap.size, 0, none⟩ = some (.slice (some ⟨aj, oj, none⟩) B cj) ∧ wx.cell? ⟨w5.heap.size, 1, none⟩ = some (.slice (some ⟨az, oz, none⟩) C cz) ∧ wx.cell? ⟨w5.heap.size, 2, none⟩ = some (.slice (some ⟨ac, oc_, none⟩) N cc_) ∧ wx.cell? ⟨p, 0, none⟩ = some (.int .i64 c_) ∧ wx.cell? ⟨p, 1, none⟩ = some (.int .i64 r_) ∧ wx.cell? ⟨p, 2, none⟩ = some (.int .i64 (C : Int)) ∧ wx.cell? ⟨p, 3, none⟩ = some (.int .i64 (B : Int)) ∧ wx.cell? ⟨p, 4, none⟩ = some (.int .i64 (N : Int)) ∧ wx.cell? ⟨p, 5, none⟩ = some (.int .i64 m_) ∧ wx.cell? ⟨p, 6, none⟩ = some (.int .i64 j_) ∧ wx.cell? ⟨p, 7, none⟩ = some (.int .i64 p_) ∧ wx.cell? ⟨p, 8, none⟩ = some (.int .i64 l_) ∧ wx.cell? ⟨p, 9, none⟩ = some (.int .i64 y_)) w7) := HPb.out w7 b7; have B7 : Hid (Below W6.drew.heap.size W6.drew w7) := b7; have OW : Hid (World.ownsRow _ _ _ _ _ _ _) := ow; clear b7 ow))
        all_goals (
          clear C6 C7 HPb
          go_wp2
          go_ret2
          have hb7 := B6.out.trans (B7.out.mono B6.out.size)
          obtain ⟨e7, l7⟩ := HFi.out w7 hb7
          exact ⟨_, rfl, Poly.own_mono OW.out (by have := B6.out.size; omega), e7, l7⟩))

end Sub
end Go.Proofs.YtcaifpjbjghhaaaGreatDoor

/-
  Contracts: new encoders and decoders, their resets, what nothing answers. Conditions: the polynomial's numbers stand as their initialiser lays them; one goroutine; as told at each.
-/
namespace Go.Proofs.YtcaifpjbjghhaaaGreatDoor
set_option linter.unusedVariables false
open Go.RowKit
namespace Sub
open Bank (Blk But)
open Poly (Reads cell_keep alloc_size Spl Joi)
open _root_.Go.Proofs.YtcaifpjbjghhaaaGreatDoor.Form (fv fc bel1 box_cells blk_below of_drew)

set_option maxRecDepth 100000 in
set_option maxHeartbeats 1000000 in
theorem NewEncoder_ok (b : Nat) (f : M.Fmt) (C B N r X : Nat) (w : World) (hT : Wave.Tab w) (hB : Bank.Bank b [] 0 X w) (hF : Sb f C B N r) :
    Calls Tryz.prog 27 #[.pointer (some ⟨b, 0, none⟩), fv f] w fun e w' => ∃ p l lo g, e = .returned (.tuple #[.pointer (some ⟨p, 0, none⟩), .int .i64 0]) ∧ w.heap.size ≤ l ∧ Enc p l C B f lo g (fun _ => List.replicate (10 * B) 0) w' ∧ But b w w' := by
  have hbw : b < w.heap.size := by have := hB.1; have := hB.2.1; omega
  obtain ⟨W1, hW1⟩ : ∃ W1, w.alloc (.cells (fc f) 23) = W1 := ⟨_, rfl⟩
  have sz1 : W1.heap.size = w.heap.size + 1 := by rw [← hW1]; simp
  have bel : Below w.heap.size w W1 := by rw [← hW1]; exact bel1 _ _
  have hf1 : Blk W1 w.heap.size (fc f) 23 := by rw [← hW1]; exact Blk.new w _ _
  have h1 := ofSplitter_any b f C B N r X W1 (Bank.tab_below bel (Nat.le_refl _) hT) (hB.below bel hB.2.1) hF
  have hfin : ∀ w2 l lo g, W1.heap.size ≤ l → Spls l w2.heap.size C B lo g (fun _ => List.replicate (10 * B) 0) w2 → But b W1 w2 → l < w2.heap.size → Blk w2 w.heap.size (fc f) 23 ∧ Enc w2.heap.size l C B f lo g (fun _ => List.replicate (10 * B) 0) (w2.alloc (.cells (oc f (.slice (some ⟨l, 0, none⟩) C C)) 146)) ∧ But b w (w2.alloc (.cells (oc f (.slice (some ⟨l, 0, none⟩) C C)) 146)) := fun w2 l lo g hl ho hb hlt =>
    ⟨hb.blk hf1 (by omega), ⟨Blk.new _ _ _, ho.below (bel1 _ _) (Nat.le_refl _) hlt, hlt⟩, ((But.of_below bel (Nat.le_refl _)).trans hb).alloc _⟩
  have HFi : Hid _ := hfin
  obtain ⟨x0, x1, x2, x3, x4, x5, x6, x7, x8, x9⟩ := box_cells hf1
  clear hfin bel hf1 hT hB hF
  obtain ⟨c_, r_, h_, b_, k_, m_, j_, p_, l_, y_⟩ := f
  unfold oc at HFi
  unfold fv at h1 ⊢
  unfold fc at hW1
  dsimp only at h1 HFi hW1 x0 x1 x2 x3 x4 x5 x6 x7 x8 x9 ⊢
  go_enter Tryz.func27, Tryz.ntmps27
  go_wp2_with (go_at_call 83; refine h1.mono ?_; clear h1; rintro e w2 ⟨l, lo, g, rfl, hl, ho, hb, hlt⟩; obtain ⟨fb, en, bt⟩ := HFi.out w2 l lo g hl ho hb hlt; clear HFi x0 x1 x2 x3 x4 x5 x6 x7 x8 x9; have xs := box_cells fb; dsimp only at xs; obtain ⟨x0, x1, x2, x3, x4, x5, x6, x7, x8, x9⟩ := xs; have EN : Hid (Enc _ _ _ _ _ _ _ _ _) := en; have BT : Hid (But _ _ _) := bt; have HL : Hid (W1.heap.size ≤ l) := hl; clear fb en bt ho hb hlt hl)
  go_ret2
  exact ⟨_, l, lo, g, rfl, by have := HL.out; omega, EN.out, BT.out⟩

set_option maxRecDepth 100000 in
theorem ofJoiner_form (v : Value) (hv : ∃ a, v = .pointer a) (f : M.Fmt) (w : World) (h : ¬ M.okS f) :
    Calls Tryz.prog 90 #[v, fv f, .func (.func 91) #[] #[]] w fun e w' => e = .returned (.tuple #[.slice none 0 0, .int .i64 110]) ∧ Below w.heap.size w w' := by
  obtain ⟨a, rfl⟩ := hv
  obtain ⟨W1, hW1⟩ : ∃ W1, w.alloc (.cells (fc f) 23) = W1 := ⟨_, rfl⟩
  have bel : Below w.heap.size w W1 := by rw [← hW1]; exact bel1 _ _
  have hf1 : Blk W1 w.heap.size (fc f) 23 := by rw [← hW1]; exact Blk.new w _ _
  have h1 : Calls Tryz.prog 42 #[fv f] W1 fun e w' => e = .returned (.bool false) ∧ Below W1.heap.size W1 w' := (isSub_any f W1).mono fun e w' ⟨q, he, hb, hq⟩ => ⟨by rw [he]; cases q with | true => exact absurd (hq.1 rfl) h | false => rfl, hb⟩
  obtain ⟨x0, x1, x2, x3, x4, x5, x6, x7, x8, x9⟩ := box_cells hf1
  have HB : Hid (Below w.heap.size w W1) := bel
  clear bel hf1 h
  obtain ⟨c_, r_, h_, b_, k_, m_, j_, p_, l_, y_⟩ := f
  unfold fv at h1 ⊢
  unfold fc at hW1
  dsimp only at h1 hW1 x0 x1 x2 x3 x4 x5 x6 x7 x8 x9 ⊢
  go_enter Tryz.func90, Tryz.ntmps90
  go_wp2_with (go_at_call 42; refine h1.mono ?_; clear h1; rintro e w2 ⟨rfl, b2⟩; have B2 : Hid (Below W1.heap.size W1 w2) := b2; clear b2)
  go_ret2
  exact ⟨rfl, HB.out.trans (B2.out.mono HB.out.size)⟩

set_option maxRecDepth 100000 in
theorem NewDecoder_no (v : Value) (hv : ∃ a, v = .pointer a) (f : M.Fmt) (k : Int) (hk : k ≠ 0) (w : World) (hr : ∀ wx, Calls Tryz.prog 90 #[v, fv f, .func (.func 91) #[] #[]] wx fun e w' => e = .returned (.tuple #[.slice none 0 0, .int .i64 k]) ∧ Below wx.heap.size wx w') :
    Calls Tryz.prog 32 #[v, fv f] w fun e w' => e = .returned (.tuple #[.pointer none, .int .i64 k]) ∧ Below w.heap.size w w' := by
  obtain ⟨a, rfl⟩ := hv
  obtain ⟨W1, hW1⟩ : ∃ W1, w.alloc (.cells (fc f) 23) = W1 := ⟨_, rfl⟩
  have bel : Below w.heap.size w W1 := by rw [← hW1]; exact bel1 _ _
  have hf1 : Blk W1 w.heap.size (fc f) 23 := by rw [← hW1]; exact Blk.new w _ _
  have h1 := hr W1
  obtain ⟨x0, x1, x2, x3, x4, x5, x6, x7, x8, x9⟩ := box_cells hf1
  have HB : Hid (Below w.heap.size w W1) := bel
  have k1 : (k == 0) = false := by simpa using hk
  have k2 : (k != 0) = true := by simpa using hk
  clear bel hf1 hr hk
  obtain ⟨c_, r_, h_, b_, k_, m_, j_, p_, l_, y_⟩ := f
  unfold fv at h1 ⊢
  unfold fc at hW1
  dsimp only at h1 hW1 x0 x1 x2 x3 x4 x5 x6 x7 x8 x9 ⊢
  go_enter Tryz.func32, Tryz.ntmps32
  go_wp2_with (go_at_call 90; refine h1.mono ?_; clear h1; rintro e w2 ⟨rfl, b2⟩; have B2 : Hid (Below W1.heap.size W1 w2) := b2; clear b2)
  go_ret2
  exact ⟨rfl, HB.out.trans (B2.out.mono HB.out.size)⟩

set_option maxRecDepth 100000 in
set_option maxHeartbeats 1000000 in
theorem NewDecoder_ok (b : Nat) (f : M.Fmt) (C B N r X : Nat) (w : World) (hT : Wave.Tab w) (hB : Bank.Bank b [] 0 X w) (hF : Sb f C B N r) :
    Calls Tryz.prog 32 #[.pointer (some ⟨b, 0, none⟩), fv f] w fun e w' => ∃ p l lo g, e = .returned (.tuple #[.pointer (some ⟨p, 0, none⟩), .int .i64 0]) ∧ w.heap.size ≤ l ∧ Dec p l C B f lo g (fun _ => List.replicate (20 * B) 0) w' ∧ But b w w' := by
  have hbw : b < w.heap.size := by have := hB.1; have := hB.2.1; omega
  obtain ⟨W1, hW1⟩ : ∃ W1, w.alloc (.cells (fc f) 23) = W1 := ⟨_, rfl⟩
  have sz1 : W1.heap.size = w.heap.size + 1 := by rw [← hW1]; simp
  have bel : Below w.heap.size w W1 := by rw [← hW1]; exact bel1 _ _
  have hf1 : Blk W1 w.heap.size (fc f) 23 := by rw [← hW1]; exact Blk.new w _ _
  have h1 := ofJoiner_any b f C B N r X W1 (Bank.tab_below bel (Nat.le_refl _) hT) (hB.below bel hB.2.1) hF
  have hfin : ∀ w2 l lo g, W1.heap.size ≤ l → Jois l w2.heap.size C B lo g (fun _ => List.replicate (20 * B) 0) w2 → But b W1 w2 → l < w2.heap.size → Blk w2 w.heap.size (fc f) 23 ∧ Dec w2.heap.size l C B f lo g (fun _ => List.replicate (20 * B) 0) (w2.alloc (.cells (oc f (.slice (some ⟨l, 0, none⟩) C C)) 179)) ∧ But b w (w2.alloc (.cells (oc f (.slice (some ⟨l, 0, none⟩) C C)) 179)) := fun w2 l lo g hl ho hb hlt =>
    ⟨hb.blk hf1 (by omega), ⟨Blk.new _ _ _, ho.below (bel1 _ _) (Nat.le_refl _) hlt, hlt⟩, ((But.of_below bel (Nat.le_refl _)).trans hb).alloc _⟩
  have HFi : Hid _ := hfin
  obtain ⟨x0, x1, x2, x3, x4, x5, x6, x7, x8, x9⟩ := box_cells hf1
  clear hfin bel hf1 hT hB hF
  obtain ⟨c_, r_, h_, b_, k_, m_, j_, p_, l_, y_⟩ := f
  unfold oc at HFi
  unfold fv at h1 ⊢
  unfold fc at hW1
  dsimp only at h1 HFi hW1 x0 x1 x2 x3 x4 x5 x6 x7 x8 x9 ⊢
  go_enter Tryz.func32, Tryz.ntmps32
  go_wp2_with (go_at_call 90; refine h1.mono ?_; clear h1; rintro e w2 ⟨l, lo, g, rfl, hl, ho, hb, hlt⟩; obtain ⟨fb, en, bt⟩ := HFi.out w2 l lo g hl ho hb hlt; clear HFi x0 x1 x2 x3 x4 x5 x6 x7 x8 x9; have xs := box_cells fb; dsimp only at xs; obtain ⟨x0, x1, x2, x3, x4, x5, x6, x7, x8, x9⟩ := xs; have EN : Hid (Dec _ _ _ _ _ _ _ _ _) := en; have BT : Hid (But _ _ _) := bt; have HL : Hid (W1.heap.size ≤ l) := hl; clear fb en bt ho hb hlt hl)
  go_ret2
  exact ⟨_, l, lo, g, rfl, by have := HL.out; omega, EN.out, BT.out⟩

end Sub
end Go.Proofs.YtcaifpjbjghhaaaGreatDoor

/-
  Contract of an encoder's Feed that is given another number of samples. Conditions: one channel.
-/
namespace Go.Proofs.YtcaifpjbjghhaaaGreatDoor
set_option linter.unusedVariables false
open Go.RowKit
namespace Sub
open Bank (Blk But)
open Poly (Reads cell_keep alloc_size Spl Joi)
open _root_.Go.Proofs.YtcaifpjbjghhaaaGreatDoor.Form (fv fc bel1 blk_below of_drew)

set_option maxRecDepth 100000 in
set_option maxHeartbeats 8000000 in
theorem Feed_len (p l B N r m : Nat) (f : M.Fmt) (lo g : Nat → Nat) (L : Nat → List Int) (lo' hi' : Nat) (x : List Int) (v : Value) (w : World) (hF : Sb f 1 B N r) (he : Enc p l 1 B f lo g L w) (hx : Reads .i16 lo' hi' w v x) (hh : hi' ≤ w.heap.size) (hl : x.length = m) (m1 : 1 ≤ m) (m2 : m ≤ 65536) (hne : m ≠ N * B) :
    Calls Tryz.prog 30 #[.pointer (some ⟨p, 0, none⟩), v] w fun e w' => e = .returned (.tuple #[.slice none 0 0, .int .i64 1]) ∧ Below w.heap.size w w' := by
  have b8 := hF.b8
  have hpl := he.lt
  obtain ⟨NB, hNB⟩ : ∃ NB, N * B = NB := ⟨_, rfl⟩
  rw [hNB] at hne
  have hxl : x.length ≤ 65536 := by omega
  have h1 := Pcm.Part_ok lo' hi' 1 m v x w hx hh hxl (.inl rfl) (by omega)
  have h2 : ∀ wx, Calls Tryz.prog 86 #[fv f] wx fun e w' => e = .returned (.int .i64 (NB : Int)) ∧ Below wx.heap.size wx w' := fun wx => by
    have := Form.Samples_ok f wx (.inl hF.ok)
    have e : M.sam f = (NB : Int) := by unfold M.sam; rw [if_pos hF.ok.1, hF.hB, hF.hN, ← hNB, Int.mul_comm]; push_cast; rfl
    rw [e] at this
    exact this
  have hpart : ∀ w2 v', Poly.Rows .i16 w.heap.size w2.heap.size w2 v' (M.chs m x 1) → Below w.heap.size w w2 → ∃ cb co cc, v' = .slice (some ⟨cb, co, none⟩) 1 cc ∧ w.heap.size ≤ cb ∧ cb < w2.heap.size ∧ ∀ c, c < 1 → ∃ xb xo xc, ∀ wx : World, (∀ k, w.heap.size ≤ k → k < w2.heap.size → wx.heap[k]? = w2.heap[k]?) →
      wx.cell? ⟨cb, co + c, none⟩ = some (.slice (some ⟨xb, xo, none⟩) m xc) ∧ Reads .i16 w.heap.size w2.heap.size wx (.slice (some ⟨xb, xo, none⟩) m xc) (M.chn m x c 1) := by
    intro w2 v' hr hb
    obtain ⟨a, c0, rfl, _⟩ := hr.form
    have hcl : (M.chs m x 1).length = 1 := M.chs_length _ _ _
    obtain ⟨cb, co, rfl, k0, k1, hx⟩ := hr.cell (by rw [hcl]; omega)
    rw [hcl] at hx ⊢
    refine ⟨cb, co, c0, rfl, k0, k1, fun c hc => ?_⟩
    obtain ⟨u, hu, hr1⟩ := hx c hc
    rw [M.chs_get hc] at hr1
    obtain ⟨a1, c1, rfl⟩ := hr1.form
    obtain ⟨xb, xo, rfl, _⟩ := hr1.cell (by rw [M.chn_length]; omega)
    rw [M.chn_length] at hu hr1
    exact ⟨xb, xo, c1, fun wx hk => ⟨(cell_keep (hk cb k0 k1)).trans hu, hr1.keep hk⟩⟩
  have HPt : Hid _ := hpart
  have H2 : Hid (∀ wx, Calls _ _ _ wx _) := h2
  have hobj : ∀ wx, Below w.heap.size w wx → Blk wx p (oc f (.slice (some ⟨l, 0, none⟩) 1 1)) 146 := fun wx hb => blk_below hb he.obj hpl
  have HOb : Hid _ := hobj
  obtain ⟨av, cv, rfl⟩ := hx.form
  have x0 := hobj w (Below.refl _ _)
  have hN := hF.hN
  have hC := hF.hC
  have hBB := hF.hB
  have k1 : ((m : Int) == (NB : Int)) = false := by simp; omega
  have k2 : ((m : Int) != (NB : Int)) = true := by simp; omega
  clear hpart h2 hobj hF hx hNB he hl
  obtain ⟨c_, r_, h_, b_, k_, m_, j_, p_, l_, y_⟩ := f
  obtain rfl : h_ = 1 := hC
  obtain rfl : b_ = B := hBB
  obtain rfl : k_ = N := hN
  unfold fv at H2
  dsimp only at H2
  generalize x.length = xl at *
  have xs := oc_cells x0; dsimp only at xs; obtain ⟨x0, x1, x2, x3, x4, x5, x6, x7, x8, x9, x10⟩ := xs
  rw [show ((1 : Nat) : Int) = 1 from rfl] at h1
  go_enter Tryz.func30, Tryz.ntmps30
  go_wp2_with (go_at_call 85; refine h1.mono ?_; clear h1; rintro e w2 ⟨v', rfl, rows2, b2⟩; obtain ⟨cb, co, cc, rfl, cb0, cb1, hch⟩ := HPt.out w2 v' rows2 b2; clear HPt x0 x1 x2 x3 x4 x5 x6 x7 x8 x9 x10; have xs := oc_cells (HOb.out w2 b2); dsimp only at xs; obtain ⟨x0, x1, x2, x3, x4, x5, x6, x7, x8, x9, x10⟩ := xs; have HCh : Hid (∀ c, c < 1 → _) := hch; have B2 : Hid (Below w.heap.size w w2) := b2; clear rows2 b2 hch)
  obtain ⟨xb, xo, xc, hch0⟩ := HCh.out 0 (by omega)
  have ch0 := (hch0 w2 (fun _ _ _ => rfl)).1
  have HC0 : Hid (∀ wx : World, _ → _) := hch0
  have C0 : Hid ((fun wx => wx.cell? ⟨cb, co, none⟩ = some (.slice (some ⟨xb, xo, none⟩) m xc) ∧ wx.cell? ⟨p, 0, none⟩ = some (.int .i64 c_) ∧ wx.cell? ⟨p, 1, none⟩ = some (.int .i64 r_) ∧ wx.cell? ⟨p, 2, none⟩ = some (.int .i64 1) ∧ wx.cell? ⟨p, 3, none⟩ = some (.int .i64 (B : Int)) ∧ wx.cell? ⟨p, 4, none⟩ = some (.int .i64 (N : Int)) ∧ wx.cell? ⟨p, 5, none⟩ = some (.int .i64 m_) ∧ wx.cell? ⟨p, 6, none⟩ = some (.int .i64 j_) ∧ wx.cell? ⟨p, 7, none⟩ = some (.int .i64 p_) ∧ wx.cell? ⟨p, 8, none⟩ = some (.int .i64 l_) ∧ wx.cell? ⟨p, 9, none⟩ = some (.int .i64 y_)) w2.drew) := show _ ∧ _ from ⟨ch0, x0, x1, x2, x3, x4, x5, x6, x7, x8, x9⟩
  clear hch0 ch0 x0 x1 x2 x3 x4 x5 x6 x7 x8 x9 x10
  go_region_held3 (fun wx => wx.cell? ⟨cb, co, none⟩ = some (.slice (some ⟨xb, xo, none⟩) m xc) ∧ wx.cell? ⟨p, 0, none⟩ = some (.int .i64 c_) ∧ wx.cell? ⟨p, 1, none⟩ = some (.int .i64 r_) ∧ wx.cell? ⟨p, 2, none⟩ = some (.int .i64 1) ∧ wx.cell? ⟨p, 3, none⟩ = some (.int .i64 (B : Int)) ∧ wx.cell? ⟨p, 4, none⟩ = some (.int .i64 (N : Int)) ∧ wx.cell? ⟨p, 5, none⟩ = some (.int .i64 m_) ∧ wx.cell? ⟨p, 6, none⟩ = some (.int .i64 j_) ∧ wx.cell? ⟨p, 7, none⟩ = some (.int .i64 p_) ∧ wx.cell? ⟨p, 8, none⟩ = some (.int .i64 l_) ∧ wx.cell? ⟨p, 9, none⟩ = some (.int .i64 y_))
    (first | exact C0.out | exact C1.out)
    (first | (go_at_call 86; refine (H2.out _).mono ?_; clear H2; rintro e w3 ⟨rfl, b3⟩; have b3' : Below w2.heap.size w2 w3 := of_drew b3; have B3 : Hid (Below w.heap.size w w3) := B2.out.trans (b3'.mono B2.out.size); have S3 : Hid (∀ k, w.heap.size ≤ k → k < w2.heap.size → w3.heap[k]? = w2.heap[k]?) := fun k _ hk => b3'.block k hk; have C1 : Hid ((fun wx => wx.cell? ⟨cb, co, none⟩ = some (.slice (some ⟨xb, xo, none⟩) m xc) ∧ wx.cell? ⟨p, 0, none⟩ = some (.int .i64 c_) ∧ wx.cell? ⟨p, 1, none⟩ = some (.int .i64 r_) ∧ wx.cell? ⟨p, 2, none⟩ = some (.int .i64 1) ∧ wx.cell? ⟨p, 3, none⟩ = some (.int .i64 (B : Int)) ∧ wx.cell? ⟨p, 4, none⟩ = some (.int .i64 (N : Int)) ∧ wx.cell? ⟨p, 5, none⟩ = some (.int .i64 m_) ∧ wx.cell? ⟨p, 6, none⟩ = some (.int .i64 j_) ∧ wx.cell? ⟨p, 7, none⟩ = some (.int .i64 p_) ∧ wx.cell? ⟨p, 8, none⟩ = some (.int .i64 l_) ∧ wx.cell? ⟨p, 9, none⟩ = some (.int .i64 y_)) w3) := show _ ∧ _ from (by have xs := oc_cells (HOb.out w3 B3.out); dsimp only at xs; obtain ⟨x0, x1, x2, x3, x4, x5, x6, x7, x8, x9, x10⟩ := xs; exact ⟨(HC0.out w3 S3.out).1, x0, x1, x2, x3, x4, x5, x6, x7, x8, x9⟩); clear b3 b3'))
  all_goals (
    clear C0 C1 HC0 HOb
    go_wp2
    go_ret2
    exact ⟨rfl, B3.out⟩)

end Sub
end Go.Proofs.YtcaifpjbjghhaaaGreatDoor

/-
  The chapter's example. Conditions: the polynomial's numbers and the offsets stand as their initialisers lay them; one goroutine.
-/
namespace Go.Proofs.YtcaifpjbjghhaaaGreatDoor
set_option linter.unusedVariables false
open Go.RowKit
namespace Sub
open Bank (Blk But)
open Poly (Reads cell_keep alloc_size Spl Joi enc)
open _root_.Go.Proofs.YtcaifpjbjghhaaaGreatDoor.Form (fv fc bel1 box_cells blk_below of_drew)

def f0 : M.Fmt := ⟨1, 0, 1, 4, 4, 0, 0, 2, 0, 0⟩
theorem f0_sb : Sb f0 1 4 4 0 := ⟨by unfold M.okS; decide, rfl, rfl, rfl, rfl⟩
theorem f0_pay : M.pay f0 = (7 : Nat) := by decide
theorem f0_head (sl : Int) (m : Nb) : (M.frb f0 1 4 4 0 sl m 7)[0]? = some 156 ∧ (M.frb f0 1 4 4 0 sl m 7)[1]? = some 0 ∧ (M.frb f0 1 4 4 0 sl m 7)[2]? = some 2 := by
  have hh : ∀ j, j < 24 → (M.frm f0 1 4 4 0 sl m).getD j false = (M.fmH f0 8).getD j false := fun j hj => by
    have hl := M.fmH_length f0
    unfold M.frm
    rw [List.getD_eq_getElem?_getD, List.getD_eq_getElem?_getD, List.append_assoc, List.append_assoc, List.getElem?_append_left (by rw [hl]; omega)]
  have key : ∀ t, t < 3 → (M.frb f0 1 4 4 0 sl m 7)[t]? = some (M.byteOf (fun j => (M.fmH f0 8).getD j false) t) := fun t ht => by
    unfold M.frb M.raw
    rw [List.getElem?_set_ne (by omega)]
    have := Bits.bytesL_getD (n := 7) (fun j => (M.frm f0 1 4 4 0 sl m).getD j false) (i := t) (by omega)
    have hl : (Bits.bytesL 7 fun j => (M.frm f0 1 4 4 0 sl m).getD j false).length = 7 := Bits.bytesL_length _ _
    rw [List.getD_eq_getElem?_getD, List.getElem?_eq_getElem (by omega)] at this
    rw [List.getElem?_eq_getElem (by omega)]
    congr 1
    refine Eq.trans this ?_
    exact M.byteOf_congr (n := 3) (fun i hi => hh i (by omega)) ht
  exact ⟨by rw [key 0 (by omega)]; decide, by rw [key 1 (by omega)]; decide, by rw [key 2 (by omega)]; decide⟩

theorem psc_sh {f : M.Fmt} {C B N r n : Nat} {xs : List Nat} (hF : Sb f C B N r) (hl : xs.length = n) (hn : M.pay f = n) : ∃ sl, Sh f C B r (psc f C B xs) sl := by
  have hends := M.ends (f := f) (.inl hF.ok)
  rw [hn] at hends
  have hbit : M.bitS f ≤ 8 * (n : Int) := by have := hends.2.2.2.2; unfold M.bitF at this; rw [if_pos hF.ok.1] at this; exact this
  exact (M.sc_sh (Bt := Bits.bitsL xs) (n := xs.length) hF (by rw [hl]; exact hbit)).2

theorem alive_steps (w w1 w2 : World) (hT : Wave.Tab w) (hA : Alloc.Tabs w) (s1 : w1.heap.size = w.heap.size + 1) (hB : Bank.Bank w.heap.size [] 0 (w.heap.size + 1) w1) (b1 : Below w.heap.size w w1) (b2 : Below w1.heap.size w1 w2) :
    Calls Tryz.prog 27 #[.pointer (some ⟨w.heap.size, 0, none⟩), fv f0] w2 fun e w3 => ∃ p, e = .returned (.tuple #[.pointer (some ⟨p, 0, none⟩), .int .i64 0]) ∧
    Calls Tryz.prog 30 #[.pointer (some ⟨p, 0, none⟩), .slice (some ⟨w3.heap.size, 0, none⟩) 16 16] (w3.alloc (.cells (enc .i16 (List.replicate 16 0)).toArray 182)) fun e w4 => ∃ g0 cap, e = .returned (.tuple #[.slice (some ⟨g0, 0, none⟩) 7 cap, .int .i64 0]) ∧
    Calls Tryz.prog 30 #[.pointer (some ⟨p, 0, none⟩), .slice (some ⟨w4.heap.size, 0, none⟩) 15 15] (w4.alloc (.cells (enc .i16 (List.replicate 15 0)).toArray 182)) fun e w5 => e = .returned (.tuple #[.slice none 0 0, .int .i64 1]) ∧
    ∀ w6, Below w5.heap.size w5 w6 → Calls Tryz.prog 24 #[fv f0, .slice (some ⟨g0, 0, none⟩) 7 cap] w6 fun e w7 => ∃ aj az ac, e = .returned (.tuple #[.agg #[.slice (some ⟨aj, 0, none⟩) 4 4, .slice (some ⟨az, 0, none⟩) 1 1, .slice (some ⟨ac, 0, none⟩) 4 4], .int .i64 0]) ∧
      ∀ c t, (w7.alloc (.cells c t)).cell? ⟨g0, 0, none⟩ = some (.int .u8 156) ∧ (w7.alloc (.cells c t)).cell? ⟨g0, 1, none⟩ = some (.int .u8 0) ∧ (w7.alloc (.cells c t)).cell? ⟨g0, 2, none⟩ = some (.int .u8 2) ∧ Below w.heap.size w (w7.alloc (.cells c t)) := by
  have s2 := b2.size
  have b12 : Below w.heap.size w w2 := b1.trans (b2.mono (by omega))
  refine (NewEncoder_ok w.heap.size f0 1 4 4 0 (w.heap.size + 1) w2 (Bank.tab_below b12 (Nat.le_refl _) hT) (hB.below b2 (by omega)) f0_sb).mono ?_
  rintro e w3 ⟨p, l, lo, g, rfl, hl, he, hbt⟩
  have b3 : Below w.heap.size w w3 := Poly.below_but b12 hbt (Nat.le_refl _) (Nat.le_refl _)
  have s3 := hbt.size
  have hgl : ∀ c, c < 1 → w.heap.size ≤ g c := fun c hc => by have := he.gl hc; omega
  refine ⟨p, rfl, ?_⟩
  have hpl := he.lt
  have b3a : Below w3.heap.size w3 (w3.alloc (.cells (enc .i16 (List.replicate 16 0)).toArray 182)) := bel1 _ _
  have b03 := b3.trans (b3a.mono b3.size)
  obtain ⟨sl, hS⟩ := sh_of f0_sb (Z := M.anS f0 4 4 (M.enX 4 4 1 (List.replicate 16 0) (fun _ => List.replicate (10 * 4) 0))) (fun c _ b _ => M.anS_bd _ _ _ _ _ _)
  refine (Feed_ok p l 1 4 4 0 7 f0 lo g _ sl w3.heap.size (w3.heap.size + 1) (List.replicate 16 0) _ _ (fun wx hx => hA.below (b03.trans (hx.to_below hgl b03.size)) (Nat.le_refl _)) f0_sb (he.below b3a hpl) (Poly.reads_new16 w3 16) (by simp) (by simp) hS f0_pay).mono ?_
  rintro e w4 ⟨u, rfl, ho, he4, hl4⟩
  have b04 : Below w.heap.size w w4 := b03.trans (hl4.to_below hgl b03.size)
  obtain ⟨au, cu, rfl⟩ := Poly.own_form ho
  have hlen : (M.frb f0 1 4 4 0 sl (M.an f0 1 4 4 0 sl (M.enX 4 4 1 (List.replicate 16 0) (fun _ => List.replicate (10 * 4) 0))) 7).length = 7 := M.frb_length
  obtain ⟨FR, hFR⟩ : ∃ FR, M.frb f0 1 4 4 0 sl (M.an f0 1 4 4 0 sl (M.enX 4 4 1 (List.replicate 16 0) (fun _ => List.replicate (10 * 4) 0))) 7 = FR := ⟨_, rfl⟩
  have hhd := f0_head sl (M.an f0 1 4 4 0 sl (M.enX 4 4 1 (List.replicate 16 0) (fun _ => List.replicate (10 * 4) 0)))
  have hfr := fun sl' hS' => frame_is (sl' := sl') f0_sb (m := M.an f0 1 4 4 0 sl (M.enX 4 4 1 (List.replicate 16 0) (fun _ => List.replicate (10 * 4) 0))) (n := 7) hS (M.an_ok f0_sb) f0_pay (fun c _ b _ => M.anS_bd _ _ _ _ _ _) hS'
  have hlt : ∀ x ∈ FR, x < 256 := by rw [← hFR]; exact M.frb_lt
  rw [hFR] at ho hlen hhd
  have hg : Byt.Given w4 (.slice au 7 cu) FR := Byt.given_own (by rw [hlen]; exact ho) hlt
  obtain ⟨g0, rfl, hg0⟩ : ∃ g0, au = some ⟨g0, 0, none⟩ ∧ g0 < w4.heap.size := by
    rcases id ho.2 with ⟨_, h0⟩ | ⟨g0, cap, cur, h1, _, h3, _⟩
    · omega
    · cases h1; exact ⟨g0, rfl, (Array.getElem?_eq_some_iff.1 h3).1⟩
  have hcells : ∀ i x, FR[i]? = some x → w4.cell? ⟨g0, i, none⟩ = some (.int .u8 (x : Nat)) := fun i x hx => by
    have := ho.cells (g := g0) rfl i (.int .u8 (x : Nat)) (by rw [List.getElem?_map, hx]; rfl)
    rw [Poly.add_at] at this
    exact this
  refine ⟨g0, cu, rfl, ?_⟩
  have b4a : Below w4.heap.size w4 (w4.alloc (.cells (enc .i16 (List.replicate 15 0)).toArray 182)) := bel1 _ _
  refine (Feed_len p l 4 4 0 15 f0 lo g _ w4.heap.size (w4.heap.size + 1) (List.replicate 15 0) _ _ f0_sb (he4.below b4a he4.lt) (Poly.reads_new16 w4 15) (by simp) (by simp) (by omega) (by omega) (by omega)).mono ?_
  rintro e w5 ⟨rfl, b5⟩
  refine ⟨rfl, fun w6 b6 => ?_⟩
  have b45 : Below w4.heap.size w4 w5 := b4a.trans (b5.mono b4a.size)
  have b46 : Below w4.heap.size w4 w6 := b45.trans (b6.mono b45.size)
  have b06 := b04.trans (b46.mono b04.size)
  obtain ⟨sl', hS'⟩ := psc_sh (xs := FR) f0_sb hlen f0_pay
  have hf := hfr sl' (by rw [hFR]; exact hS')
  rw [hFR] at hf
  obtain ⟨rfl, _, hisF⟩ := hf
  refine (Parse_any f0 1 4 4 0 7 _ FR sl' w6 (hA.below b06 (Nat.le_refl _)) f0_sb hS' (hg.below b46 (Nat.le_refl _)) hlen f0_pay).mono ?_
  rintro e w7 ⟨b7, ⟨_, aj, az, ac, E, pf, rfl, _⟩ | ⟨hno, _⟩⟩
  · refine ⟨aj, az, ac, rfl, fun c t => ?_⟩
    have b67 := b46.trans (b7.mono b46.size)
    have b48 : Below w4.heap.size w4 (w7.alloc (.cells c t)) := b67.alloc b67.size _
    have b08 := b04.trans (b48.mono b04.size)
    exact ⟨(b48.cell (p := ⟨g0, 0, none⟩) hg0).trans (hcells 0 156 hhd.1), (b48.cell (p := ⟨g0, 1, none⟩) hg0).trans (hcells 1 0 hhd.2.1), (b48.cell (p := ⟨g0, 2, none⟩) hg0).trans (hcells 2 2 hhd.2.2), b08⟩
  · exact absurd hisF hno

set_option maxRecDepth 100000 in
theorem plain_any (w : World) : Calls Tryz.prog 40 #[] w fun e w' => e = .returned (fv f0) ∧ Below w.heap.size w w' := by
  have hb := bel1 w (.cells (fc f0) 23)
  have HB : Hid (Below w.heap.size w _) := hb
  obtain ⟨x0, x1, x2, x3, x4, x5, x6, x7, x8, x9⟩ := box_cells (Blk.new w (fc f0) 23)
  clear hb
  unfold fc f0 at HB x0 x1 x2 x3 x4 x5 x6 x7 x8 x9
  unfold fv f0
  dsimp only at HB x0 x1 x2 x3 x4 x5 x6 x7 x8 x9 ⊢
  go_enter Tryz.func40, Tryz.ntmps40
  go_wp2
  refine bodyPost_ret (v := .agg #[.int .i64 1, .int .i64 0, .int .i64 1, .int .i64 4, .int .i64 4, .int .i64 0, .int .i64 0, .int .i64 2, .int .i64 0, .int .i64 0]) (by simp [results, Tryz.results40, go_sem, x0, x1, x2, x3, x4, x5, x6, x7, x8, x9]) rfl ?_
  exact ⟨rfl, HB.out⟩

set_option maxRecDepth 100000 in
set_option maxHeartbeats 1000000 in
theorem alive_any (w : World) (hT : Wave.Tab w) (hA : Alloc.Tabs w) : Calls Tryz.prog 11 #[] w fun e w' => e = .returned (.bool true) ∧ Below w.heap.size w w' := by
  have hm16 : ∀ wx : World, (Instr.makeSlice 55 (.int .i64 16) (.int .i64 16)).run Tryz.prog wx = .ok (.slice (some ⟨wx.heap.size, 0, none⟩) 16 16) (wx.alloc (.cells (enc .i16 (List.replicate 16 0)).toArray 182)) := fun wx => Poly.make16 wx 16 (by omega)
  have hm15 : ∀ wx : World, (Instr.makeSlice 55 (.int .i64 15) (.int .i64 15)).run Tryz.prog wx = .ok (.slice (some ⟨wx.heap.size, 0, none⟩) 15 15) (wx.alloc (.cells (enc .i16 (List.replicate 15 0)).toArray 182)) := fun wx => Poly.make16 wx 15 (by omega)
  have hst := fun w1 w2 s1 hB b1 b2 => alive_steps w w1 w2 hT hA s1 hB b1 b2
  generalize (enc .i16 (List.replicate 16 0)).toArray = C16 at *
  generalize (enc .i16 (List.replicate 15 0)).toArray = C15 at *
  have hpl := fun wx => plain_any wx
  have HPl : Hid (∀ wx, Calls _ _ _ wx _) := hpl
  have HSt : Hid _ := hst
  clear hst hpl hT hA
  unfold fv f0 at HPl HSt
  dsimp only at HPl HSt
  go_enter Tryz.func11, Tryz.ntmps11
  go_wp2_with (first
    | (go_at_call 28; refine (Bank.new_any w).mono ?_; rintro e w1 ⟨rfl, s1, hB, b1⟩; have h1 := fun w2 b2 => HSt.out w1 w2 s1 hB b1 b2; have H1 : Hid _ := h1; clear HSt h1 s1 hB b1)
    | (go_at_call 40; refine (HPl.out _).mono ?_; rintro e w2 ⟨rfl, b2⟩; first | (have h1 := H1.out w2 b2; clear H1) | (have h4 := H4.out w2 b2; clear H4))
    | (go_at_call 27; refine h1.mono ?_; clear h1; rintro e w3 ⟨p, rfl, h2⟩; have H2 : Hid (Calls _ _ _ _ _) := h2; clear h2)
    | (go_at_call 30; first | (refine H2.out.mono ?_; clear H2; rintro e w4 ⟨g0, cap, rfl, h3⟩; have H3 : Hid (Calls _ _ _ _ _) := h3; clear h3) | (refine H3.out.mono ?_; clear H3; rintro e w5 ⟨rfl, h4⟩; have H4 : Hid _ := h4; clear h4))
    | (go_at_call 24; refine h4.mono ?_; clear h4; rintro e w7 ⟨aj, az, ac, rfl, h5⟩; obtain ⟨y0, y1, y2, hb⟩ := h5 #[.slice (some ⟨aj, 0, none⟩) 4 4, .slice (some ⟨az, 0, none⟩) 1 1, .slice (some ⟨ac, 0, none⟩) 4 4] 33; have HB : Hid (Below _ _ _) := hb; clear hb h5))
  go_ret
  exact ⟨rfl, HB.out⟩

end Sub
end Go.Proofs.YtcaifpjbjghhaaaGreatDoor

/-
  A frame that is made, parsed, packed again and turned into planes: the calls behind one another. Conditions: as told at each.
-/
namespace Go.Proofs.YtcaifpjbjghhaaaGreatDoor
set_option linter.unusedVariables false
open Go.RowKit
namespace Sub
open Bank (Blk But)
open Byt (Given)
open Poly (Reads cell_keep alloc_size Spl Joi enc)
open _root_.Go.Proofs.YtcaifpjbjghhaaaGreatDoor.Form (fv fc bel1 box_cells blk_below of_drew)

end Sub
end Go.Proofs.YtcaifpjbjghhaaaGreatDoor

/-
  Contract of an encoder's Reset; samples that are copied into a new block. Conditions: as told at each.
-/
namespace Go.Proofs.YtcaifpjbjghhaaaGreatDoor
set_option linter.unusedVariables false
open Go.RowKit
namespace Sub
open Bank (Blk But)
open Poly (Reads cell_keep alloc_size Spl Joi enc enc_length enc_get add_off enc_one fit16)
open _root_.Go.Proofs.YtcaifpjbjghhaaaGreatDoor.Form (fv fc bel1 box_cells blk_below of_drew)

theorem Enc.fed {p l C B : Nat} {f : M.Fmt} {lo g : Nat → Nat} {L L' : Nat → List Int} {w w2 : World} {q : Nat} {xs : List Int} (h : Enc p l C B f lo g L w) (hq : q < C) (hb : But (g q) w w2) (hx : Spl (lo q) (g q) B xs w2) (hL : L' q = xs) (ho : ∀ c, c ≠ q → L' c = L c) : Enc p l C B f lo g L' w2 :=
  ⟨hb.blk h.obj (by have := h.gl hq; omega), h.spl.fed hq hb hx hL ho, h.lp⟩

theorem Reads.rest {k : IntKind} {lo hi L c b off : Nat} {w : World} {zs : List Int} (h : Reads k lo hi w (.slice (some ⟨b, off, none⟩) L c) zs) {a : Nat} (ha : a < L) : Reads k lo hi w (.slice (some ⟨b, off + a, none⟩) (L - a) (c - a)) (zs.drop a) := by
  obtain ⟨a', c', he, hc, hw, hx⟩ := h
  cases he
  rcases hx with h0 | ⟨b', o', h1, h2, h3, h4⟩
  · rw [h0] at ha; simp at ha
  · cases h1
    have hl : (zs.drop a).length = zs.length - a := by simp
    refine ⟨_, c - a, by rw [hl], by rw [hl]; omega, fun z hz => hw z (List.mem_of_mem_drop hz), .inr ⟨b, off + a, rfl, h2, h3, fun j hj => ?_⟩⟩
    rw [hl] at hj
    have := h4 (a + j) (by omega)
    rw [← Nat.add_assoc] at this
    rw [this]
    congr 2
    rw [List.getD_eq_getElem?_getD, List.getD_eq_getElem?_getD, List.getElem?_drop]
end Sub
end Go.Proofs.YtcaifpjbjghhaaaGreatDoor

