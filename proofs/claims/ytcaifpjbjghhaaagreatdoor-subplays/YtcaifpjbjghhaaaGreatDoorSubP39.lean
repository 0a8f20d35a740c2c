import Derived.Test.YtcaifpjbjghhaaaGreatDoorSubP38
import Derived.Test.YtcaifpjbjghhaaaGreatDoorSubP35
/-
  Contract of Pack: the frame of parameters. Conditions: as told at each.
-/
namespace Go.Proofs.YtcaifpjbjghhaaaGreatDoor
set_option linter.unusedVariables false
open Go.RowKit Go.Shelf
namespace M
def raw (f : Fmt) (C B N r : Nat) (sl : Int) (m : Sub.Nb) (n : Nat) : List Nat := Bits.bytesL n fun j => (frm f C B N r sl m).getD j false
def fsum (f : Fmt) (C B : Nat) (xs : List Nat) : Nat := run 8 29 (bitL (Sub.sbyt xs)) 15 (Sub.sbits f B C)
def frb (f : Fmt) (C B N r : Nat) (sl : Int) (m : Sub.Nb) (n : Nat) : List Nat := (raw f C B N r sl m n).set 3 (fsum f C B (raw f C B N r sl m n))
theorem raw_length {f : Fmt} {C B N r : Nat} {sl : Int} {m : Sub.Nb} {n : Nat} : (raw f C B N r sl m n).length = n := Bits.bytesL_length _ _
theorem frb_length {f : Fmt} {C B N r : Nat} {sl : Int} {m : Sub.Nb} {n : Nat} : (frb f C B N r sl m n).length = n := by unfold frb; rw [List.length_set, raw_length]
theorem raw_lt {f : Fmt} {C B N r : Nat} {sl : Int} {m : Sub.Nb} {n : Nat} : ∀ x ∈ raw f C B N r sl m n, x < 256 := by
  intro x hx
  obtain ⟨j, _, rfl⟩ := List.mem_map.1 hx
  exact byteOf_lt _ _
theorem fsum_lt (f : Fmt) (C B : Nat) (xs : List Nat) : fsum f C B xs < 256 := run_lt 8 29 15 _ _ (by decide) (by decide)
theorem frb_lt {f : Fmt} {C B N r : Nat} {sl : Int} {m : Sub.Nb} {n : Nat} : ∀ x ∈ frb f C B N r sl m n, x < 256 := by
  intro x hx
  rcases List.mem_or_eq_of_mem_set hx with h | rfl
  · exact raw_lt x h
  · exact fsum_lt _ _ _ _
end M
namespace Sub
open Bank (Blk)
open Byt (Given)
open Poly (Reads cell_keep alloc_size)
open _root_.Go.Proofs.YtcaifpjbjghhaaaGreatDoor.Form (fv fc bel1 Says box_cells box_behind blk_below of_drew)

theorem row_at {w : World} {base n cap g : Nat} {e : TypeId} {xs : List Value} (h : w.ownsRow base e 1 (.slice (some ⟨g, 0, none⟩) n cap) n xs) {i : Nat} (hi : i < n) :
    base ≤ g ∧ g < w.heap.size ∧ ∃ u, xs[i]? = some u ∧ w.cell? ⟨g, i, none⟩ = some u ∧ w.frozen? ⟨g, i, none⟩ = false := by
  obtain ⟨h0, ⟨h1, _⟩ | ⟨g', cap', cur, hv, hg, hh, h1, h2, h3, h4⟩⟩ := h
  · cases h1
  · cases hv
    have hl : i < xs.length := by omega
    refine ⟨hg, (Array.getElem?_eq_some_iff.1 hh).1, xs[i], List.getElem?_eq_getElem hl, ?_, ?_⟩
    · have : (cur.toList.take (n * 1))[i]? = some xs[i] := by rw [h4]; exact List.getElem?_eq_getElem hl
      rw [List.getElem?_take_of_lt (by omega), Array.getElem?_toList] at this
      simp [World.cell?, hh, this]
    · simp [World.frozen?, hh]
theorem row_set {w : World} {base n cap g : Nat} {e : TypeId} {xs : List Value} (h : w.ownsRow base e 1 (.slice (some ⟨g, 0, none⟩) n cap) n xs) {i : Nat} (hi : i < n) (u : Value) :
    (w.setCell ⟨g, i, none⟩ u).ownsRow base e 1 (.slice (some ⟨g, 0, none⟩) n cap) n (xs.set i u) := by
  obtain ⟨h0, ⟨h1, _⟩ | ⟨g', cap', cur, hv, hg, hh, h1, h2, h3, h4⟩⟩ := h
  · cases h1
  · cases hv
    refine ⟨by simpa using h0, .inr ⟨g, cap, cur.setIfInBounds i u, rfl, hg, Bank.Blk.set hh i u, h1, h2, by simpa using h3, ?_⟩⟩
    rw [Array.toList_setIfInBounds, List.take_set, h4]
theorem set_below {w : World} {base : Nat} {a : Addr} (h : base ≤ a.block) (u : Value) : Below base w (w.setCell a u) := ⟨rfl, rfl, rfl, by simp [World.setCell], fun k hk => Below.heap_setCell _ _ _ _ (by omega)⟩

theorem V2.rows_at {k : IntKind} {hi n C : Nat} {b o c : Nat} {F : Nat → Nat → Int} {w : World} (h : V2 k hi (.slice (some ⟨b, o, none⟩) n c) n C F w) : ∃ rb ro rc : Nat → Nat, ∀ i, i < n → rb i < hi ∧ C ≤ rc i ∧ w.cell? ⟨b, o + i, none⟩ = some (.slice (some ⟨rb i, ro i, none⟩) C (rc i)) ∧ ∀ j, j < C → w.cell? ⟨rb i, ro i + j, none⟩ = some (.int k (F i j)) := by
  obtain ⟨b', o', c', he, hc, hb, hx⟩ := h
  cases he
  have hx' : ∀ i, ∃ t : Nat × Nat × Nat, i < n → t.1 < hi ∧ C ≤ t.2.2 ∧ w.cell? ⟨b, o + i, none⟩ = some (.slice (some ⟨t.1, t.2.1, none⟩) C t.2.2) ∧ ∀ j, j < C → w.cell? ⟨t.1, t.2.1 + j, none⟩ = some (.int k (F i j)) := fun i => by
    by_cases hi : i < n
    · obtain ⟨u, hu, b1, o1, c1, rfl, h1, h2, h3⟩ := hx i hi
      exact ⟨(b1, o1, c1), fun _ => ⟨h2, h1, hu, h3⟩⟩
    · exact ⟨(0, 0, 0), fun h => absurd h hi⟩
  exact ⟨fun i => (Classical.choose (hx' i)).1, fun i => (Classical.choose (hx' i)).2.1, fun i => (Classical.choose (hx' i)).2.2, fun i hi => Classical.choose_spec (hx' i) hi⟩
theorem sees_of {hi C B N : Nat} {vj vs vc : Value} {m : Nb} {w : World} (hj : V1 .i64 hi vj B m.j w) (hs : V2 .i64 hi vs C B m.s w) (hc : V3 .i64 hi vc N C B m.q w) : ∃ A : Ad, A.ok hi C B N ∧ Sees A C B N m w ∧ vj = A.vj B ∧ vs = A.vs C ∧ vc = A.vc N := by
  obtain ⟨bj, oj, cj, rfl, j1, j2, j3⟩ := hj
  obtain ⟨bs, os, cs, rfl, s1, s2, s3⟩ := id hs
  obtain ⟨rb, ro, rc, hr⟩ := hs.rows_at
  obtain ⟨bc, oc, cc, rfl, c1, c2, c3⟩ := hc
  have hx' : ∀ i, ∃ t : (Nat × Nat × Nat) × (Nat → Nat) × (Nat → Nat) × (Nat → Nat), i < N → t.1.1 < hi ∧ C ≤ t.1.2.2 ∧ w.cell? ⟨bc, oc + i, none⟩ = some (.slice (some ⟨t.1.1, t.1.2.1, none⟩) C t.1.2.2) ∧
      ∀ c, c < C → t.2.1 c < hi ∧ B ≤ t.2.2.2 c ∧ w.cell? ⟨t.1.1, t.1.2.1 + c, none⟩ = some (.slice (some ⟨t.2.1 c, t.2.2.1 c, none⟩) B (t.2.2.2 c)) ∧ ∀ b, b < B → w.cell? ⟨t.2.1 c, t.2.2.1 c + b, none⟩ = some (.int .i64 (m.q i c b)) := fun i => by
    by_cases hi : i < N
    · obtain ⟨u, hu, h2⟩ := c3 i hi
      obtain ⟨b1, o1, c1, rfl, h3, h4, h5⟩ := id h2
      obtain ⟨tb, to, tc, ht⟩ := h2.rows_at
      exact ⟨((b1, o1, c1), tb, to, tc), fun _ => ⟨h4, h3, hu, ht⟩⟩
    · exact ⟨((0, 0, 0), (fun _ => 0), (fun _ => 0), (fun _ => 0)), fun h => absurd h hi⟩
  refine ⟨⟨bj, oj, cj, bs, os, cs, bc, oc, cc, rb, ro, rc, fun i => (Classical.choose (hx' i)).1.1, fun i => (Classical.choose (hx' i)).1.2.1, fun i => (Classical.choose (hx' i)).1.2.2, fun i => (Classical.choose (hx' i)).2.1, fun i => (Classical.choose (hx' i)).2.2.1, fun i => (Classical.choose (hx' i)).2.2.2⟩, ?_, ?_, rfl, rfl, rfl⟩
  · exact ⟨⟨j2, j1⟩, ⟨s2, s1⟩, ⟨c2, c1⟩, fun c hc => ⟨(hr c hc).1, (hr c hc).2.1⟩, fun i hi => ⟨(Classical.choose_spec (hx' i) hi).1, (Classical.choose_spec (hx' i) hi).2.1⟩, fun i hi c hc => ⟨((Classical.choose_spec (hx' i) hi).2.2.2 c hc).1, ((Classical.choose_spec (hx' i) hi).2.2.2 c hc).2.1⟩⟩
  · exact ⟨fun c hc => (hr c hc).2.2.1, fun i hi => (Classical.choose_spec (hx' i) hi).2.2.1, fun i hi c hc => ((Classical.choose_spec (hx' i) hi).2.2.2 c hc).2.2.1, j3, fun c hc => (hr c hc).2.2.2, fun i hi c hc => ((Classical.choose_spec (hx' i) hi).2.2.2 c hc).2.2.2⟩

theorem V1.reads' {k : IntKind} {hi C : Nat} {v : Value} {f : Nat → Int} {w : World} (h : V1 k hi v C f w) (hf : ∀ j, j < C → (Lit.int k (f j)).wf = true) : Reads k 0 hi w v (rl C f) := by
  obtain ⟨b, o, c, rfl, hc, hb, hx⟩ := h
  refine ⟨_, c, by rw [rl_length], by rw [rl_length]; exact hc, fun z hz => ?_, .inr ⟨b, o, rfl, Nat.zero_le _, hb, fun j hj => ?_⟩⟩
  · obtain ⟨j, hj, rfl⟩ := List.mem_map.1 hz; exact hf j (by simpa using hj)
  · rw [rl_length] at hj
    rw [rl_get hj]; exact hx j hj

theorem okN_of {f : M.Fmt} {C B N r : Nat} {sl : Int} {m : Nb} (hZ : ∀ c, c < C → ∀ b, b < B → 0 ≤ m.s c b ∧ m.s c b ≤ 15) (h : okP (N := N) (C := C) (B := B) f.j (rl B m.j) m.q m.s (M.wid f C B r m.s sl)) : M.okN f C B N r sl m := by
  refine ⟨fun b hb => ?_, hZ, fun i hi c hc b hb => ?_⟩
  · have := h.1.2.2 b hb
    rw [rl_get hb] at this
    exact this
  · have := h.2 (⟨i, hi⟩, ⟨c, hc⟩, ⟨b, hb⟩)
    unfold okC Qnt.la at this
    dsimp only at this
    have hw := M.wid_bd f C B r m.s sl c b
    split at this
    · split at this
      · split at this
        · rename_i h1 h2 h3
          unfold M.wdN
          rw [h3, h2]; decide
        · exact absurd this (by decide)
      · split at this
        · rename_i h1 h2 h3
          unfold M.lvl at h3
          refine ⟨h3.1, ?_⟩
          unfold M.wdN
          exact Int.lt_trans h3.2 (by omega)
        · exact absurd this (by decide)
    · exact absurd this (by decide)

set_option maxRecDepth 100000 in
theorem putting_any (p : Nat) (w : World) : Calls Tryz.prog 71 #[.pointer (some ⟨p, 0, none⟩)] w fun e w' => e = .returned (.func (.func 132) #[] #[.pointer (some ⟨w.heap.size, 0, none⟩)]) ∧ w' = w.alloc (.cells #[.pointer (some ⟨p, 0, none⟩)] 116) := by
  go_enter Tryz.func71, Tryz.ntmps71
  go_wp2
  go_ret
  exact ⟨rfl, rfl⟩

set_option maxRecDepth 100000 in
theorem Pack_no (f : M.Fmt) (p : Value) (hp : ∃ x y z, p = pa x y z) (k : Int) (hk : k ≠ 0) (w : World) (hr : ∀ wx, Below w.heap.size w wx → Calls Tryz.prog 52 #[fv f, p] wx fun e w' => e = .returned (.int .i64 k) ∧ Below wx.heap.size wx w') :
    Calls Tryz.prog 23 #[fv f, p] w fun e w' => e = .returned (.tuple #[.slice none 0 0, .int .i64 k]) ∧ Below w.heap.size w w' := by
  obtain ⟨vj, vs, vc, rfl⟩ := hp
  have bel : Below w.heap.size w ((w.alloc (.cells (fc f) 23)).alloc (.cells #[vj, vs, vc] 33)) := (bel1 _ _).alloc (bel1 _ _).size _
  have hr1 := hr _ bel
  have HB : Hid (Below _ _ _) := bel
  clear hr bel
  have hk1 : (k == 0) = false := by simpa using hk
  have hk2 : (k != 0) = true := by simpa using hk
  unfold pa at hr1 ⊢
  obtain ⟨c_, r_, h_, b_, k_, m_, j_, p_, l_, y_⟩ := f
  unfold fv at hr1 ⊢
  unfold fc at hr1 HB
  dsimp only at hr1 HB ⊢
  go_enter Tryz.func23, Tryz.ntmps23
  go_wp2_with (go_at_call 52; refine hr1.mono ?_; clear hr1; rintro e w2 ⟨rfl, b2⟩; have B2 : Hid (Below _ _ w2) := b2; clear b2)
  go_ret2
  exact ⟨rfl, HB.out.trans (B2.out.mono HB.out.size)⟩

end Sub
end Go.Proofs.YtcaifpjbjghhaaaGreatDoor

/-
  Contract of Pack where the parameters may be. Conditions: as told at each.
-/
namespace Go.Proofs.YtcaifpjbjghhaaaGreatDoor
set_option linter.unusedVariables false
open Go.RowKit Go.Shelf
namespace Sub
open Bank (Blk)
open Byt (Given)
open Poly (Reads cell_keep alloc_size)
open _root_.Go.Proofs.YtcaifpjbjghhaaaGreatDoor.Form (fv fc bel1 Says box_cells box_behind blk_below of_drew)

set_option maxRecDepth 100000 in
set_option maxHeartbeats 4000000 in
theorem Pack_put (hi : Nat) (f : M.Fmt) (C B N r n : Nat) (A : Ad) (m : Nb) (sl : Int) (w : World) (hT : Alloc.Tabs w) (hF : Sb f C B N r) (hS : Sh f C B r m.s sl) (ok : A.ok hi C B N) (hs : Sees A C B N m w) (hh : hi ≤ w.heap.size)
    (hm : M.okN f C B N r sl m) (hn : M.pay f = n) (hr : ∀ wx, Below w.heap.size w wx → Calls Tryz.prog 52 #[fv f, pa (A.vj B) (A.vs C) (A.vc N)] wx fun e w' => e = .returned (.int .i64 0) ∧ Below wx.heap.size wx w') :
    Calls Tryz.prog 23 #[fv f, pa (A.vj B) (A.vs C) (A.vc N)] w fun e w' => (∃ v, e = .returned (.tuple #[v, .int .i64 0]) ∧ w'.ownsRow w.heap.size 5 1 v n ((M.frb f C B N r sl m n).map fun x : Nat => Value.int .u8 x)) ∧ Below w.heap.size w w' := by
  have hends := M.ends (f := f) (.inl hF.ok)
  rw [hn] at hends
  have hbit : M.bitS f ≤ 8 * n := by have := hends.2.2.2.2; unfold M.bitF at this; rw [if_pos hF.ok.1] at this; exact this
  have n7 : 7 ≤ n ∧ n ≤ 512 := ⟨by have := hends.2.2.1; omega, by have := hends.2.2.2.1; omega⟩
  obtain ⟨W1, hW1⟩ : ∃ W1, (w.alloc (.cells (fc f) 23)).alloc (.cells #[A.vj B, A.vs C, A.vc N] 33) = W1 := ⟨_, rfl⟩
  have bel : Below w.heap.size w W1 := by rw [← hW1]; exact (bel1 _ _).alloc (bel1 _ _).size _
  have hs1 : W1.heap.size = w.heap.size + 2 := by rw [← hW1]; simp
  have hf1 : Blk W1 w.heap.size (fc f) 23 := by rw [← hW1]; exact (Blk.new w _ _).alloc _
  have hp1 : Blk W1 (w.heap.size + 1) #[A.vj B, A.vs C, A.vc N] 33 := by
    rw [← hW1]
    have := Blk.new (w.alloc (.cells (fc f) 23)) #[A.vj B, A.vs C, A.vc N] 33
    rw [alloc_size] at this
    exact this
  -- the boxes stand
  have hce : ∀ wx, Below W1.heap.size W1 wx → wx.cell? ⟨w.heap.size, 0, none⟩ = some (.int .i64 f.c) ∧ wx.cell? ⟨w.heap.size, 1, none⟩ = some (.int .i64 f.r) ∧ wx.cell? ⟨w.heap.size, 2, none⟩ = some (.int .i64 f.h) ∧ wx.cell? ⟨w.heap.size, 3, none⟩ = some (.int .i64 f.b) ∧ wx.cell? ⟨w.heap.size, 4, none⟩ = some (.int .i64 f.k) ∧ wx.cell? ⟨w.heap.size, 5, none⟩ = some (.int .i64 f.m) ∧ wx.cell? ⟨w.heap.size, 6, none⟩ = some (.int .i64 f.j) ∧ wx.cell? ⟨w.heap.size, 7, none⟩ = some (.int .i64 f.p) ∧ wx.cell? ⟨w.heap.size, 8, none⟩ = some (.int .i64 f.l) ∧ wx.cell? ⟨w.heap.size, 9, none⟩ = some (.int .i64 f.y) ∧ wx.cell? ⟨w.heap.size + 1, 0, none⟩ = some (A.vj B) ∧ wx.cell? ⟨w.heap.size + 1, 1, none⟩ = some (A.vs C) ∧ wx.cell? ⟨w.heap.size + 1, 2, none⟩ = some (A.vc N) := fun wx hb => by
    obtain ⟨x0, x1, x2, x3, x4, x5, x6, x7, x8, x9⟩ := box_cells (blk_below hb hf1 hf1.lt)
    exact ⟨x0, x1, x2, x3, x4, x5, x6, x7, x8, x9, (blk_below hb hp1 hp1.lt).cell rfl, (blk_below hb hp1 hp1.lt).cell rfl, (blk_below hb hp1 hp1.lt).cell rfl⟩
  -- the calls, one behind the other
  have h1 := hr W1 bel
  have h2 : ∀ wx, Below W1.heap.size W1 wx → Calls Tryz.prog 69 #[fv f] wx fun e w' => e = .returned (.int .i64 (n : Int)) ∧ Below W1.heap.size W1 w' := fun wx hb => (Form.Payload_ok f wx (.inl hF.ok)).mono fun e w' ⟨he, hb'⟩ => ⟨by rw [he, hn], hb.trans (hb'.mono hb.size)⟩
  have h3 : ∀ wx, Below W1.heap.size W1 wx → Calls Tryz.prog 68 #[.int .i64 (n : Int)] wx fun e w3 => ∃ p, e = .returned (.tuple #[.pointer (some ⟨p, 0, none⟩), .int .i64 0]) ∧ Below W1.heap.size W1 w3 ∧
      Calls Tryz.prog 71 #[.pointer (some ⟨p, 0, none⟩)] w3.drew fun e w4 => ∃ x, e = .returned (.func (.func 132) #[] #[.pointer (some ⟨x, 0, none⟩)]) ∧ Below W1.heap.size W1 w4 ∧
      Calls Tryz.prog 70 #[fv f, pa (A.vj B) (A.vs C) (A.vc N), .func (.func 132) #[] #[.pointer (some ⟨x, 0, none⟩)]] w4 fun e w5 => e = .returned (.tuple #[]) ∧ Below W1.heap.size W1 w5 ∧
      Calls Tryz.prog 72 #[.pointer (some ⟨p, 0, none⟩)] w5 fun e w6 => ∃ g cap, e = .returned (.slice (some ⟨g, 0, none⟩) n cap) ∧ Below W1.heap.size W1 w6 ∧
      Calls Tryz.prog 73 #[fv f, .slice (some ⟨g, 0, none⟩) n cap] w6 fun e w7 => e = .returned (.int .u8 (M.fsum f C B (M.raw f C B N r sl m n) : Nat)) ∧ Below W1.heap.size W1 w7 ∧ (∃ u, w7.cell? ⟨g, 3, none⟩ = some u) ∧ w7.frozen? ⟨g, 3, none⟩ = false ∧ W1.heap.size ≤ g ∧
        (w7.setCell ⟨g, 3, none⟩ (.int .u8 (M.fsum f C B (M.raw f C B N r sl m n) : Nat))).ownsRow w.heap.size 5 1 (.slice (some ⟨g, 0, none⟩) n cap) n ((M.frb f C B N r sl m n).map fun x : Nat => Value.int .u8 x) := by
    intro wx hbx
    refine (Bits.New_ok n wx n7.2).mono ?_
    rintro e w3 ⟨p, b, c, d, rfl, lp, lb, lc, ld, up, ub, uc, ud, b3, own3⟩
    have b13 := hbx.trans (b3.mono hbx.size)
    refine ⟨p, rfl, b13, ?_⟩
    refine (putting_any p w3.drew).mono ?_
    rintro e w4 ⟨rfl, hw4⟩
    have hdz : w3.drew.heap.size = w3.heap.size := rfl
    have hs4 : w4.heap.size = w3.heap.size + 1 := by rw [hw4]; simp [hdz]
    have b34 : Below w3.heap.size w3 w4 := by rw [hw4]; exact of_drew (bel1 w3.drew _)
    have b14 := b13.trans (b34.mono b13.size)
    refine ⟨_, rfl, b14, ?_⟩
    rw [hdz]
    have hszx := hbx.size
    have hszb := bel.size
    have b0x := bel.trans (hbx.mono bel.size)
    have F : PadF A C B N n p b c d w3.heap.size (w3.heap.size + 1) wx.heap.size wx m := by
      refine ⟨?_, ?_, hT.below b0x (Nat.le_refl _), Nat.le_refl _, by have := b3.size; omega, ⟨by omega, by omega⟩, ⟨by omega, by omega⟩, by omega, by omega, by omega, by omega, n7.2, fun b hb => ?_, fun c hc b hb => ?_, fun i hi c hc b hb => ?_⟩
      · have hle : hi ≤ wx.heap.size := by have := b0x.size; omega
        exact ⟨⟨Nat.lt_of_lt_of_le ok.j.1 hle, ok.j.2⟩, ⟨Nat.lt_of_lt_of_le ok.s.1 hle, ok.s.2⟩, ⟨Nat.lt_of_lt_of_le ok.c.1 hle, ok.c.2⟩, fun c hc => ⟨Nat.lt_of_lt_of_le (ok.r c hc).1 hle, (ok.r c hc).2⟩, fun i hi => ⟨Nat.lt_of_lt_of_le (ok.h i hi).1 hle, (ok.h i hi).2⟩, fun i hi c hc => ⟨Nat.lt_of_lt_of_le (ok.t i hi c hc).1 hle, (ok.t i hi c hc).2⟩⟩
      · exact hs.keep ok fun k hk => b0x.block k (by omega)
      · have := hm.j b hb; have := hF.joint; omega
      · have := hm.s c hc b hb; omega
      · have := hm.q i hi c hc b hb
        have h16 : M.wdN f C B r m.s sl c b ≤ 16 := by have := M.wid_bd f C B r m.s sl c b; unfold M.wdN; omega
        have hp2 : (2 : Int) ^ M.wdN f C B r m.s sl c b ≤ 2 ^ 16 := by exact_mod_cast Nat.pow_le_pow_right (by decide) h16
        have h65 : (2 : Int) ^ 16 = 65536 := by decide
        omega
    have I0 : PadI A C B N n p b c d w3.heap.size (w3.heap.size + 1) wx.heap.size wx m [] m w4 := by
      refine ⟨rfl, fun k hk => (b34.block k (by have := b3.size; omega)).trans (b3.block k hk), ?_, ?_, by simp, by omega⟩
      · have h := own_keep own3 (fun k hk => b34.block k hk) up ub uc ud
        exact h
      · rw [hw4]
        have := Blk.new w3.drew #[.pointer (some ⟨p, 0, none⟩)] 116
        rw [hdz] at this
        exact this
    have eall := M.all_put (n := n) hF hS hm hbit
    refine (takeAll_any (tk_put F) f r sl [] m w4 hF (by rw [eall.1]; exact hS) (by rw [eall.1]; exact hm.s) I0).mono ?_
    rintro e w5 ⟨rfl, I5, a5⟩
    rw [eall.2] at I5
    have b15 : Below W1.heap.size W1 w5 := ⟨a5.os.trans b14.os, a5.tape.trans b14.tape, a5.output.trans b14.output, Nat.le_trans b14.size a5.size, fun k hk => (I5.base k (by omega)).trans (hbx.block k hk)⟩
    refine ⟨rfl, b15, ?_⟩
    refine (Bits.BytesP p b c d n _ 0 _ w5 I5.own n7.2).mono ?_
    rintro e w6 ⟨a', cap, rfl, own6, b6⟩
    have b16 := b15.trans (b6.mono b15.size)
    obtain ⟨g, rfl⟩ : ∃ g, a' = some ⟨g, 0, none⟩ := by
      obtain ⟨_, ⟨h, h0⟩ | ⟨g, cap', cur, h, _⟩⟩ := own6
      · omega
      · cases h; exact ⟨g, rfl⟩
    refine ⟨g, cap, rfl, b16, ?_⟩
    have hg6 : Given w6 (.slice (some ⟨g, 0, none⟩) n cap) (M.raw f C B N r sl m n) := row_given own6 M.raw_length M.raw_lt
    have hsb : sbits f B C ≤ 8 * (n - 2) := by
      have hb2 := hbit
      unfold M.bitS at hb2
      have e1 := hF.hB; have e2 := hF.hC; have e3 := hF.hN
      have hp := hF.ok.2.2.2.2.2.2.2.1
      have hkp : 0 ≤ f.k * f.p := Int.mul_nonneg (by omega) (by omega)
      have hbc : ((4 * (B * C) : Nat) : Int) = 4 * f.b * f.h := by rw [e1, e2]; push_cast; rw [Int.mul_assoc]
      have hj2 : ((if f.j = 1 then B else 0 : Nat) : Int) = if f.j = 1 then f.b else 0 := by split <;> simp [e1]
      unfold sbits
      omega
    refine (sumOf_any f C B N r _ _ w6 hF hg6 (by rw [M.raw_length]; exact n7.1) (by rw [M.raw_length]; exact n7.2) (by rw [M.raw_length]; exact hsb)).mono ?_
    rintro e w7 ⟨rfl, b7⟩
    have own7 := Byt.owns_below own6 b7 (Nat.le_refl _)
    obtain ⟨hg, _, u, _, hc7, hf7⟩ := row_at own7 (i := 3) (by omega)
    have hsz15 := b15.size
    refine ⟨rfl, b16.trans (b7.mono b16.size), ⟨u, hc7⟩, hf7, by omega, ?_⟩
    have := row_set own7 (i := 3) (by omega) (.int .u8 (M.fsum f C B (M.raw f C B N r sl m n) : Nat))
    have hfrb : (M.frb f C B N r sl m n).map (fun x : Nat => Value.int .u8 x) = ((M.raw f C B N r sl m n).map fun x : Nat => Value.int .u8 x).set 3 (.int .u8 (M.fsum f C B (M.raw f C B N r sl m n) : Nat)) := by
      unfold M.frb; rw [List.map_set]
    rw [hfrb]
    exact Byt.owns_base this (by omega)
  have HC : Hid _ := hce
  have H2 : Hid _ := h2
  have H3 : Hid _ := h3
  have HB : Hid (Below w.heap.size w W1) := bel
  have HC0 : Hid _ := hce W1 (Below.refl _ _)
  clear h2 h3 bel hT hF hS hs hce hr hm hends hbit hf1 hp1 ok hn hh
  have i3 : (3 : Int) < n := by omega
  generalize M.fsum f C B (M.raw f C B N r sl m n) = SM at *
  generalize (M.frb f C B N r sl m n).map (fun x : Nat => Value.int .u8 x) = RR at *
  unfold pa at h1 H3 ⊢
  unfold Ad.vj Ad.vs Ad.vc at h1 H3 hW1 HC HC0 ⊢
  obtain ⟨c_, r_, h_, b_, k_, m_, j_, p_, l_, y_⟩ := f
  unfold fv at h1 H2 H3 ⊢
  unfold fc at hW1
  dsimp only at h1 H2 H3 HC HC0 hW1 ⊢
  obtain ⟨x0, x1, x2, x3, x4, x5, x6, x7, x8, x9, y0, y1, y2⟩ := HC0.out
  clear HC0
  go_enter Tryz.func23, Tryz.ntmps23
  go_wp2_with (first
    | (go_at_call 52; refine h1.mono ?_; clear h1; rintro e w2 ⟨rfl, b2⟩; clear x0 x1 x2 x3 x4 x5 x6 x7 x8 x9 y0 y1 y2; obtain ⟨x0, x1, x2, x3, x4, x5, x6, x7, x8, x9, y0, y1, y2⟩ := HC.out w2 b2; have h2 := H2.out w2 b2; clear b2)
    | (go_at_call 69; refine h2.mono ?_; clear h2; rintro e w3 ⟨rfl, b3⟩; clear x0 x1 x2 x3 x4 x5 x6 x7 x8 x9 y0 y1 y2; obtain ⟨x0, x1, x2, x3, x4, x5, x6, x7, x8, x9, y0, y1, y2⟩ := HC.out w3 b3; have h3 := H3.out w3 b3; clear b3)
    | (go_at_call 68; refine h3.mono ?_; clear h3; rintro e w4 ⟨p, rfl, b4, h4⟩; clear x0 x1 x2 x3 x4 x5 x6 x7 x8 x9 y0 y1 y2; have C4 : Hid _ := HC.out w4 b4; have H4 : Hid (Calls _ _ _ _ _) := h4; clear b4 h4))
  go_region_held3 (fun wx => wx.cell? ⟨w.heap.size, 0, none⟩ = some (.int .i64 c_) ∧ wx.cell? ⟨w.heap.size, 1, none⟩ = some (.int .i64 r_) ∧ wx.cell? ⟨w.heap.size, 2, none⟩ = some (.int .i64 h_) ∧ wx.cell? ⟨w.heap.size, 3, none⟩ = some (.int .i64 b_) ∧ wx.cell? ⟨w.heap.size, 4, none⟩ = some (.int .i64 k_) ∧ wx.cell? ⟨w.heap.size, 5, none⟩ = some (.int .i64 m_) ∧ wx.cell? ⟨w.heap.size, 6, none⟩ = some (.int .i64 j_) ∧ wx.cell? ⟨w.heap.size, 7, none⟩ = some (.int .i64 p_) ∧ wx.cell? ⟨w.heap.size, 8, none⟩ = some (.int .i64 l_) ∧ wx.cell? ⟨w.heap.size, 9, none⟩ = some (.int .i64 y_) ∧ wx.cell? ⟨w.heap.size + 1, 0, none⟩ = some (.slice (some ⟨A.bj, A.oj, none⟩) B A.cj) ∧ wx.cell? ⟨w.heap.size + 1, 1, none⟩ = some (.slice (some ⟨A.bs, A.os, none⟩) C A.cs) ∧ wx.cell? ⟨w.heap.size + 1, 2, none⟩ = some (.slice (some ⟨A.bc, A.oc, none⟩) N A.cc))
    (first | exact C4.out | exact C5.out | exact C6.out)
    (first
      | (go_at_call 71; refine H4.out.mono ?_; clear H4; rintro e w5 ⟨x, rfl, b5, h5⟩; have C5 : Hid _ := HC.out w5 b5; have H5 : Hid (Calls _ _ _ _ _) := h5; clear b5 h5)
      | (go_at_call 70; refine H5.out.mono ?_; clear H5; rintro e w6 ⟨rfl, b6, h6⟩; have C6 : Hid _ := HC.out w6 b6; have H6 : Hid (Calls _ _ _ _ _) := h6; clear b6 h6))
  all_goals (
    obtain ⟨x0, x1, x2, x3, x4, x5, x6, x7, x8, x9, y0, y1, y2⟩ := C6.out
    have h6 := H6.out
    go_wp2_with (first
      | (go_at_call 72; refine h6.mono ?_; clear h6; rintro e w7 ⟨g, cap, rfl, b7, h7⟩; clear x0 x1 x2 x3 x4 x5 x6 x7 x8 x9 y0 y1 y2; obtain ⟨x0, x1, x2, x3, x4, x5, x6, x7, x8, x9, y0, y1, y2⟩ := HC.out w7 b7; clear b7)
      | (go_at_call 73; refine h7.mono ?_; clear h7; rintro e w8 ⟨rfl, b8, ⟨u, hcu⟩, hfr, hg, hrow⟩; have B8 : Hid (Below W1.heap.size W1 w8) := b8; have HG : Hid (W1.heap.size ≤ g) := hg; have HR : Hid (World.ownsRow _ _ _ _ _ _ _) := hrow; clear b8 hg hrow))
    go_ret2
    exact ⟨⟨_, rfl, HR.out⟩, HB.out.trans ((B8.out.trans (set_below HG.out _)).mono HB.out.size)⟩)

end Sub
end Go.Proofs.YtcaifpjbjghhaaaGreatDoor

/-
  Contract of blankParams. Conditions: as told at each.
-/
namespace Go.Proofs.YtcaifpjbjghhaaaGreatDoor
set_option linter.unusedVariables false
open Go.RowKit Go.Shelf
namespace Sub
open Bank (Blk)
open Poly (Reads cell_keep alloc_size)
open _root_.Go.Proofs.YtcaifpjbjghhaaaGreatDoor.Form (fv fc bel1 Says box_cells box_behind blk_below of_drew)

def nb0 : Nb := ⟨fun _ => 0, fun _ _ => 0, fun _ _ _ => 0⟩
theorem Rw.new (w : World) (B : Nat) : Rw w.heap.size B (fun _ => 0) (w.alloc (.cells (zers .i64 B) 3)) := ⟨_, Blk.new _ _ _, zers_size _ _, fun b hb => zers_get hb⟩

def Ks (h : Nat) (W1 wx : World) : Prop := wx.heap[h]? = W1.heap[h]? ∧ (∃ x y z, Blk wx (h + 1) #[x, y, z] 33) ∧ h + 2 ≤ wx.heap.size ∧ wx.os = W1.os ∧ wx.tape = W1.tape ∧ wx.output = W1.output
section
variable {h : Nat} {W1 wx w2 : World}
theorem Ks.alloc (k : Ks h W1 wx) (o : Obj) : Ks h W1 (wx.alloc o) := by
  obtain ⟨h1, ⟨x, y, z, h2⟩, h3, h4⟩ := k
  exact ⟨(Below.heap_alloc _ _ _ (by omega)).trans h1, ⟨x, y, z, h2.alloc o⟩, by simp; omega, h4⟩
theorem Ks.drew (k : Ks h W1 wx) : Ks h W1 wx.drew := k
theorem Ks.below (k : Ks h W1 wx) (b : Below wx.heap.size wx w2) : Ks h W1 w2 := by
  obtain ⟨h1, ⟨x, y, z, h2⟩, h3, h4, h5, h6⟩ := k
  exact ⟨(b.block _ (by omega)).trans h1, ⟨x, y, z, blk_below b h2 h2.lt⟩, by have := b.size; omega, b.os.trans h4, b.tape.trans h5, b.output.trans h6⟩
theorem Ks.set3 (k : Ks h W1 wx) (x y z : Value) : Ks h W1 (((wx.setCell ⟨h + 1, 0, none⟩ x).setCell ⟨h + 1, 1, none⟩ y).setCell ⟨h + 1, 2, none⟩ z) := by
  obtain ⟨h1, ⟨x', y', z', h2⟩, h3, h4⟩ := k
  have g : Blk (((wx.setCell ⟨h + 1, 0, none⟩ x).setCell ⟨h + 1, 1, none⟩ y).setCell ⟨h + 1, 2, none⟩ z) (h + 1) #[x, y, z] 33 := ((h2.set 0 x).set 1 y).set 2 z
  refine ⟨?_, ⟨x, y, z, g⟩, by simp [World.setCell]; omega, h4⟩
  rw [Below.heap_setCell _ _ _ _ (by show h ≠ h + 1; omega), Below.heap_setCell _ _ _ _ (by show h ≠ h + 1; omega), Below.heap_setCell _ _ _ _ (by show h ≠ h + 1; omega)]
  exact h1
theorem Ks.cells3 (k : Ks h W1 wx) (x y z : Value) : (((wx.setCell ⟨h + 1, 0, none⟩ x).setCell ⟨h + 1, 1, none⟩ y).setCell ⟨h + 1, 2, none⟩ z).cell? ⟨h + 1, 0, none⟩ = some x ∧ (((wx.setCell ⟨h + 1, 0, none⟩ x).setCell ⟨h + 1, 1, none⟩ y).setCell ⟨h + 1, 2, none⟩ z).cell? ⟨h + 1, 1, none⟩ = some y ∧ (((wx.setCell ⟨h + 1, 0, none⟩ x).setCell ⟨h + 1, 1, none⟩ y).setCell ⟨h + 1, 2, none⟩ z).cell? ⟨h + 1, 2, none⟩ = some z := by
  obtain ⟨h1, ⟨x', y', z', h2⟩, h3, h4⟩ := k
  have g : Blk (((wx.setCell ⟨h + 1, 0, none⟩ x).setCell ⟨h + 1, 1, none⟩ y).setCell ⟨h + 1, 2, none⟩ z) (h + 1) #[x, y, z] 33 := ((h2.set 0 x).set 1 y).set 2 z
  exact ⟨g.cell rfl, g.cell rfl, g.cell rfl⟩
end
structure HK (w w' : World) : Prop where
  size : w.heap.size ≤ w'.heap.size
  block : ∀ k, k < w.heap.size → w'.heap[k]? = w.heap[k]?
theorem HK.trans {a b c : World} (h : HK a b) (k : HK b c) : HK a c := ⟨Nat.le_trans h.size k.size, fun i hi => (k.block i (Nat.lt_of_lt_of_le hi h.size)).trans (h.block i hi)⟩
theorem hk_refl (w : World) : HK w w := ⟨Nat.le_refl _, fun _ _ => rfl⟩
theorem hk_alloc (w : World) (o : Obj) : HK w (w.alloc o) := ⟨by simp, fun k hk => Below.heap_alloc _ _ _ hk⟩
theorem blank_end {w W1 F : World} {B C N aj az ac E : Nat} {pf : Nat → Nat} {x y z : Value} (hb : Below w.heap.size w W1) (hk : HK W1 F) (ks : Ks w.heap.size W1 F) (J : Rw aj B (fun _ => 0) F) (G : Grd .i64 3 25 az C B (fun _ _ => 0) F) (Q : Cub .i64 3 25 26 ac E N C B pf (fun _ _ _ => 0) F)
    (s0 : W1.heap.size = w.heap.size + 2) (l1 : W1.heap.size ≤ aj ∧ aj < F.heap.size) (l2 : W1.heap.size ≤ az ∧ az + C < F.heap.size) (l3 : W1.heap.size ≤ ac ∧ E ≤ F.heap.size) (ap : Apart aj az ac E C) (F' : World) (hF : F' = ((F.setCell ⟨w.heap.size + 1, 0, none⟩ x).setCell ⟨w.heap.size + 1, 1, none⟩ y).setCell ⟨w.heap.size + 1, 2, none⟩ z) :
    Below w.heap.size w F' ∧ Apart aj az ac E C ∧ Made aj az ac E B C N pf nb0 F' ∧ (w.heap.size ≤ aj ∧ w.heap.size ≤ az ∧ w.heap.size ≤ ac) ∧ aj < F'.heap.size ∧ az + C < F'.heap.size ∧ E ≤ F'.heap.size := by
  have hz : F'.heap.size = F.heap.size := by rw [hF]; simp [World.setCell]
  have hne : ∀ k, k ≠ w.heap.size + 1 → F'.heap[k]? = F.heap[k]? := fun k hk => by
    rw [hF, Below.heap_setCell _ _ _ _ (by show k ≠ w.heap.size + 1; exact hk), Below.heap_setCell _ _ _ _ (by show k ≠ w.heap.size + 1; exact hk), Below.heap_setCell _ _ _ _ (by show k ≠ w.heap.size + 1; exact hk)]
  have hM : Made aj az ac E B C N pf nb0 F := ⟨J, G, Q⟩
  have e := ap.e
  obtain ⟨_, _, _, h4, h5, h6⟩ := ks
  refine ⟨⟨?_, ?_, ?_, by rw [hz]; have := hb.size; have := hk.size; omega, fun k hk' => ?_⟩, ap, hM.keep ap (L := W1.heap.size) (H := F.heap.size) ⟨by omega, by omega⟩ ⟨by omega, by omega⟩ ⟨by omega, by omega⟩ fun k k0 k1 => hne k (by omega), ⟨by omega, by omega, by omega⟩, by omega, by omega, by omega⟩
  · rw [hF]; exact h4.trans hb.os
  · rw [hF]; exact h5.trans hb.tape
  · rw [hF]; exact h6.trans hb.output
  · rw [hne k (by omega), hk.block k (by omega)]
    exact hb.block k hk'

set_option maxRecDepth 100000 in
set_option maxHeartbeats 4000000 in
theorem blank_any (f : M.Fmt) (C B N : Nat) (w : World) (hC : f.h = C) (hB : f.b = B) (hN : f.k = N) (C2 : C ≤ 2) (B8 : B ≤ 8) (N16 : N ≤ 16) :
    Calls Tryz.prog 44 #[fv f] w fun e w' => ∃ aj az ac E pf, e = .returned (pa (.slice (some ⟨aj, 0, none⟩) B B) (.slice (some ⟨az, 0, none⟩) C C) (.slice (some ⟨ac, 0, none⟩) N N)) ∧ Below w.heap.size w w' ∧
      Apart aj az ac E C ∧ Made aj az ac E B C N pf nb0 w' ∧ (w.heap.size ≤ aj ∧ w.heap.size ≤ az ∧ w.heap.size ≤ ac) ∧ aj < w'.heap.size ∧ az + C < w'.heap.size ∧ E ≤ w'.heap.size := by
  obtain ⟨W1, hW1⟩ : ∃ W1, (w.alloc (.cells (fc f) 23)).alloc (.cells #[.slice none 0 0, .slice none 0 0, .slice none 0 0] 33) = W1 := ⟨_, rfl⟩
  have bel : Below w.heap.size w W1 := by rw [← hW1]; exact (bel1 _ _).alloc (bel1 _ _).size _
  have hs1 : W1.heap.size = w.heap.size + 2 := by rw [← hW1]; simp
  have hf1 : Blk W1 w.heap.size (fc f) 23 := by rw [← hW1]; exact (Blk.new w _ _).alloc _
  have hp1 : Blk W1 (w.heap.size + 1) #[.slice none 0 0, .slice none 0 0, .slice none 0 0] 33 := by
    rw [← hW1]
    have := Blk.new (w.alloc (.cells (fc f) 23)) #[.slice none 0 0, .slice none 0 0, .slice none 0 0] 33
    rw [alloc_size] at this
    exact this
  have x2 : W1.cell? ⟨w.heap.size, 2, none⟩ = some (.int .i64 (C : Int)) := by rw [← hC]; exact hf1.cell rfl
  have x3 : W1.cell? ⟨w.heap.size, 3, none⟩ = some (.int .i64 (B : Int)) := by rw [← hB]; exact hf1.cell rfl
  have x4 : W1.cell? ⟨w.heap.size, 4, none⟩ = some (.int .i64 (N : Int)) := by rw [← hN]; exact hf1.cell rfl
  have y0 : W1.cell? ⟨w.heap.size + 1, 0, none⟩ = some (.slice none 0 0) := hp1.cell rfl
  have y1 : W1.cell? ⟨w.heap.size + 1, 1, none⟩ = some (.slice none 0 0) := hp1.cell rfl
  have y2 : W1.cell? ⟨w.heap.size + 1, 2, none⟩ = some (.slice none 0 0) := hp1.cell rfl
  have z0 := hp1.free 0
  have z1 := hp1.free 1
  have z2 := hp1.free 2
  have HB : Hid (Below w.heap.size w W1) := bel
  have HKp : Hid (∀ wx : World, Ks w.heap.size W1 wx → wx.cell? ⟨w.heap.size, 2, none⟩ = some (.int .i64 (C : Int)) ∧ wx.cell? ⟨w.heap.size, 3, none⟩ = some (.int .i64 (B : Int)) ∧ wx.cell? ⟨w.heap.size, 4, none⟩ = some (.int .i64 (N : Int))) := fun wx kb => by
    have k1 : Blk wx w.heap.size (fc f) 23 := kb.1.trans hf1
    exact ⟨by rw [← hC]; exact k1.cell rfl, by rw [← hB]; exact k1.cell rfl, by rw [← hN]; exact k1.cell rfl⟩
  have HKr : Hid (∀ wx : World, Ks w.heap.size W1 wx → (∃ t0 t1 t2, wx.cell? ⟨w.heap.size + 1, 0, none⟩ = some t0 ∧ wx.cell? ⟨w.heap.size + 1, 1, none⟩ = some t1 ∧ wx.cell? ⟨w.heap.size + 1, 2, none⟩ = some t2) ∧ wx.frozen? ⟨w.heap.size + 1, 0, none⟩ = false ∧ wx.frozen? ⟨w.heap.size + 1, 1, none⟩ = false ∧ wx.frozen? ⟨w.heap.size + 1, 2, none⟩ = false) := fun wx kb => by
    obtain ⟨_, ⟨x, y, z, k2⟩, _⟩ := kb
    exact ⟨⟨x, y, z, k2.cell rfl, k2.cell rfl, k2.cell rfl⟩, k2.free 0, k2.free 1, k2.free 2⟩
  have K : Hid (Ks w.heap.size W1 W1) := show Ks w.heap.size W1 W1 from ⟨rfl, ⟨_, _, _, hp1⟩, by omega, rfl, rfl, rfl⟩
  have HS1 : Hid (W1.heap.size = w.heap.size + 2) := hs1
  have hmkj := fun wx => mkI wx B (by omega)
  have hrow := fun wx => rowsI_any C B wx (by omega) (by omega)
  have hlai := fun wx => laidI_any N C B wx (by omega) (by omega) (by omega)
  have n0 : (0 : Int) ≤ N := by omega
  have b0 : (0 : Int) ≤ B := by omega
  have c0 : (0 : Int) ≤ C := by omega
  clear bel hf1 hp1 hs1
  obtain ⟨c_, r_, h_, b_, k_, m_, j_, p_, l_, y_⟩ := f
  obtain rfl : h_ = C := hC
  obtain rfl : b_ = B := hB
  obtain rfl : k_ = N := hN
  unfold fv
  unfold fc at hW1
  dsimp only at hW1 ⊢
  go_enter Tryz.func44, Tryz.ntmps44
  go_wp2
  try rw [hW1]
  clear hW1 x2 x3 x4 y0 y1 y2 z0 z1 z2
  refine wp_region_held_drew (S := Ks w.heap.size W1) (by kernel_rfl) K.out.drew (fun _ => ?_)
  refine wpAnyH_take (i := 0) (oi := ⟨some 3, _, _, _, _, _⟩) (v := ?_) rfl (by kernel_rfl) (by kernel_rfl) (by kernel_rfl) (fun _ _ _ h => h) (Or.inl ⟨by rfl, ?_⟩) K.out.drew ?_
  rotate_left
  · intro wx hx; obtain ⟨s1, s2, s3⟩ := HKp.out wx hx; go_simp; try with_reducible rfl
  try simp only [Act.put, List.setIfInBounds_toArray, List.set_cons_zero, List.set_cons_succ]
  refine wpAnyH_take (i := 1) (oi := ⟨some 4, _, _, _, _, _⟩) (v := ?_) rfl (by kernel_rfl) (by kernel_rfl) (by kernel_rfl) (fun _ _ _ h => h) (Or.inl ⟨by rfl, ?_⟩) K.out.drew ?_
  rotate_left
  · intro wx hx; obtain ⟨s1, s2, s3⟩ := HKp.out wx hx; go_simp; try with_reducible rfl
  try simp only [Act.put, List.setIfInBounds_toArray, List.set_cons_zero, List.set_cons_succ]
  refine wpAnyH_take (i := 3) (oi := ⟨some 6, _, _, _, _, _⟩) (v := ?_) rfl (by kernel_rfl) (by kernel_rfl) (by kernel_rfl) (fun _ _ _ h => h) (Or.inl ⟨by rfl, ?_⟩) K.out.drew ?_
  rotate_left
  · intro wx hx; obtain ⟨s1, s2, s3⟩ := HKp.out wx hx; go_simp; try with_reducible rfl
  try simp only [Act.put, List.setIfInBounds_toArray, List.set_cons_zero, List.set_cons_succ]
  refine wpAnyH_take (i := 4) (oi := ⟨some 7, _, _, _, _, _⟩) (v := ?_) rfl (by kernel_rfl) (by kernel_rfl) (by kernel_rfl) (fun _ _ _ h => h) (Or.inl ⟨by rfl, ?_⟩) K.out.drew ?_
  rotate_left
  · intro wx hx; obtain ⟨s1, s2, s3⟩ := HKp.out wx hx; go_simp; try with_reducible rfl
  try simp only [Act.put, List.setIfInBounds_toArray, List.set_cons_zero, List.set_cons_succ]
  refine wpAnyH_take (i := 5) (oi := ⟨some 8, _, _, _, _, _⟩) (v := ?_) rfl (by kernel_rfl) (by kernel_rfl) (by kernel_rfl) (fun _ _ _ h => h) (Or.inl ⟨by rfl, ?_⟩) K.out.drew ?_
  rotate_left
  · intro wx hx; obtain ⟨s1, s2, s3⟩ := HKp.out wx hx; go_simp; try with_reducible rfl
  try simp only [Act.put, List.setIfInBounds_toArray, List.set_cons_zero, List.set_cons_succ]
  refine wpAnyH_take (i := 6) (oi := ⟨some 9, _, _, _, _, _⟩) (v := ?_) rfl (by kernel_rfl) (by kernel_rfl) (by kernel_rfl) (fun _ _ _ h => h) (Or.inl ⟨by rfl, ?_⟩) K.out.drew ?_
  rotate_left
  · intro wx hx; obtain ⟨s1, s2, s3⟩ := HKp.out wx hx; go_simp; try with_reducible rfl
  try simp only [Act.put, List.setIfInBounds_toArray, List.set_cons_zero, List.set_cons_succ]
  refine wpAnyH_take (i := 8) (oi := ⟨some 11, _, _, _, _, _⟩) (v := ?_) rfl (by kernel_rfl) (by kernel_rfl) (by kernel_rfl) (fun _ _ _ h => h) (Or.inl ⟨by rfl, ?_⟩) K.out.drew ?_
  rotate_left
  · intro wx hx; obtain ⟨s1, s2, s3⟩ := HKp.out wx hx; go_simp; try with_reducible rfl
  try simp only [Act.put, List.setIfInBounds_toArray, List.set_cons_zero, List.set_cons_succ]
  refine wpAnyH_take (i := 9) (oi := ⟨some 12, _, _, _, _, _⟩) (v := ?_) rfl (by kernel_rfl) (by kernel_rfl) (by kernel_rfl) (fun _ _ _ h => h) (Or.inl ⟨by rfl, ?_⟩) K.out.drew ?_
  rotate_left
  · intro wx hx; obtain ⟨s1, s2, s3⟩ := HKp.out wx hx; go_simp; try with_reducible rfl
  try simp only [Act.put, List.setIfInBounds_toArray, List.set_cons_zero, List.set_cons_succ]
  refine wpAnyH_take (i := 10) (oi := ⟨some 13, _, _, _, _, _⟩) (v := ?_) rfl (by kernel_rfl) (by kernel_rfl) (by kernel_rfl) (fun _ _ _ h => h) (Or.inl ⟨by rfl, ?_⟩) K.out.drew ?_
  rotate_left
  · intro wx hx; obtain ⟨s1, s2, s3⟩ := HKp.out wx hx; go_simp; try with_reducible rfl
  try simp only [Act.put, List.setIfInBounds_toArray, List.set_cons_zero, List.set_cons_succ]
  refine wpAnyH_take (i := 11) (oi := ⟨some 14, _, _, _, _, _⟩) (v := ?_) rfl (by kernel_rfl) (by kernel_rfl) (by kernel_rfl) (fun _ _ _ h => h) (Or.inl ⟨by rfl, ?_⟩) K.out.drew ?_
  rotate_left
  · intro wx hx; obtain ⟨s1, s2, s3⟩ := HKp.out wx hx; go_simp; try with_reducible rfl
  try simp only [Act.put, List.setIfInBounds_toArray, List.set_cons_zero, List.set_cons_succ]
  refine wpAnyH_take (i := 12) (oi := ⟨some 15, _, _, _, _, _⟩) (v := ?_) rfl (by kernel_rfl) (by kernel_rfl) (by kernel_rfl) (fun _ _ _ h => h) (Or.inl ⟨by rfl, ?_⟩) K.out.drew ?_
  rotate_left
  · intro wx hx; obtain ⟨s1, s2, s3⟩ := HKp.out wx hx; go_simp; try with_reducible rfl
  try simp only [Act.put, List.setIfInBounds_toArray, List.set_cons_zero, List.set_cons_succ]
  refine wpAnyH_take (i := 13) (oi := ⟨some 16, _, _, _, _, _⟩) (v := ?_) rfl (by kernel_rfl) (by kernel_rfl) (by kernel_rfl) (fun _ _ _ h => h) (Or.inl ⟨by rfl, ?_⟩) K.out.drew ?_
  rotate_left
  · intro wx hx; obtain ⟨s1, s2, s3⟩ := HKp.out wx hx; go_simp; try with_reducible rfl
  try simp only [Act.put, List.setIfInBounds_toArray, List.set_cons_zero, List.set_cons_succ]
  refine wpAnyH_ready (rs := [2, 7]) (by kernel_rfl) (by simp) ?_
  refine AllReadyH.cons (o := ⟨some 5, _, _, _, _, _⟩) rfl (fun K' hK' => ?_) ?_
  · go_simp
    have k2 : Ks w.heap.size W1 (W1.alloc (.cells (zers .i64 B) 3)) := K.out.alloc _
    clear K
    have K : Hid (Ks w.heap.size W1 (W1.alloc (.cells (zers .i64 B) 3))) := k2
    clear k2
    refine hK'.out _ _ K.out.drew (fun _ => ?_)
    clear hK' K'
    try simp only [Act.put, List.setIfInBounds_toArray, List.set_cons_zero, List.set_cons_succ]
    refine wpAnyH_ready (rs := [7]) (by kernel_rfl) (by simp) ?_
    refine AllReadyH.cons (o := ⟨some 10, _, _, _, _, _⟩) rfl (fun K' hK' => ?_) ?_
    · go_simp
      refine (hrow _).mono ?_
      rintro e w2 ⟨rfl, b2, g2, s2⟩
      have k2 : Ks w.heap.size W1 w2 := Ks.below K.out.drew b2
      clear K
      have K : Hid (Ks w.heap.size W1 w2) := k2
      have B2 : Hid (Below _ _ w2) := b2
      have G2 : Hid (Grd _ _ _ _ _ _ _ _) := g2
      have S2 : Hid (w2.heap.size = _) := s2
      clear k2 b2 g2 s2
      refine hK'.out _ _ K.out (fun _ => ?_)
      clear hK' K'
      try simp only [Act.put, List.setIfInBounds_toArray, List.set_cons_zero, List.set_cons_succ]
      refine wpAnyH_ready (rs := [14]) (by kernel_rfl) (by simp) ?_
      refine AllReadyH.cons (o := ⟨some 17, _, _, _, _, _⟩) rfl (fun K' hK' => ?_) ?_
      · go_simp
        refine (hlai _).mono ?_
        rintro e w3 ⟨rfl, b3, s3, pf, g3⟩
        have k2 : Ks w.heap.size W1 w3 := Ks.below K.out b3
        clear K
        have K : Hid (Ks w.heap.size W1 w3) := k2
        have B3 : Hid (Below _ _ w3) := b3
        have G3 : Hid (Cub _ _ _ _ _ _ _ _ _ _ _ _) := g3
        have S3 : Hid (_ < w3.heap.size) := s3
        clear k2 b3 g3 s3
        refine hK'.out _ _ K.out (fun _ => ?_)
        clear hK' K'
        try simp only [Act.put, List.setIfInBounds_toArray, List.set_cons_zero, List.set_cons_succ]
        refine wpAnyH_take (i := 15) (oi := ⟨some 18, _, _, _, _, _⟩) (v := ?_) rfl (by kernel_rfl) (by kernel_rfl) (by kernel_rfl) (fun _ _ _ h => h) (Or.inl ⟨by rfl, ?_⟩) K.out ?_
        rotate_left
        · intro wx hx; go_simp; try with_reducible rfl
        try simp only [Act.put, List.setIfInBounds_toArray, List.set_cons_zero, List.set_cons_succ]
        obtain ⟨⟨v0, v1, v2, t0, t1, t2⟩, f0, f1, f2⟩ := HKr.out _ K.out
        refine wpAnyH_ready (rs := [16]) (by kernel_rfl) (by simp) ?_
        refine AllReadyH.cons (o := ⟨none, _, _, _, _, _⟩) rfl (fun K' hK' => ?_) AllReadyH.nil
        go_simp
        refine hK'.out _ _ (K.out.set3 _ _ _) (fun _ => ?_)
        clear hK' K'
        try simp only [Act.put, List.setIfInBounds_toArray, List.set_cons_zero, List.set_cons_succ]
        refine wpAnyH_done (by kernel_rfl) ?_ _
        clear HKp
        go_wp2
        have k1 : HK W1 (W1.alloc (.cells (zers .i64 B) 3)) := hk_alloc _ _
        have k2 : HK (W1.alloc (.cells (zers .i64 B) 3)) w2 := ⟨B2.out.size, B2.out.block⟩
        have k3 : HK w2 w3 := ⟨B3.out.size, B3.out.block⟩
        have s0 : W1.heap.size = w.heap.size + 2 := HS1.out
        have s1 : (W1.alloc (.cells (zers .i64 B) 3)).heap.size = W1.heap.size + 1 := alloc_size _ _
        have s2 : w2.heap.size = (W1.alloc (.cells (zers .i64 B) 3)).heap.size + 1 + C := S2.out
        have s3 : w2.heap.size < w3.heap.size := S3.out
        have J : Rw W1.heap.size B (fun _ => 0) w3 := (Rw.new W1 B).keep ((k2.trans k3).block _ (by omega))
        have G : Grd .i64 3 25 (W1.alloc (.cells (zers .i64 B) 3)).heap.size C B (fun _ _ => 0) w3 := (show Grd .i64 3 25 (W1.alloc (.cells (zers .i64 B) 3)).heap.size C B (fun _ _ => 0) w2 from G2.out).keep fun k k0 k1 => k3.block _ (by omega)
        have Q : Cub .i64 3 25 26 w2.heap.size w3.heap.size N C B pf (fun _ _ _ => 0) w3 := (show Cub .i64 3 25 26 w2.heap.size w3.heap.size N C B pf (fun _ _ _ => 0) w3 from G3.out).keep S3.out fun k k0 k1 => (hk_refl w3).block _ (by omega)
        obtain ⟨d0, d1, d2⟩ := K.out.cells3 (.slice (some ⟨W1.heap.size, 0, none⟩) B B) (.slice (some ⟨W1.heap.size + 1, 0, none⟩) C C) (.slice (some ⟨w2.heap.size, 0, none⟩) N N)
        refine bodyPost_ret (v := pa (.slice (some ⟨W1.heap.size, 0, none⟩) B B) (.slice (some ⟨W1.heap.size + 1, 0, none⟩) C C) (.slice (some ⟨w2.heap.size, 0, none⟩) N N)) (by unfold pa; simp [results, Tryz.results44, go_sem, d0, d1, d2]) rfl ?_
        try simp only [alloc_size] at J G Q
        exact ⟨_, _, _, w3.heap.size, pf, rfl, blank_end HB.out ((k1.trans k2).trans k3) K.out J G Q s0 (by omega) (by omega) (by omega) ⟨by omega, by omega, by omega, by omega⟩ _ rfl⟩
      exact AllReadyH.nil
    exact AllReadyH.nil
  refine AllReadyH.cons (o := ⟨some 10, _, _, _, _, _⟩) rfl (fun K' hK' => ?_) ?_
  · go_simp
    refine (hrow _).mono ?_
    rintro e w2 ⟨rfl, b2, g2, s2⟩
    have k2 : Ks w.heap.size W1 w2 := Ks.below K.out.drew b2
    clear K
    have K : Hid (Ks w.heap.size W1 w2) := k2
    have B2 : Hid (Below _ _ w2) := b2
    have G2 : Hid (Grd _ _ _ _ _ _ _ _) := g2
    have S2 : Hid (w2.heap.size = _) := s2
    clear k2 b2 g2 s2
    refine hK'.out _ _ K.out (fun _ => ?_)
    clear hK' K'
    try simp only [Act.put, List.setIfInBounds_toArray, List.set_cons_zero, List.set_cons_succ]
    refine wpAnyH_ready (rs := [2, 14]) (by kernel_rfl) (by simp) ?_
    refine AllReadyH.cons (o := ⟨some 5, _, _, _, _, _⟩) rfl (fun K' hK' => ?_) ?_
    · go_simp
      have k2 : Ks w.heap.size W1 (w2.alloc (.cells (zers .i64 B) 3)) := K.out.alloc _
      clear K
      have K : Hid (Ks w.heap.size W1 (w2.alloc (.cells (zers .i64 B) 3))) := k2
      clear k2
      refine hK'.out _ _ K.out (fun _ => ?_)
      clear hK' K'
      try simp only [Act.put, List.setIfInBounds_toArray, List.set_cons_zero, List.set_cons_succ]
      refine wpAnyH_ready (rs := [14]) (by kernel_rfl) (by simp) ?_
      refine AllReadyH.cons (o := ⟨some 17, _, _, _, _, _⟩) rfl (fun K' hK' => ?_) ?_
      · go_simp
        refine (hlai _).mono ?_
        rintro e w3 ⟨rfl, b3, s3, pf, g3⟩
        have k2 : Ks w.heap.size W1 w3 := Ks.below K.out b3
        clear K
        have K : Hid (Ks w.heap.size W1 w3) := k2
        have B3 : Hid (Below _ _ w3) := b3
        have G3 : Hid (Cub _ _ _ _ _ _ _ _ _ _ _ _) := g3
        have S3 : Hid (_ < w3.heap.size) := s3
        clear k2 b3 g3 s3
        refine hK'.out _ _ K.out (fun _ => ?_)
        clear hK' K'
        try simp only [Act.put, List.setIfInBounds_toArray, List.set_cons_zero, List.set_cons_succ]
        refine wpAnyH_take (i := 15) (oi := ⟨some 18, _, _, _, _, _⟩) (v := ?_) rfl (by kernel_rfl) (by kernel_rfl) (by kernel_rfl) (fun _ _ _ h => h) (Or.inl ⟨by rfl, ?_⟩) K.out ?_
        rotate_left
        · intro wx hx; go_simp; try with_reducible rfl
        try simp only [Act.put, List.setIfInBounds_toArray, List.set_cons_zero, List.set_cons_succ]
        obtain ⟨⟨v0, v1, v2, t0, t1, t2⟩, f0, f1, f2⟩ := HKr.out _ K.out
        refine wpAnyH_ready (rs := [16]) (by kernel_rfl) (by simp) ?_
        refine AllReadyH.cons (o := ⟨none, _, _, _, _, _⟩) rfl (fun K' hK' => ?_) AllReadyH.nil
        go_simp
        refine hK'.out _ _ (K.out.set3 _ _ _) (fun _ => ?_)
        clear hK' K'
        try simp only [Act.put, List.setIfInBounds_toArray, List.set_cons_zero, List.set_cons_succ]
        refine wpAnyH_done (by kernel_rfl) ?_ _
        clear HKp
        go_wp2
        have k1 : HK W1 w2 := ⟨B2.out.size, B2.out.block⟩
        have k2 : HK w2 (w2.alloc (.cells (zers .i64 B) 3)) := hk_alloc _ _
        have k3 : HK (w2.alloc (.cells (zers .i64 B) 3)) w3 := ⟨B3.out.size, B3.out.block⟩
        have s0 : W1.heap.size = w.heap.size + 2 := HS1.out
        have s1 : w2.heap.size = W1.heap.size + 1 + C := S2.out
        have s2 : (w2.alloc (.cells (zers .i64 B) 3)).heap.size = w2.heap.size + 1 := alloc_size _ _
        have s3 : (w2.alloc (.cells (zers .i64 B) 3)).heap.size < w3.heap.size := S3.out
        have J : Rw w2.heap.size B (fun _ => 0) w3 := (Rw.new w2 B).keep (k3.block _ (by omega))
        have G : Grd .i64 3 25 W1.heap.size C B (fun _ _ => 0) w3 := (show Grd .i64 3 25 W1.heap.size C B (fun _ _ => 0) w2 from G2.out).keep fun k k0 k1 => (k2.trans k3).block _ (by omega)
        have Q : Cub .i64 3 25 26 (w2.alloc (.cells (zers .i64 B) 3)).heap.size w3.heap.size N C B pf (fun _ _ _ => 0) w3 := (show Cub .i64 3 25 26 (w2.alloc (.cells (zers .i64 B) 3)).heap.size w3.heap.size N C B pf (fun _ _ _ => 0) w3 from G3.out).keep S3.out fun k k0 k1 => (hk_refl w3).block _ (by omega)
        obtain ⟨d0, d1, d2⟩ := K.out.cells3 (.slice (some ⟨w2.heap.size, 0, none⟩) B B) (.slice (some ⟨W1.heap.size, 0, none⟩) C C) (.slice (some ⟨w2.heap.size + 1, 0, none⟩) N N)
        refine bodyPost_ret (v := pa (.slice (some ⟨w2.heap.size, 0, none⟩) B B) (.slice (some ⟨W1.heap.size, 0, none⟩) C C) (.slice (some ⟨w2.heap.size + 1, 0, none⟩) N N)) (by unfold pa; simp [results, Tryz.results44, go_sem, d0, d1, d2]) rfl ?_
        try simp only [alloc_size] at J G Q
        exact ⟨_, _, _, w3.heap.size, pf, rfl, blank_end HB.out ((k1.trans k2).trans k3) K.out J G Q s0 (by omega) (by omega) (by omega) ⟨by omega, by omega, by omega, by omega⟩ _ rfl⟩
      exact AllReadyH.nil
    refine AllReadyH.cons (o := ⟨some 17, _, _, _, _, _⟩) rfl (fun K' hK' => ?_) ?_
    · go_simp
      refine (hlai _).mono ?_
      rintro e w3 ⟨rfl, b3, s3, pf, g3⟩
      have k2 : Ks w.heap.size W1 w3 := Ks.below K.out b3
      clear K
      have K : Hid (Ks w.heap.size W1 w3) := k2
      have B3 : Hid (Below _ _ w3) := b3
      have G3 : Hid (Cub _ _ _ _ _ _ _ _ _ _ _ _) := g3
      have S3 : Hid (_ < w3.heap.size) := s3
      clear k2 b3 g3 s3
      refine hK'.out _ _ K.out (fun _ => ?_)
      clear hK' K'
      try simp only [Act.put, List.setIfInBounds_toArray, List.set_cons_zero, List.set_cons_succ]
      refine wpAnyH_ready (rs := [2]) (by kernel_rfl) (by simp) ?_
      refine AllReadyH.cons (o := ⟨some 5, _, _, _, _, _⟩) rfl (fun K' hK' => ?_) ?_
      · go_simp
        have k2 : Ks w.heap.size W1 (w3.alloc (.cells (zers .i64 B) 3)) := K.out.alloc _
        clear K
        have K : Hid (Ks w.heap.size W1 (w3.alloc (.cells (zers .i64 B) 3))) := k2
        clear k2
        refine hK'.out _ _ K.out (fun _ => ?_)
        clear hK' K'
        try simp only [Act.put, List.setIfInBounds_toArray, List.set_cons_zero, List.set_cons_succ]
        refine wpAnyH_take (i := 15) (oi := ⟨some 18, _, _, _, _, _⟩) (v := ?_) rfl (by kernel_rfl) (by kernel_rfl) (by kernel_rfl) (fun _ _ _ h => h) (Or.inl ⟨by rfl, ?_⟩) K.out ?_
        rotate_left
        · intro wx hx; go_simp; try with_reducible rfl
        try simp only [Act.put, List.setIfInBounds_toArray, List.set_cons_zero, List.set_cons_succ]
        obtain ⟨⟨v0, v1, v2, t0, t1, t2⟩, f0, f1, f2⟩ := HKr.out _ K.out
        refine wpAnyH_ready (rs := [16]) (by kernel_rfl) (by simp) ?_
        refine AllReadyH.cons (o := ⟨none, _, _, _, _, _⟩) rfl (fun K' hK' => ?_) AllReadyH.nil
        go_simp
        refine hK'.out _ _ (K.out.set3 _ _ _) (fun _ => ?_)
        clear hK' K'
        try simp only [Act.put, List.setIfInBounds_toArray, List.set_cons_zero, List.set_cons_succ]
        refine wpAnyH_done (by kernel_rfl) ?_ _
        clear HKp
        go_wp2
        have k1 : HK W1 w2 := ⟨B2.out.size, B2.out.block⟩
        have k2 : HK w2 w3 := ⟨B3.out.size, B3.out.block⟩
        have k3 : HK w3 (w3.alloc (.cells (zers .i64 B) 3)) := hk_alloc _ _
        have s0 : W1.heap.size = w.heap.size + 2 := HS1.out
        have s1 : w2.heap.size = W1.heap.size + 1 + C := S2.out
        have s2 : w2.heap.size < w3.heap.size := S3.out
        have s3 : (w3.alloc (.cells (zers .i64 B) 3)).heap.size = w3.heap.size + 1 := alloc_size _ _
        have J : Rw w3.heap.size B (fun _ => 0) (w3.alloc (.cells (zers .i64 B) 3)) := (Rw.new w3 B).keep ((hk_refl (w3.alloc (.cells (zers .i64 B) 3))).block _ (by omega))
        have G : Grd .i64 3 25 W1.heap.size C B (fun _ _ => 0) (w3.alloc (.cells (zers .i64 B) 3)) := (show Grd .i64 3 25 W1.heap.size C B (fun _ _ => 0) w2 from G2.out).keep fun k k0 k1 => (k2.trans k3).block _ (by omega)
        have Q : Cub .i64 3 25 26 w2.heap.size w3.heap.size N C B pf (fun _ _ _ => 0) (w3.alloc (.cells (zers .i64 B) 3)) := (show Cub .i64 3 25 26 w2.heap.size w3.heap.size N C B pf (fun _ _ _ => 0) w3 from G3.out).keep S3.out fun k k0 k1 => k3.block _ (by omega)
        obtain ⟨d0, d1, d2⟩ := K.out.cells3 (.slice (some ⟨w3.heap.size, 0, none⟩) B B) (.slice (some ⟨W1.heap.size, 0, none⟩) C C) (.slice (some ⟨w2.heap.size, 0, none⟩) N N)
        refine bodyPost_ret (v := pa (.slice (some ⟨w3.heap.size, 0, none⟩) B B) (.slice (some ⟨W1.heap.size, 0, none⟩) C C) (.slice (some ⟨w2.heap.size, 0, none⟩) N N)) (by unfold pa; simp [results, Tryz.results44, go_sem, d0, d1, d2]) rfl ?_
        try simp only [alloc_size] at J G Q
        exact ⟨_, _, _, w3.heap.size, pf, rfl, blank_end HB.out ((k1.trans k2).trans k3) K.out J G Q s0 (by omega) (by omega) (by omega) ⟨by omega, by omega, by omega, by omega⟩ _ rfl⟩
      exact AllReadyH.nil
    exact AllReadyH.nil
  exact AllReadyH.nil

end Sub
end Go.Proofs.YtcaifpjbjghhaaaGreatDoor

/-
  What an eye finds in a frame's bits, number by number; what was put is found. Plain facts, no walk. Conditions: as told at each.
-/
namespace Go.Proofs.YtcaifpjbjghhaaaGreatDoor
set_option linter.unusedVariables false
open Go.RowKit
namespace M
open _root_.Go.Proofs.YtcaifpjbjghhaaaGreatDoor.Sub (Nb Plc plist hz hk rowT hdrT jnT sclT scT codT allT up1 Sb Sh nb0)

theorem getS_ok {Bt : Nat → Bool} {n h k : Nat} {z : Int} (hl : h + k ≤ 8 * n) : getS Bt n h z k = (h + k, (fv Bt h k : Int)) := by unfold getS; rw [if_pos hl]
theorem rowT_get {Bt : Nat → Bool} {n k s : Nat} {g : Nat → Int} : ∀ {q : Nat}, s + k * q ≤ 8 * n → rowT (getS Bt n) k s g q = (s + k * q, fun b => if b < q then (fv Bt (s + k * b) k : Int) else g b)
  | 0, _ => by show (s, g) = _; simp
  | q + 1, hl => by
    rw [Nat.mul_succ] at hl
    have ih := rowT_get (Bt := Bt) (n := n) (k := k) (s := s) (g := g) (q := q) (by omega)
    unfold rowT
    rw [ih]
    dsimp only
    rw [getS_ok (by omega)]
    dsimp only
    refine Prod.ext (by show s + k * q + k = s + k * (q + 1); rw [Nat.mul_succ]; omega) ?_
    funext b
    dsimp only
    unfold up1
    by_cases e : b = q
    · subst e; rw [if_pos rfl, if_pos (by omega)]
    · rw [if_neg e]
      by_cases e2 : b < q
      · dsimp only; rw [if_pos e2, if_pos (by omega)]
      · dsimp only; rw [if_neg e2, if_neg (by omega)]
theorem hdrT_get {Bt : Nat → Bool} {n : Nat} {f : Fmt} (h : 4 ≤ n) : hdrT (getS Bt n) f 0 8 = 32 := by
  have e : ∀ q, q ≤ 8 → hdrT (getS Bt n) f 0 q = ((List.range q).map hk).sum := by
    intro q hq
    induction q with
    | zero => rfl
    | succ q ih =>
      have ih := ih (by omega)
      have hle : ∀ q, q ≤ 7 → ((List.range q).map hk).sum + hk q ≤ 32 := by
        intro q hq
        match q, hq with
        | 0, _ => decide
        | 1, _ => decide
        | 2, _ => decide
        | 3, _ => decide
        | 4, _ => decide
        | 5, _ => decide
        | 6, _ => decide
        | 7, _ => decide
      unfold hdrT
      rw [ih, getS_ok (by have := hle q (by omega); omega), List.range_succ, List.map_append, List.sum_append]
      simp
  exact e 8 (Nat.le_refl _)
def side (f : Fmt) (B : Nat) : Nat := 32 + if f.j = 1 then B else 0
theorem sclT_get {Bt : Nat → Bool} {n B s : Nat} {m : Nb} : ∀ {C : Nat}, s + 4 * B * C ≤ 8 * n → (sclT (getS Bt n) B s m C).1 = s + 4 * B * C ∧ (sclT (getS Bt n) B s m C).2.j = m.j ∧ (sclT (getS Bt n) B s m C).2.q = m.q ∧ (∀ c, c < C → ∀ b, b < B → (sclT (getS Bt n) B s m C).2.s c b = (fv Bt (s + 4 * B * c + 4 * b) 4 : Int)) ∧ ∀ c, C ≤ c → (sclT (getS Bt n) B s m C).2.s c = m.s c
  | 0, _ => ⟨rfl, rfl, rfl, fun c hc => absurd hc (by omega), fun c _ => rfl⟩
  | C + 1, hl => by
    rw [Nat.mul_succ] at hl
    obtain ⟨i1, i2, i3, i4, i5⟩ := sclT_get (Bt := Bt) (n := n) (B := B) (s := s) (m := m) (C := C) (by omega)
    have e := rowT_get (Bt := Bt) (n := n) (k := 4) (s := (sclT (getS Bt n) B s m C).1) (g := (sclT (getS Bt n) B s m C).2.s C) (q := B) (by rw [i1]; omega)
    unfold sclT
    rw [e]
    dsimp only
    refine ⟨by rw [i1, Nat.mul_succ]; omega, i2, i3, fun c hc b hb => ?_, fun c hc => ?_⟩
    · by_cases e : c = C
      · subst e
        rw [if_pos rfl, if_pos hb, i1]
      · rw [if_neg e]
        exact i4 c (by omega) b hb
    · rw [if_neg (by omega)]
      exact i5 c (by omega)
theorem codT_get {Bt : Nat → Bool} {n N C B : Nat} {wd : Nat → Nat → Nat} : ∀ {xs : List (Plc N C B)} {s : Nat} {m : Nb}, xs.Nodup → s + cost wd xs ≤ 8 * n → (codT (getS Bt n) wd (s, m) xs).1 = s + cost wd xs ∧ (codT (getS Bt n) wd (s, m) xs).2.j = m.j ∧ (codT (getS Bt n) wd (s, m) xs).2.s = m.s ∧
    (∀ y : Plc N C B, y ∉ xs → (codT (getS Bt n) wd (s, m) xs).2.q y.1 y.2.1 y.2.2 = m.q y.1 y.2.1 y.2.2) ∧ ∀ ys x zs, xs = ys ++ x :: zs → (codT (getS Bt n) wd (s, m) xs).2.q x.1 x.2.1 x.2.2 = (fv Bt (s + cost wd ys) (wd x.2.1 x.2.2) : Int)
  | [], s, m, _, _ => ⟨rfl, rfl, rfl, fun _ _ => rfl, fun ys x zs h => by simp at h⟩
  | y :: xs, s, m, hn, hl => by
    have hc1 : cost wd (y :: xs) = wd y.2.1 y.2.2 + cost wd xs := by simp [cost]
    rw [hc1] at hl
    rw [List.nodup_cons] at hn
    obtain ⟨i1, i2, i3, i4, i5⟩ := codT_get (Bt := Bt) (n := n) (wd := wd) (xs := xs) (s := s + wd y.2.1 y.2.2) (m := m.setQ y.1 y.2.1 y.2.2 (fv Bt s (wd y.2.1 y.2.2) : Int)) hn.2 (by omega)
    have he : codT (getS Bt n) wd (s, m) (y :: xs) = codT (getS Bt n) wd (s + wd y.2.1 y.2.2, m.setQ y.1 y.2.1 y.2.2 (fv Bt s (wd y.2.1 y.2.2) : Int)) xs := by
      unfold codT
      rw [List.foldl_cons]
      dsimp only
      rw [getS_ok (by omega)]
    rw [he]
    refine ⟨by rw [i1, hc1]; omega, i2, i3, fun z hz => ?_, fun ys x zs h => ?_⟩
    · rw [i4 z (fun h => hz (by simp [h]))]
      show (if z.1.val = y.1.val ∧ z.2.1.val = y.2.1.val ∧ z.2.2.val = y.2.2.val then _ else m.q z.1 z.2.1 z.2.2) = _
      rw [if_neg (fun h => hz (by rw [show z = y from Prod.ext (Fin.ext h.1) (Prod.ext (Fin.ext h.2.1) (Fin.ext h.2.2))]; simp))]
    · cases ys with
      | nil =>
        cases h
        rw [i4 _ hn.1]
        show (if y.1.val = y.1.val ∧ y.2.1.val = y.2.1.val ∧ y.2.2.val = y.2.2.val then _ else m.q y.1 y.2.1 y.2.2) = _
        rw [if_pos ⟨rfl, rfl, rfl⟩]
        rfl
      | cons z ys =>
        cases h
        rw [i5 ys x zs rfl]
        have : cost wd (y :: ys) = wd y.2.1 y.2.2 + cost wd ys := by simp [cost]
        rw [this, Nat.add_assoc]
theorem lb_nodup {N C B : Nat} (i : Fin N) (c : Fin C) : ∀ {b : Nat}, b ≤ B → (Sub.lb i c b : List (Plc N C B)).Nodup ∧ ∀ x ∈ (Sub.lb i c b : List (Plc N C B)), x.1 = i ∧ x.2.1 = c ∧ x.2.2.val < b
  | 0, _ => ⟨by rw [Sub.lb_zero]; exact List.nodup_nil, fun x hx => by rw [Sub.lb_zero] at hx; cases hx⟩
  | b + 1, h => by
    obtain ⟨h1, h2⟩ := lb_nodup (B := B) i c (b := b) (by omega)
    rw [Sub.lb_succ (B := B) i c (b := b) (by omega)]
    refine ⟨List.nodup_append.2 ⟨h1, by simp, fun x hx y hy e => ?_⟩, fun x hx => ?_⟩
    · have := (h2 x hx).2.2
      rw [List.mem_singleton] at hy
      rw [e, hy] at this
      exact absurd this (Nat.lt_irrefl _)
    · rcases List.mem_append.1 hx with h | h
      · have := h2 x h; exact ⟨this.1, this.2.1, by omega⟩
      · rw [List.mem_singleton] at h; rw [h]; exact ⟨rfl, rfl, Nat.lt_succ_self b⟩
theorem lc_nodup {N C B : Nat} (i : Fin N) : ∀ {c : Nat}, c ≤ C → (Sub.lc i c : List (Plc N C B)).Nodup ∧ ∀ x ∈ (Sub.lc i c : List (Plc N C B)), x.1 = i ∧ x.2.1.val < c
  | 0, _ => ⟨by rw [Sub.lc_zero]; exact List.nodup_nil, fun x hx => by rw [Sub.lc_zero] at hx; cases hx⟩
  | c + 1, h => by
    obtain ⟨h1, h2⟩ := lc_nodup (C := C) (B := B) i (c := c) (by omega)
    obtain ⟨h3, h4⟩ := lb_nodup (B := B) i (⟨c, by omega⟩ : Fin C) (Nat.le_refl B)
    rw [Sub.lc_succ i (c := c) (by omega)]
    refine ⟨List.nodup_append.2 ⟨h1, h3, fun x hx y hy e => ?_⟩, fun x hx => ?_⟩
    · have a1 := (h2 x hx).2
      have a2 := (h4 y hy).2.1
      rw [e, a2] at a1
      exact absurd a1 (Nat.lt_irrefl _)
    · rcases List.mem_append.1 hx with h | h
      · have := h2 x h; exact ⟨this.1, by omega⟩
      · have := h4 x h; exact ⟨this.1, by rw [this.2.1]; exact Nat.lt_succ_self c⟩
theorem ln_nodup {N C B : Nat} : ∀ {n : Nat}, n ≤ N → (Sub.ln n : List (Plc N C B)).Nodup ∧ ∀ x ∈ (Sub.ln n : List (Plc N C B)), x.1.val < n
  | 0, _ => ⟨by rw [Sub.ln_zero]; exact List.nodup_nil, fun x hx => by rw [Sub.ln_zero] at hx; cases hx⟩
  | n + 1, h => by
    obtain ⟨h1, h2⟩ := ln_nodup (N := N) (C := C) (B := B) (n := n) (by omega)
    obtain ⟨h3, h4⟩ := lc_nodup (B := B) (⟨n, by omega⟩ : Fin N) (Nat.le_refl C)
    rw [Sub.ln_succ (N := N) (n := n) (by omega)]
    refine ⟨List.nodup_append.2 ⟨h1, h3, fun x hx y hy e => ?_⟩, fun x hx => ?_⟩
    · have a1 := h2 x hx
      have a2 := (h4 y hy).1
      rw [e, a2] at a1
      exact absurd a1 (Nat.lt_irrefl _)
    · rcases List.mem_append.1 hx with h | h
      · have := h2 x h; omega
      · have := h4 x h; rw [this.1]; exact Nat.lt_succ_self n
theorem ln_split {N C B : Nat} {n : Nat} : ∀ d, n + 1 + d ≤ N → ∃ zs, (Sub.ln (n + 1 + d) : List (Plc N C B)) = Sub.ln (n + 1) ++ zs
  | 0, _ => ⟨[], by simp⟩
  | d + 1, h => by
    obtain ⟨zs, e⟩ := ln_split (N := N) (C := C) (B := B) (n := n) d (by omega)
    exact ⟨zs ++ Sub.lc ⟨n + 1 + d, by omega⟩ C, by rw [show n + 1 + (d + 1) = (n + 1 + d) + 1 by omega, Sub.ln_succ (N := N) (n := n + 1 + d) (by omega), e, List.append_assoc]⟩
theorem lc_split {N C B : Nat} (i : Fin N) {c : Nat} : ∀ d, c + 1 + d ≤ C → ∃ zs, (Sub.lc i (c + 1 + d) : List (Plc N C B)) = Sub.lc i (c + 1) ++ zs
  | 0, _ => ⟨[], by simp⟩
  | d + 1, h => by
    obtain ⟨zs, e⟩ := lc_split (C := C) (B := B) i (c := c) d (by omega)
    exact ⟨zs ++ Sub.lb i ⟨c + 1 + d, by omega⟩ B, by rw [show c + 1 + (d + 1) = (c + 1 + d) + 1 by omega, Sub.lc_succ (C := C) i (c := c + 1 + d) (by omega), e, List.append_assoc]⟩
theorem lb_split {N C B : Nat} (i : Fin N) (c : Fin C) {b : Nat} : ∀ d, b + 1 + d ≤ B → ∃ zs, (Sub.lb i c (b + 1 + d) : List (Plc N C B)) = Sub.lb i c (b + 1) ++ zs
  | 0, _ => ⟨[], by simp⟩
  | d + 1, h => by
    obtain ⟨zs, e⟩ := lb_split (B := B) i c (b := b) d (by omega)
    exact ⟨zs ++ [(i, c, ⟨b + 1 + d, by omega⟩)], by rw [show b + 1 + (d + 1) = (b + 1 + d) + 1 by omega, Sub.lb_succ (B := B) i c (b := b + 1 + d) (by omega), e]; simp⟩
theorem plist_split {N C B : Nat} (x : Plc N C B) : ∃ zs, plist N C B = (Sub.ln x.1.val ++ Sub.lc x.1 x.2.1.val ++ Sub.lb x.1 x.2.1 x.2.2.val) ++ x :: zs := by
  obtain ⟨i, c, b⟩ := x
  obtain ⟨z1, e1⟩ := ln_split (N := N) (C := C) (B := B) (n := i.val) (N - (i.val + 1)) (by have := i.isLt; omega)
  obtain ⟨z2, e2⟩ := lc_split (C := C) (B := B) i (c := c.val) (C - (c.val + 1)) (by have := c.isLt; omega)
  obtain ⟨z3, e3⟩ := lb_split (B := B) i c (b := b.val) (B - (b.val + 1)) (by have := b.isLt; omega)
  rw [show i.val + 1 + (N - (i.val + 1)) = N by have := i.isLt; omega] at e1
  rw [show c.val + 1 + (C - (c.val + 1)) = C by have := c.isLt; omega] at e2
  rw [show b.val + 1 + (B - (b.val + 1)) = B by have := b.isLt; omega] at e3
  refine ⟨z3 ++ z2 ++ z1, ?_⟩
  show Sub.ln N = _
  rw [e1, Sub.ln_succ i.isLt, e2, Sub.lc_succ i c.isLt, e3, Sub.lb_succ i c b.isLt]
  simp
def ahead (wd : Nat → Nat → Nat) (C B i c b : Nat) : Nat := i * sumW (fun c => sumW (wd c) B) C + sumW (fun c => sumW (wd c) B) c + sumW (wd c) b
theorem cost_ahead {N C B : Nat} (wd : Nat → Nat → Nat) (x : Plc N C B) : cost wd (Sub.ln x.1.val ++ Sub.lc x.1 x.2.1.val ++ Sub.lb x.1 x.2.1 x.2.2.val : List (Plc N C B)) = ahead wd C B x.1 x.2.1 x.2.2 := by
  rw [cost_app, cost_app, cost_ln wd (Nat.le_of_lt x.1.isLt), cost_lc wd x.1 (Nat.le_of_lt x.2.1.isLt), cost_lb wd x.1 x.2.1 (Nat.le_of_lt x.2.2.isLt)]
  rfl

structure Read (f : Fmt) (C B N r : Nat) (sl : Int) (Bt : Nat → Bool) (m : Nb) : Prop where
  j : ∀ b, b < B → m.j b = if f.j = 1 then (fv Bt (32 + b) 1 : Int) else 0
  s : ∀ c, c < C → ∀ b, b < B → m.s c b = (fv Bt (side f B + 4 * B * c + 4 * b) 4 : Int)
  q : ∀ i, i < N → ∀ c, c < C → ∀ b, b < B → m.q i c b = (fv Bt (side f B + 4 * B * C + ahead (wdN f C B r m.s sl) C B i c b) (wdN f C B r m.s sl c b) : Int)
theorem sc_get {Bt : Nat → Bool} {n : Nat} {f : Fmt} {C B N r : Nat} (hF : Sb f C B N r) (hn : bitS f ≤ 8 * n) : (scT (getS Bt n) f C B 0 nb0).1 = side f B + 4 * B * C ∧ (∀ b, b < B → (scT (getS Bt n) f C B 0 nb0).2.j b = if f.j = 1 then (fv Bt (32 + b) 1 : Int) else 0) ∧
    (∀ c, c < C → ∀ b, b < B → (scT (getS Bt n) f C B 0 nb0).2.s c b = (fv Bt (side f B + 4 * B * c + 4 * b) 4 : Int)) := by
  have hb := hF.ok.2.2.2.2.2.2.2
  have h1 := hF.hB; have h2 := hF.hC; have h3 := hF.hN
  have hkp : 0 ≤ f.k * f.p := Int.mul_nonneg (by omega) (by omega)
  have hbc : ((4 * B * C : Nat) : Int) = 4 * f.b * f.h := by rw [h1, h2]; push_cast; rfl
  unfold bitS at hn
  have e1 := hdrT_get (Bt := Bt) (n := n) (f := f) (by
    have : (0 : Int) ≤ 4 * f.b * f.h := by omega
    split at hn <;> omega)
  have e2 : (jnT (getS Bt n) f B 0 nb0).1 = side f B ∧ (∀ b, b < B → (jnT (getS Bt n) f B 0 nb0).2.j b = if f.j = 1 then (fv Bt (32 + b) 1 : Int) else 0) := by
    unfold jnT side
    by_cases hj : f.j = 1
    · rw [if_pos hj] at hn
      rw [if_pos hj, if_pos hj, e1, rowT_get (by omega)]
      refine ⟨by show 32 + 1 * B = 32 + B; omega, fun b hb => ?_⟩
      show (if b < B then (fv Bt (32 + 1 * b) 1 : Int) else _) = _
      rw [if_pos hb, if_pos hj, Nat.one_mul]
    · rw [if_neg hj, if_neg hj, e1]
      exact ⟨rfl, fun b hb => by rw [if_neg hj]; rfl⟩
  unfold scT
  have hs : side f B + 4 * B * C ≤ 8 * n := by
    unfold side
    have : ((if f.j = 1 then B else 0 : Nat) : Int) = if f.j = 1 then f.b else 0 := by split <;> simp [h1]
    omega
  obtain ⟨i1, i2, _, i4, _⟩ := sclT_get (Bt := Bt) (n := n) (B := B) (s := (jnT (getS Bt n) f B 0 nb0).1) (m := (jnT (getS Bt n) f B 0 nb0).2) (C := C) (by rw [e2.1]; exact hs)
  rw [e2.1] at i1 i4
  exact ⟨by rw [e2.1]; exact i1, fun b hb => by rw [i2]; exact e2.2 b hb, fun c hc b hb => by rw [e2.1]; exact i4 c hc b hb⟩
theorem fv4 (Bt : Nat → Bool) (h : Nat) : (0 : Int) ≤ (fv Bt h 4 : Int) ∧ (fv Bt h 4 : Int) ≤ 15 := by have := fv_lt Bt h 4; omega
theorem sc_sh {Bt : Nat → Bool} {n : Nat} {f : Fmt} {C B N r : Nat} (hF : Sb f C B N r) (hn : bitS f ≤ 8 * n) : (∀ c, c < C → ∀ b, b < B → 0 ≤ (scT (getS Bt n) f C B 0 nb0).2.s c b ∧ (scT (getS Bt n) f C B 0 nb0).2.s c b ≤ 15) ∧ ∃ sl, Sh f C B r (scT (getS Bt n) f C B 0 nb0).2.s sl := by
  have h : ∀ c, c < C → ∀ b, b < B → 0 ≤ (scT (getS Bt n) f C B 0 nb0).2.s c b ∧ (scT (getS Bt n) f C B 0 nb0).2.s c b ≤ 15 := fun c hc b hb => by rw [(sc_get hF hn).2.2 c hc b hb]; exact fv4 _ _
  exact ⟨h, Sub.sh_of hF h⟩
theorem all_get {Bt : Nat → Bool} {n : Nat} {f : Fmt} {C B N r : Nat} {sl : Int} (hF : Sb f C B N r) (hn : bitS f ≤ 8 * n) (hS : Sh f C B r (scT (getS Bt n) f C B 0 nb0).2.s sl) : (allT (getS Bt n) f C B N r sl 0 nb0).2.s = (scT (getS Bt n) f C B 0 nb0).2.s ∧ Read f C B N r sl Bt (allT (getS Bt n) f C B N r sl 0 nb0).2 := by
  obtain ⟨e1, e2, e3⟩ := sc_get (Bt := Bt) hF hn
  have room := frm_room (N := N) (m := (scT (getS Bt n) f C B 0 nb0).2) hF hS
  rw [fmJ_length] at room
  have hst : side f B + 4 * B * C + cost (wdN f C B r (scT (getS Bt n) f C B 0 nb0).2.s sl) (plist N C B) ≤ 8 * n := by
    unfold side
    omega
  unfold allT
  rw [← e1] at hst
  obtain ⟨i1, i2, i3, _, i5⟩ := codT_get (Bt := Bt) (n := n) (wd := wdN f C B r (scT (getS Bt n) f C B 0 nb0).2.s sl) (xs := plist N C B) (s := (scT (getS Bt n) f C B 0 nb0).1) (m := (scT (getS Bt n) f C B 0 nb0).2) (ln_nodup (Nat.le_refl N)).1 hst
  refine ⟨i3, fun b hb => ?_, fun c hc b hb => ?_, fun i hi c hc b hb => ?_⟩
  · exact (congrFun i2 b).trans (e2 b hb)
  · exact (congrFun (congrFun i3 c) b).trans (e3 c hc b hb)
  · obtain ⟨zs, hz⟩ := plist_split (⟨⟨i, hi⟩, ⟨c, hc⟩, ⟨b, hb⟩⟩ : Plc N C B)
    have h := i5 _ _ _ hz
    rw [cost_ahead] at h
    conv at h => rhs; rw [e1]
    show (codT (getS Bt n) (wdN f C B r (scT (getS Bt n) f C B 0 nb0).2.s sl) (scT (getS Bt n) f C B 0 nb0) (plist N C B)).2.q i c b = _
    have e3' : (codT (getS Bt n) (wdN f C B r (scT (getS Bt n) f C B 0 nb0).2.s sl) (scT (getS Bt n) f C B 0 nb0) (plist N C B)).2.s = (scT (getS Bt n) f C B 0 nb0).2.s := i3
    show _ = (fv Bt (side f B + 4 * B * C + ahead (wdN f C B r (codT (getS Bt n) (wdN f C B r (scT (getS Bt n) f C B 0 nb0).2.s sl) (scT (getS Bt n) f C B 0 nb0) (plist N C B)).2.s sl) C B i c b) (wdN f C B r (codT (getS Bt n) (wdN f C B r (scT (getS Bt n) f C B 0 nb0).2.s sl) (scT (getS Bt n) f C B 0 nb0) (plist N C B)).2.s sl c b) : Int)
    rw [e3']
    exact h
end M
end Go.Proofs.YtcaifpjbjghhaaaGreatDoor

/-
  Contract of Parse: the parameters of a frame. Conditions: as told at each.
-/
namespace Go.Proofs.YtcaifpjbjghhaaaGreatDoor
set_option linter.unusedVariables false
open Go.RowKit Go.Shelf
namespace Sub
open Bank (Blk)
open Byt (Given)
open Poly (Reads cell_keep alloc_size)
open _root_.Go.Proofs.YtcaifpjbjghhaaaGreatDoor.Form (fv fc bel1 Says box_cells box_behind blk_below of_drew)

def okM (f : M.Fmt) (C B N r : Nat) (sl : Int) (m : Nb) : Prop := okP (N := N) (C := C) (B := B) f.j (rl B m.j) m.q m.s (M.wid f C B r m.s sl)

theorem Pack_laid (hi : Nat) (f : M.Fmt) (C B N r n : Nat) (A : Ad) (m : Nb) (sl : Int) (w : World) (hT : Alloc.Tabs w) (hF : Sb f C B N r) (hS : Sh f C B r m.s sl) (ok : A.ok hi C B N) (hs : Sees A C B N m w) (hh : hi ≤ w.heap.size)
    (hZ : ∀ c, c < C → ∀ b, b < B → 0 ≤ m.s c b ∧ m.s c b ≤ 15) (hj : ∀ b, b < B → -9223372036854775808 ≤ m.j b ∧ m.j b ≤ 9223372036854775807) (hn : M.pay f = n) :
    Calls Tryz.prog 23 #[fv f, pa (A.vj B) (A.vs C) (A.vc N)] w fun e w' => Below w.heap.size w w' ∧
      ((okM f C B N r sl m ∧ ∃ v, e = .returned (.tuple #[v, .int .i64 0]) ∧ w'.ownsRow w.heap.size 5 1 v n ((M.frb f C B N r sl m n).map fun x : Nat => Value.int .u8 x)) ∨ (¬ okM f C B N r sl m ∧ e = .returned (.tuple #[.slice none 0 0, .int .i64 1]))) := by
  have hB := hF.b8
  have hr : ∀ wx, Below w.heap.size w wx → Calls Tryz.prog 52 #[fv f, pa (A.vj B) (A.vs C) (A.vc N)] wx fun e w' => Below wx.heap.size wx w' ∧ ((e = .returned (.int .i64 0) ∧ okM f C B N r sl m) ∨ (e = .returned (.int .i64 1) ∧ ¬ okM f C B N r sl m)) := fun wx hb => by
    have hs' := hs.keep ok fun k hk => hb.block k (by omega)
    exact refuse_laid hi f C B N r (rl B m.j) m.q m.s sl _ _ _ wx (hT.below hb (Nat.le_refl _)) hF hS ((hs'.v1 ok).reads' fun j hj' => wf64.2 (hj j hj')) (hs'.v2 ok) (hs'.v3 ok) (Nat.le_trans hh hb.size) (by rw [rl_length]; omega) hZ
  by_cases hG : okM f C B N r sl m
  · refine (Pack_put hi f C B N r n A m sl w hT hF hS ok hs hh (okN_of hZ hG) hn fun wx hb => (hr wx hb).mono ?_).mono ?_
    · rintro e w' ⟨h1, ⟨h2, _⟩ | ⟨_, h2⟩⟩
      · exact ⟨h2, h1⟩
      · exact absurd hG h2
    · rintro e w' ⟨⟨v, h1, h2⟩, h3⟩
      exact ⟨h3, .inl ⟨hG, v, h1, h2⟩⟩
  · refine (Pack_no f _ ⟨_, _, _, rfl⟩ 1 (by decide) w fun wx hb => (hr wx hb).mono ?_).mono ?_
    · rintro e w' ⟨h1, ⟨_, h2⟩ | ⟨h2, _⟩⟩
      · exact absurd h2 hG
      · exact ⟨h2, h1⟩
    · rintro e w' ⟨h1, h2⟩
      exact ⟨h2, .inr ⟨hG, h1⟩⟩

set_option maxRecDepth 100000 in
theorem finding_any (p : Nat) (w : World) : Calls Tryz.prog 75 #[.pointer (some ⟨p, 0, none⟩)] w fun e w' => e = .returned (.func (.func 137) #[] #[.pointer (some ⟨w.heap.size, 0, none⟩)]) ∧ w' = w.alloc (.cells #[.pointer (some ⟨p, 0, none⟩)] 125) := by
  go_enter Tryz.func75, Tryz.ntmps75
  go_wp2
  go_ret
  exact ⟨rfl, rfl⟩

theorem src_given {w : World} {v : Value} {xs : List Nat} (h : Given w v xs) : Bits.Src w v xs := by
  obtain ⟨a, c, rfl, hl, hv, hnil, h | ⟨b, off, ha, hb, hx⟩⟩ := h
  · subst h
    cases a with
    | none => exact .inl ⟨by rw [hnil rfl]; rfl, rfl⟩
    | some a => exact .inr ⟨a, c, rfl, fun i x hx => by simp at hx⟩
  · subst ha
    exact .inr ⟨_, c, rfl, fun i x hi => by rw [Go.WideShapes.add_plain]; exact hx i x hi⟩

def pnb (f : M.Fmt) (C B N r : Nat) (sl : Int) (xs : List Nat) : Nb := (allT (M.getS (Bits.bitsL xs) xs.length) f C B N r sl 0 nb0).2
def psc (f : M.Fmt) (C B : Nat) (xs : List Nat) : Nat → Nat → Int := (scT (M.getS (Bits.bitsL xs) xs.length) f C B 0 nb0).2.s
def isF (f : M.Fmt) (C B N r : Nat) (sl : Int) (xs : List Nat) : Prop := okM f C B N r sl (pnb f C B N r sl xs) ∧ M.frb f C B N r sl (pnb f C B N r sl xs) xs.length = xs
def nilP : Value := pa (.slice none 0 0) (.slice none 0 0) (.slice none 0 0)
structure Got (aj az ac E B C N : Nat) (pf : Nat → Nat) (m : Nb) (lo : Nat) (w' : World) : Prop where
  ap : Apart aj az ac E C
  made : Made aj az ac E B C N pf m w'
  lo : lo ≤ aj ∧ lo ≤ az ∧ lo ≤ ac
  hi : aj < w'.heap.size ∧ az + C < w'.heap.size ∧ E ≤ w'.heap.size
theorem Got.below {aj az ac E B C N lo H : Nat} {pf : Nat → Nat} {m : Nb} {w w' : World} (h : Got aj az ac E B C N pf m lo w) (hb : Below w.heap.size w w') : Got aj az ac E B C N pf m lo w' := by
  have := hb.size; have := h.hi; have := h.lo
  exact ⟨h.ap, h.made.keep h.ap (L := 0) (H := w.heap.size) ⟨by omega, by omega⟩ ⟨by omega, by omega⟩ ⟨by omega, by omega⟩ fun k _ k1 => hb.block k k1, h.lo, ⟨by omega, by omega, by omega⟩⟩
theorem Got.set {aj az ac E B C N lo : Nat} {pf : Nat → Nat} {m : Nb} {w : World} (h : Got aj az ac E B C N pf m lo w) {a : Addr} (ha : a.block < lo) (v : Value) : Got aj az ac E B C N pf m lo (w.setCell a v) := by
  have := h.hi; have := h.lo
  have hz : (w.setCell a v).heap.size = w.heap.size := by simp [World.setCell]
  exact ⟨h.ap, h.made.keep h.ap (L := lo) (H := w.heap.size) ⟨by omega, by omega⟩ ⟨by omega, by omega⟩ ⟨by omega, by omega⟩ fun k k0 k1 => Below.heap_setCell _ _ _ _ (by omega), h.lo, by rw [hz]; exact h.hi⟩

theorem parse_steps (f : M.Fmt) (C B N r n : Nat) (vb : Value) (xs : List Nat) (sl : Int) (w wx : World) (hT : Alloc.Tabs w) (hF : Sb f C B N r) (hS : Sh f C B r (psc f C B xs) sl) (hb : Given w vb xs) (hl : xs.length = n) (hn : M.pay f = n) (hbx : Below w.heap.size w wx) :
    Calls Tryz.prog 74 #[vb] wx fun e w2 => ∃ p, e = .returned (.tuple #[.pointer (some ⟨p, 0, none⟩), .int .i64 0]) ∧ Below wx.heap.size wx w2 ∧
    Calls Tryz.prog 44 #[fv f] w2 fun e w3 => ∃ aj az ac, e = .returned (pa (.slice (some ⟨aj, 0, none⟩) B B) (.slice (some ⟨az, 0, none⟩) C C) (.slice (some ⟨ac, 0, none⟩) N N)) ∧ Below wx.heap.size wx w3 ∧
    ∀ w4, Below w3.heap.size w3 w4 → Blk w4 w3.heap.size #[.slice (some ⟨aj, 0, none⟩) B B, .slice (some ⟨az, 0, none⟩) C C, .slice (some ⟨ac, 0, none⟩) N N] 33 → Calls Tryz.prog 75 #[.pointer (some ⟨p, 0, none⟩)] w4 fun e w5 => ∃ x, e = .returned (.func (.func 137) #[] #[.pointer (some ⟨x, 0, none⟩)]) ∧ Below wx.heap.size wx w5 ∧
      Blk w5 w3.heap.size #[.slice (some ⟨aj, 0, none⟩) B B, .slice (some ⟨az, 0, none⟩) C C, .slice (some ⟨ac, 0, none⟩) N N] 33 ∧
    Calls Tryz.prog 70 #[fv f, pa (.slice (some ⟨aj, 0, none⟩) B B) (.slice (some ⟨az, 0, none⟩) C C) (.slice (some ⟨ac, 0, none⟩) N N), .func (.func 137) #[] #[.pointer (some ⟨x, 0, none⟩)]] w5 fun e w6 => e = .returned (.tuple #[]) ∧ Below wx.heap.size wx w6 ∧
      Blk w6 w3.heap.size #[.slice (some ⟨aj, 0, none⟩) B B, .slice (some ⟨az, 0, none⟩) C C, .slice (some ⟨ac, 0, none⟩) N N] 33 ∧
    Calls Tryz.prog 23 #[fv f, pa (.slice (some ⟨aj, 0, none⟩) B B) (.slice (some ⟨az, 0, none⟩) C C) (.slice (some ⟨ac, 0, none⟩) N N)] w6 fun e w7 => Below wx.heap.size wx w7 ∧
      Blk w7 w3.heap.size #[.slice (some ⟨aj, 0, none⟩) B B, .slice (some ⟨az, 0, none⟩) C C, .slice (some ⟨ac, 0, none⟩) N N] 33 ∧ (∃ E pf, Got aj az ac E B C N pf (pnb f C B N r sl xs) wx.heap.size w7) ∧ Given w7 vb xs ∧
      ((okM f C B N r sl (pnb f C B N r sl xs) ∧ ∃ v, e = .returned (.tuple #[v, .int .i64 0]) ∧ Given w7 v (M.frb f C B N r sl (pnb f C B N r sl xs) xs.length)) ∨ (¬ okM f C B N r sl (pnb f C B N r sl xs) ∧ e = .returned (.tuple #[.slice none 0 0, .int .i64 1]))) := by
  subst hl
  have hends := M.ends (f := f) (.inl hF.ok)
  rw [hn] at hends
  have hbit : M.bitS f ≤ 8 * (xs.length : Int) := by have := hends.2.2.2.2; unfold M.bitF at this; rw [if_pos hF.ok.1] at this; exact this
  have n7 : 7 ≤ xs.length ∧ xs.length ≤ 512 := ⟨by have := hends.2.2.1; omega, by have := hends.2.2.2.1; omega⟩
  have c2 := hF.c2; have b8 := hF.b8; have n16 := hF.n16
  have hbW := hb.below hbx (Nat.le_refl _)
  have hlt := hb.lt
  have hBt : ∀ i, i < xs.length → xs.getD i 0 = M.byteOf (Bits.bitsL xs) i := fun i hi => (M.byteOf_bitsOf (fun i => xs.getD i 0) i (Chk.getD_lt hlt i)).symm
  refine (Bits.Open_ok vb xs (Bits.bitsL xs) wx (src_given hbW) n7.2 hBt).mono ?_
  rintro e w2 ⟨p, b, c, d, rfl, lp, lb, lc, ld, up, ub, uc, ud, b2, own2⟩
  refine ⟨p, rfl, b2, ?_⟩
  refine (blank_any f C B N w2 hF.hC hF.hB hF.hN (by omega) (by omega) (by omega)).mono ?_
  rintro e w3 ⟨aj, az, ac, E, pf, rfl, b3, ap, made3, ⟨l1, l2, l3⟩, u1, u2, u3⟩
  have b13 := b2.trans (b3.mono b2.size)
  refine ⟨aj, az, ac, rfl, b13, fun w4 b4 hbox => ?_⟩
  have b14 := b13.trans (b4.mono b13.size)
  refine (finding_any p w4).mono ?_
  rintro e w5 ⟨rfl, hw5⟩
  have hs5 : w5.heap.size = w4.heap.size + 1 := by rw [hw5]; simp
  have b45 : Below w4.heap.size w4 w5 := by rw [hw5]; exact bel1 _ _
  have b15 := b14.trans (b45.mono b14.size)
  have hbox5 := blk_below b45 hbox hbox.lt
  refine ⟨_, rfl, b15, hbox5, ?_⟩
  have ht3 := hbox.lt
  have e2s := b2.size; have e3s := b3.size; have e4s := b4.size; have exs := hbx.size
  have hape := ap.e
  have F : EyeF aj az ac E B C N pf xs.length p b c d w4.heap.size w3.heap.size (w4.heap.size + 1) wx.heap.size w4 := by
    refine ⟨ap, fun wy hy => ?_, ⟨by omega, by omega, by omega, by omega, by omega, by omega⟩, ⟨by omega, by omega, by omega, by omega⟩, ⟨by omega, by omega, by omega, by omega⟩, ⟨by omega, by omega, by omega, by omega⟩, ⟨by omega, by omega, by omega, by omega⟩, by omega, by omega, by omega, by omega, n7.2, made3.q.lo⟩
    obtain ⟨⟨t1, f1, h1⟩, t2, f2, h2⟩ := hT
    have k1 := (Array.getElem?_eq_some_iff.1 h1).1
    have k2 := (Array.getElem?_eq_some_iff.1 h2).1
    exact ⟨⟨t1, f1, (hy _ (by omega)).trans ((b14.block _ (by omega)).trans ((hbx.block _ (by omega)).trans h1))⟩, t2, f2, (hy _ (by omega)).trans ((b14.block _ (by omega)).trans ((hbx.block _ (by omega)).trans h2))⟩
  have b35 := b4.trans (b45.mono b4.size)
  have b25 := b3.trans (b35.mono b3.size)
  have I0 : EyeI aj az ac E B C N pf (Bits.bitsL xs) xs.length p b c d w4.heap.size w3.heap.size (w4.heap.size + 1) wx.heap.size w4 0 nb0 w5 := by
    refine ⟨made3.keep ap (L := 0) (H := w3.heap.size) ⟨by omega, by omega⟩ ⟨by omega, by omega⟩ ⟨by omega, by omega⟩ (fun k _ k1 => b35.block k k1), fun k hk => b45.block k (by omega), own_keep own2 (fun k hk => b25.block k hk) up ub uc ud, ?_, by omega, by omega⟩
    rw [hw5]
    exact Blk.new w4 #[.pointer (some ⟨p, 0, none⟩)] 125
  have hsc := M.sc_sh (Bt := Bits.bitsL xs) (n := xs.length) (r := r) hF hbit
  have hag := M.all_get (Bt := Bits.bitsL xs) (n := xs.length) (N := N) hF hbit hS
  refine (takeAll_any (tk_find F) f r sl 0 nb0 w5 hF hS hsc.1 I0).mono ?_
  rintro e w6 ⟨rfl, I6, a6⟩
  have e6 := I6.size
  have b16 : Below wx.heap.size wx w6 := ⟨a6.os.trans b15.os, a6.tape.trans b15.tape, a6.output.trans b15.output, Nat.le_trans b15.size a6.size, fun k hk => (I6.base k (.inl hk)).trans (b14.block k hk)⟩
  have hbox6 : Blk w6 w3.heap.size #[.slice (some ⟨aj, 0, none⟩) B B, .slice (some ⟨az, 0, none⟩) C C, .slice (some ⟨ac, 0, none⟩) N N] 33 := (I6.base _ (.inr rfl)).trans hbox
  refine ⟨rfl, b16, hbox6, ?_⟩
  change EyeI aj az ac E B C N pf (Bits.bitsL xs) xs.length p b c d w4.heap.size w3.heap.size (w4.heap.size + 1) wx.heap.size w4 (allT (M.getS (Bits.bitsL xs) xs.length) f C B N r sl 0 nb0).1 (pnb f C B N r sl xs) w6 at I6
  have hms : (pnb f C B N r sl xs).s = psc f C B xs := hag.1
  have hread : M.Read f C B N r sl (Bits.bitsL xs) (pnb f C B N r sl xs) := hag.2
  have hbx6 := hbx.trans (b16.mono hbx.size)
  have hpk := Pack_laid w6.heap.size f C B N r xs.length (lay aj az ac B C N pf) (pnb f C B N r sl xs) sl w6 (hT.below hbx6 (Nat.le_refl _)) hF (by rw [hms]; exact hS)
    ⟨⟨by show aj < _; omega, Nat.le_refl _⟩, ⟨by show az < _; omega, Nat.le_refl _⟩, ⟨by show ac < _; omega, Nat.le_refl _⟩, fun y hy => ⟨by show az + 1 + y < _; omega, Nat.le_refl _⟩, fun i hi => ⟨by show pf i < _; have := made3.q.lo i hi; omega, Nat.le_refl _⟩, fun i hi y hy => ⟨by show pf i + 1 + y < _; have := made3.q.lo i hi; omega, Nat.le_refl _⟩⟩
    I6.made.sees (Nat.le_refl _) (by rw [hms]; exact hsc.1) (fun b hb => by
      rw [hread.j b hb]
      have := M.fv_lt (Bits.bitsL xs) (32 + b) 1
      split <;> omega) hn
  refine hpk.mono ?_
  rintro e w7 ⟨b7, h7⟩
  have b17 := b16.trans (b7.mono b16.size)
  have got6 : Got aj az ac E B C N pf (pnb f C B N r sl xs) wx.heap.size w6 := ⟨ap, I6.made, ⟨by omega, by omega, by omega⟩, ⟨by omega, by omega, by omega⟩⟩
  refine ⟨b17, blk_below b7 hbox6 hbox6.lt, ⟨E, pf, got6.below (H := 0) b7⟩, hb.below (hbx.trans (b17.mono hbx.size)) (Nat.le_refl _), ?_⟩
  rcases h7 with ⟨hG, v, he, ho⟩ | ⟨hG, he⟩
  · exact .inl ⟨hG, v, he, row_given ho M.frb_length M.frb_lt⟩
  · exact .inr ⟨hG, he⟩
end Sub
end Go.Proofs.YtcaifpjbjghhaaaGreatDoor

/-
  Contract of Parse, the walk. Conditions: as told at each.
-/
namespace Go.Proofs.YtcaifpjbjghhaaaGreatDoor
set_option linter.unusedVariables false
open Go.RowKit Go.Shelf
namespace Sub
open Bank (Blk)
open Byt (Given)
open Poly (Reads cell_keep alloc_size)
open _root_.Go.Proofs.YtcaifpjbjghhaaaGreatDoor.Form (fv fc bel1 Says box_cells box_behind blk_below of_drew)

def nil3 : Array Value := #[.slice none 0 0, .slice none 0 0, .slice none 0 0]
theorem ans_box {w W1 F : World} {a b c x y z : Value} (hb : Below w.heap.size w W1) (hk : Below W1.heap.size W1 F) (hs : W1.heap.size = w.heap.size + 2) (h : Blk F (w.heap.size + 1) #[a, b, c] 33) :
    Below w.heap.size w (((F.setCell ⟨w.heap.size + 1, 0, none⟩ x).setCell ⟨w.heap.size + 1, 1, none⟩ y).setCell ⟨w.heap.size + 1, 2, none⟩ z) ∧
    (((F.setCell ⟨w.heap.size + 1, 0, none⟩ x).setCell ⟨w.heap.size + 1, 1, none⟩ y).setCell ⟨w.heap.size + 1, 2, none⟩ z).cell? ⟨w.heap.size + 1, 0, none⟩ = some x ∧ (((F.setCell ⟨w.heap.size + 1, 0, none⟩ x).setCell ⟨w.heap.size + 1, 1, none⟩ y).setCell ⟨w.heap.size + 1, 2, none⟩ z).cell? ⟨w.heap.size + 1, 1, none⟩ = some y ∧ (((F.setCell ⟨w.heap.size + 1, 0, none⟩ x).setCell ⟨w.heap.size + 1, 1, none⟩ y).setCell ⟨w.heap.size + 1, 2, none⟩ z).cell? ⟨w.heap.size + 1, 2, none⟩ = some z := by
  have g : Blk (((F.setCell ⟨w.heap.size + 1, 0, none⟩ x).setCell ⟨w.heap.size + 1, 1, none⟩ y).setCell ⟨w.heap.size + 1, 2, none⟩ z) (w.heap.size + 1) #[x, y, z] 33 := ((h.set 0 x).set 1 y).set 2 z
  refine ⟨?_, g.cell rfl, g.cell rfl, g.cell rfl⟩
  have h1 := hb.trans (hk.mono hb.size)
  exact ((h1.trans (set_below (by show w.heap.size ≤ w.heap.size + 1; omega) x)).trans (set_below (by show w.heap.size ≤ w.heap.size + 1; omega) y)).trans (set_below (by show w.heap.size ≤ w.heap.size + 1; omega) z)

theorem Got.less {aj az ac E B C N lo lo' : Nat} {pf : Nat → Nat} {m : Nb} {w : World} (h : Got aj az ac E B C N pf m lo w) (hl : lo' ≤ lo) : Got aj az ac E B C N pf m lo' w := ⟨h.ap, h.made, by have := h.lo; omega, h.hi⟩

set_option maxRecDepth 100000 in
set_option maxHeartbeats 4000000 in
theorem Parse_any (f : M.Fmt) (C B N r n : Nat) (vb : Value) (xs : List Nat) (sl : Int) (w : World) (hT : Alloc.Tabs w) (hF : Sb f C B N r) (hS : Sh f C B r (psc f C B xs) sl) (hb : Given w vb xs) (hl : xs.length = n) (hn : M.pay f = n) :
    Calls Tryz.prog 24 #[fv f, vb] w fun e w' => Below w.heap.size w w' ∧
      ((isF f C B N r sl xs ∧ ∃ aj az ac E pf, e = .returned (.tuple #[pa (.slice (some ⟨aj, 0, none⟩) B B) (.slice (some ⟨az, 0, none⟩) C C) (.slice (some ⟨ac, 0, none⟩) N N), .int .i64 0]) ∧ Got aj az ac E B C N pf (pnb f C B N r sl xs) w.heap.size w') ∨ (¬ isF f C B N r sl xs ∧ e = .returned (.tuple #[nilP, .int .i64 140]))) := by
  obtain ⟨va, vc, rfl, hvc⟩ := hb.form
  obtain ⟨W1, hW1⟩ : ∃ W1, (w.alloc (.cells (fc f) 23)).alloc (.cells #[.slice none 0 0, .slice none 0 0, .slice none 0 0] 33) = W1 := ⟨_, rfl⟩
  have bel : Below w.heap.size w W1 := by rw [← hW1]; exact (bel1 _ _).alloc (bel1 _ _).size _
  have hs1 : W1.heap.size = w.heap.size + 2 := by rw [← hW1]; simp
  have hf1 : Blk W1 w.heap.size (fc f) 23 := by rw [← hW1]; exact (Blk.new w _ _).alloc _
  have hp1 : Blk W1 (w.heap.size + 1) #[.slice none 0 0, .slice none 0 0, .slice none 0 0] 33 := by
    rw [← hW1]
    have := Blk.new (w.alloc (.cells (fc f) 23)) #[.slice none 0 0, .slice none 0 0, .slice none 0 0] 33
    rw [alloc_size] at this
    exact this
  obtain ⟨x0, x1, x2, x3, x4, x5, x6, x7, x8, x9⟩ := box_cells hf1
  have h1 : Calls Tryz.prog 42 #[fv f] W1 fun e w' => e = .returned (.bool true) ∧ Below W1.heap.size W1 w' := (isSub_any f W1).mono fun e w' ⟨q, he, hb, hq⟩ => ⟨by rw [he, hq.2 hF.ok], hb⟩
  have h2 : ∀ wx, Below W1.heap.size W1 wx → Calls Tryz.prog 69 #[fv f] wx fun e w' => e = .returned (.int .i64 (xs.length : Int)) ∧ Below W1.heap.size W1 w' := fun wx hb => (Form.Payload_ok f wx (.inl hF.ok)).mono fun e w' ⟨he, hb'⟩ => ⟨by rw [he, hn, hl], hb.trans (hb'.mono hb.size)⟩
  have h3 := fun wx (hbx : Below W1.heap.size W1 wx) => parse_steps f C B N r n _ xs sl w wx hT hF hS hb hl hn (bel.trans (hbx.mono bel.size))
  have heq := fun (u v : Value) ys w hu hv => Byt.equal_any u v ys xs w hu hv
  have H2 : Hid _ := h2
  have H3 : Hid _ := h3
  have HE : Hid _ := heq
  have HX : Hid (Blk W1 w.heap.size (fc f) 23) := hf1
  have HA : Hid (∀ wx, Below W1.heap.size W1 wx → Blk wx (w.heap.size + 1) #[.slice none 0 0, .slice none 0 0, .slice none 0 0] 33) := fun wx hb => blk_below hb hp1 hp1.lt
  have HB : Hid (Below w.heap.size w W1) := bel
  have HI : Hid (isF f C B N r sl xs ↔ (okM f C B N r sl (pnb f C B N r sl xs) ∧ M.frb f C B N r sl (pnb f C B N r sl xs) xs.length = xs)) := Iff.rfl
  have hxl : xs.length ≤ 65536 := by
    have hends := M.ends (f := f) (.inl hF.ok)
    have := hends.2.2.2.1; omega
  clear bel hf1 hp1 h2 h3 heq hT hF hS hb hl hn
  generalize isF f C B N r sl xs = IF at *
  generalize okM f C B N r sl (pnb f C B N r sl xs) = OK at *
  generalize M.frb f C B N r sl (pnb f C B N r sl xs) xs.length = ys at *
  generalize pnb f C B N r sl xs = PN at *
  unfold nilP
  unfold pa at H3 ⊢
  obtain ⟨c_, r_, h_, b_, k_, m_, j_, p_, l_, y_⟩ := f
  unfold fv at h1 H2 H3 ⊢
  unfold fc at hW1 HX
  dsimp only at h1 H2 H3 HX hW1 x0 x1 x2 x3 x4 x5 x6 x7 x8 x9 ⊢
  go_enter Tryz.func24, Tryz.ntmps24
  go_wp2_with (first
    | (go_at_call 42; refine h1.mono ?_; clear h1; rintro e w2 ⟨rfl, b2⟩; have h2 := H2.out w2 b2; clear H2; clear x0 x1 x2 x3 x4 x5 x6 x7 x8 x9; obtain ⟨x0, x1, x2, x3, x4, x5, x6, x7, x8, x9⟩ := box_cells (f := ⟨c_, r_, h_, b_, k_, m_, j_, p_, l_, y_⟩) (blk_below b2 HX.out (Blk.lt HX.out)); clear b2)
    | (go_at_call 69; refine h2.mono ?_; clear h2; rintro e w3 ⟨rfl, b3⟩; have h3 := H3.out w3 b3; clear H3; have B3 : Hid (Below W1.heap.size W1 w3) := b3; clear b3)
    | (go_at_call 74; refine h3.mono ?_; clear h3; rintro e w4 ⟨p, rfl, b4, h4⟩; have B4 : Hid (Below w3.heap.size w3 w4) := b4; clear b4; clear x0 x1 x2 x3 x4 x5 x6 x7 x8 x9; obtain ⟨x0, x1, x2, x3, x4, x5, x6, x7, x8, x9⟩ := box_cells (f := ⟨c_, r_, h_, b_, k_, m_, j_, p_, l_, y_⟩) (blk_below (B3.out.trans (B4.out.mono B3.out.size)) HX.out (Blk.lt HX.out)))
    | (go_at_call 44; refine h4.mono ?_; clear h4; rintro e w5 ⟨aj, az, ac, rfl, b5, h5⟩; have B5 : Hid (Below w3.heap.size w3 w5) := b5; have H5 : Hid _ := h5; clear b5 h5; clear x0 x1 x2 x3 x4 x5 x6 x7 x8 x9; obtain ⟨x0, x1, x2, x3, x4, x5, x6, x7, x8, x9⟩ := box_cells (f := ⟨c_, r_, h_, b_, k_, m_, j_, p_, l_, y_⟩) (blk_below (B3.out.trans (B5.out.mono B3.out.size)) HX.out (Blk.lt HX.out))))
  obtain ⟨w6, hw6⟩ : ∃ w6, w5.alloc (.cells #[.slice (some ⟨aj, 0, none⟩) B B, .slice (some ⟨az, 0, none⟩) C C, .slice (some ⟨ac, 0, none⟩) N N] 33) = w6 := ⟨_, rfl⟩
  rw [hw6]
  have B6 : Hid (Below w5.heap.size w5 w6.drew) := show Below w5.heap.size w5 w6.drew by rw [← hw6]; exact ⟨rfl, rfl, rfl, by simp, fun k hk => Below.heap_alloc _ _ _ hk⟩
  have K6 : Blk w6.drew w5.heap.size #[.slice (some ⟨aj, 0, none⟩) B B, .slice (some ⟨az, 0, none⟩) C C, .slice (some ⟨ac, 0, none⟩) N N] 33 := by rw [← hw6]; exact Blk.new w5 _ _
  have HCl : Hid (∀ wx, Below w3.heap.size w3 wx → Blk wx w5.heap.size #[.slice (some ⟨aj, 0, none⟩) B B, .slice (some ⟨az, 0, none⟩) C C, .slice (some ⟨ac, 0, none⟩) N N] 33 → wx.cell? ⟨w.heap.size, 0, none⟩ = some (.int .i64 c_) ∧ wx.cell? ⟨w.heap.size, 1, none⟩ = some (.int .i64 r_) ∧ wx.cell? ⟨w.heap.size, 2, none⟩ = some (.int .i64 h_) ∧ wx.cell? ⟨w.heap.size, 3, none⟩ = some (.int .i64 b_) ∧ wx.cell? ⟨w.heap.size, 4, none⟩ = some (.int .i64 k_) ∧ wx.cell? ⟨w.heap.size, 5, none⟩ = some (.int .i64 m_) ∧ wx.cell? ⟨w.heap.size, 6, none⟩ = some (.int .i64 j_) ∧ wx.cell? ⟨w.heap.size, 7, none⟩ = some (.int .i64 p_) ∧ wx.cell? ⟨w.heap.size, 8, none⟩ = some (.int .i64 l_) ∧ wx.cell? ⟨w.heap.size, 9, none⟩ = some (.int .i64 y_) ∧ wx.cell? ⟨w5.heap.size, 0, none⟩ = some (.slice (some ⟨aj, 0, none⟩) B B) ∧ wx.cell? ⟨w5.heap.size, 1, none⟩ = some (.slice (some ⟨az, 0, none⟩) C C) ∧ wx.cell? ⟨w5.heap.size, 2, none⟩ = some (.slice (some ⟨ac, 0, none⟩) N N)) := fun wx hb hk => by
    obtain ⟨x0, x1, x2, x3, x4, x5, x6, x7, x8, x9⟩ := box_cells (f := ⟨c_, r_, h_, b_, k_, m_, j_, p_, l_, y_⟩) (blk_below (B3.out.trans (hb.mono B3.out.size)) HX.out (Blk.lt HX.out))
    exact ⟨x0, x1, x2, x3, x4, x5, x6, x7, x8, x9, hk.cell rfl, hk.cell rfl, hk.cell rfl⟩
  have C6 : Hid _ := HCl.out w6.drew (B5.out.trans (B6.out.mono B5.out.size)) K6
  have h6 := H5.out w6.drew B6.out K6
  have H6 : Hid (Calls _ _ _ _ _) := h6
  clear h6 H5 K6 hw6 x0 x1 x2 x3 x4 x5 x6 x7 x8 x9
  go_region_held3 (fun wx => wx.cell? ⟨w.heap.size, 0, none⟩ = some (.int .i64 c_) ∧ wx.cell? ⟨w.heap.size, 1, none⟩ = some (.int .i64 r_) ∧ wx.cell? ⟨w.heap.size, 2, none⟩ = some (.int .i64 h_) ∧ wx.cell? ⟨w.heap.size, 3, none⟩ = some (.int .i64 b_) ∧ wx.cell? ⟨w.heap.size, 4, none⟩ = some (.int .i64 k_) ∧ wx.cell? ⟨w.heap.size, 5, none⟩ = some (.int .i64 m_) ∧ wx.cell? ⟨w.heap.size, 6, none⟩ = some (.int .i64 j_) ∧ wx.cell? ⟨w.heap.size, 7, none⟩ = some (.int .i64 p_) ∧ wx.cell? ⟨w.heap.size, 8, none⟩ = some (.int .i64 l_) ∧ wx.cell? ⟨w.heap.size, 9, none⟩ = some (.int .i64 y_) ∧ wx.cell? ⟨w5.heap.size, 0, none⟩ = some (.slice (some ⟨aj, 0, none⟩) B B) ∧ wx.cell? ⟨w5.heap.size, 1, none⟩ = some (.slice (some ⟨az, 0, none⟩) C C) ∧ wx.cell? ⟨w5.heap.size, 2, none⟩ = some (.slice (some ⟨ac, 0, none⟩) N N))
    (first | exact C6.out | exact C7.out | exact C8.out)
    (first
      | (go_at_call 75; refine H6.out.mono ?_; clear H6; rintro e w7 ⟨x, rfl, b7, k7, h7⟩; have C7 : Hid _ := HCl.out w7 b7 k7; have H7 : Hid (Calls _ _ _ _ _) := h7; clear b7 k7 h7)
      | (go_at_call 70; refine H7.out.mono ?_; clear H7; rintro e w8 ⟨rfl, b8, k8, h8⟩; have C8 : Hid _ := HCl.out w8 b8 k8; have H8 : Hid (Calls _ _ _ _ _) := h8; clear b8 k8 h8))
  all_goals (
    obtain ⟨x0, x1, x2, x3, x4, x5, x6, x7, x8, x9, y0, y1, y2⟩ := C8.out
    have h8 := H8.out
    clear C6 C7 C8 H8
    by_cases hok : OK
    · by_cases hxy : ys = xs
      · have hE := fun w u v hu hv => (HE.out u v ys w hu hv).mono fun e w' (h : _ ∧ _) => (⟨by rw [h.1, decide_eq_true hxy], h.2⟩ : e = .returned (.bool true) ∧ w' = w)
        have HEq : Hid _ := hE
        clear hE HE
        go_wp2_with (first
          | (go_at_call 23; refine h8.mono ?_; clear h8; rintro e w9 ⟨b9, k9, g9, gv9, ⟨_, v, rfl, gw9⟩ | ⟨hno, _⟩⟩; rotate_left; exact absurd hok hno; have hE := HEq.out w9 _ _ gw9 gv9; clear x0 x1 x2 x3 x4 x5 x6 x7 x8 x9 y0 y1 y2; obtain ⟨x0, x1, x2, x3, x4, x5, x6, x7, x8, x9, y0, y1, y2⟩ := HCl.out w9 b9 k9; have ka := HA.out w9 (B3.out.trans (b9.mono B3.out.size)); have t0 := ka.cell (o := 0) (v := .slice none 0 0) rfl; have t1 := ka.cell (o := 1) (v := .slice none 0 0) rfl; have t2 := ka.cell (o := 2) (v := .slice none 0 0) rfl; have f0 := ka.free 0; have f1 := ka.free 1; have f2 := ka.free 2; have KA : Hid (Blk w9 _ _ _) := ka; have G9 : Hid _ := g9; have B9 : Hid (Below w3.heap.size w3 w9) := b9; clear b9 k9 g9 ka)
          | (go_at_call 76; refine hE.mono ?_; clear hE; rintro e w10 ⟨rfl, rfl⟩))
        obtain ⟨E, pf, got⟩ := G9.out
        obtain ⟨bb, d0, d1, d2⟩ := ans_box (x := .slice (some ⟨aj, 0, none⟩) B B) (y := .slice (some ⟨az, 0, none⟩) C C) (z := .slice (some ⟨ac, 0, none⟩) N N) HB.out (B3.out.trans (B9.out.mono B3.out.size)) hs1 KA.out
        refine bodyPost_ret (v := .tuple #[.agg #[.slice (some ⟨aj, 0, none⟩) B B, .slice (some ⟨az, 0, none⟩) C C, .slice (some ⟨ac, 0, none⟩) N N], .int .i64 0]) (by simp [results, Tryz.results24, go_sem, d0, d1, d2]) rfl ?_
        have hs3 := B3.out.size
        have hl1 : w.heap.size + 1 < w3.heap.size := by omega
        exact ⟨bb, .inl ⟨HI.out.2 ⟨hok, hxy⟩, aj, az, ac, E, pf, rfl, (((got.set (a := ⟨w.heap.size + 1, 0, none⟩) hl1 _).set (a := ⟨w.heap.size + 1, 1, none⟩) hl1 _).set (a := ⟨w.heap.size + 1, 2, none⟩) hl1 _).less (by omega)⟩⟩
      · have hE := fun w u v hu hv => (HE.out u v ys w hu hv).mono fun e w' (h : _ ∧ _) => (⟨by rw [h.1, decide_eq_false hxy], h.2⟩ : e = .returned (.bool false) ∧ w' = w)
        have HEq : Hid _ := hE
        clear hE HE
        go_wp2_with (first
          | (go_at_call 23; refine h8.mono ?_; clear h8; rintro e w9 ⟨b9, k9, g9, gv9, ⟨_, v, rfl, gw9⟩ | ⟨hno, _⟩⟩; rotate_left; exact absurd hok hno; have hE := HEq.out w9 _ _ gw9 gv9; clear x0 x1 x2 x3 x4 x5 x6 x7 x8 x9 y0 y1 y2; obtain ⟨x0, x1, x2, x3, x4, x5, x6, x7, x8, x9, y0, y1, y2⟩ := HCl.out w9 b9 k9; have ka := HA.out w9 (B3.out.trans (b9.mono B3.out.size)); have t0 := ka.cell (o := 0) (v := .slice none 0 0) rfl; have t1 := ka.cell (o := 1) (v := .slice none 0 0) rfl; have t2 := ka.cell (o := 2) (v := .slice none 0 0) rfl; have f0 := ka.free 0; have f1 := ka.free 1; have f2 := ka.free 2; have KA : Hid (Blk w9 _ _ _) := ka; have B9 : Hid (Below w3.heap.size w3 w9) := b9; clear b9 k9 g9 ka)
          | (go_at_call 76; refine hE.mono ?_; clear hE; rintro e w10 ⟨rfl, rfl⟩))
        obtain ⟨bb, d0, d1, d2⟩ := ans_box (x := .slice none 0 0) (y := .slice none 0 0) (z := .slice none 0 0) HB.out (B3.out.trans (B9.out.mono B3.out.size)) hs1 KA.out
        refine bodyPost_ret (v := .tuple #[.agg #[.slice none 0 0, .slice none 0 0, .slice none 0 0], .int .i64 140]) (by simp [results, Tryz.results24, go_sem, d0, d1, d2]) rfl ?_
        exact ⟨bb, .inr ⟨fun h => hxy (HI.out.1 h).2, rfl⟩⟩
    · clear HE
      go_wp2_with (go_at_call 23; refine h8.mono ?_; clear h8; rintro e w9 ⟨b9, k9, g9, gv9, ⟨hyes, _⟩ | ⟨_, rfl⟩⟩; exact absurd hyes hok; clear x0 x1 x2 x3 x4 x5 x6 x7 x8 x9 y0 y1 y2; have ka := HA.out w9 (B3.out.trans (b9.mono B3.out.size)); have t0 := ka.cell (o := 0) (v := .slice none 0 0) rfl; have t1 := ka.cell (o := 1) (v := .slice none 0 0) rfl; have t2 := ka.cell (o := 2) (v := .slice none 0 0) rfl; have f0 := ka.free 0; have f1 := ka.free 1; have f2 := ka.free 2; have KA : Hid (Blk w9 _ _ _) := ka; have B9 : Hid (Below w3.heap.size w3 w9) := b9; clear b9 k9 g9 gv9 ka)
      obtain ⟨bb, d0, d1, d2⟩ := ans_box (x := .slice none 0 0) (y := .slice none 0 0) (z := .slice none 0 0) HB.out (B3.out.trans (B9.out.mono B3.out.size)) hs1 KA.out
      refine bodyPost_ret (v := .tuple #[.agg #[.slice none 0 0, .slice none 0 0, .slice none 0 0], .int .i64 140]) (by simp [results, Tryz.results24, go_sem, d0, d1, d2]) rfl ?_
      exact ⟨bb, .inr ⟨fun h => hok (HI.out.1 h).1, rfl⟩⟩)
end Sub
end Go.Proofs.YtcaifpjbjghhaaaGreatDoor

/-
  What is parsed of a frame is what was packed. Plain facts, no walk. Conditions: as told at each.
-/
namespace Go.Proofs.YtcaifpjbjghhaaaGreatDoor
set_option linter.unusedVariables false
open Go.RowKit
namespace Sub
structure Agr (C B N : Nat) (m m' : Nb) : Prop where
  j : ∀ b, b < B → m.j b = m'.j b
  s : ∀ c, c < C → ∀ b, b < B → m.s c b = m'.s c b
  q : ∀ i, i < N → ∀ c, c < C → ∀ b, b < B → m.q i c b = m'.q i c b
theorem Agr.symm {C B N : Nat} {m m' : Nb} (h : Agr C B N m m') : Agr C B N m' m := ⟨fun b hb => (h.j b hb).symm, fun c hc b hb => (h.s c hc b hb).symm, fun i hi c hc b hb => (h.q i hi c hc b hb).symm⟩
theorem rl_ext {C : Nat} {f g : Nat → Int} (h : ∀ j, j < C → f j = g j) : rl C f = rl C g := List.map_congr_left fun j hj => h j (by simpa using hj)
theorem zl_ext {n C : Nat} {F G : Nat → Nat → Int} (h : ∀ i, i < n → ∀ j, j < C → F i j = G i j) : zl n C F = zl n C G := List.map_congr_left fun i hi => rl_ext (h i (by simpa using hi))
theorem wid_ext {f : M.Fmt} {C B r : Nat} {Z Z' : Nat → Nat → Int} {sl : Int} (h : ∀ c, c < C → ∀ b, b < B → Z c b = Z' c b) : M.wid f C B r Z sl = M.wid f C B r Z' sl := by
  funext c b
  unfold M.wid
  rw [zl_ext h]
theorem Sh.ext {f : M.Fmt} {C B r : Nat} {Z Z' : Nat → Nat → Int} {sl : Int} (h : Sh f C B r Z sl) (e : ∀ c, c < C → ∀ b, b < B → Z c b = Z' c b) : Sh f C B r Z' sl := by
  have e' := zl_ext e
  exact ⟨e' ▸ h.good, e' ▸ h.lst, h.bd⟩
theorem okM_ext {f : M.Fmt} {C B N r : Nat} {sl : Int} {m m' : Nb} (h : Agr C B N m m') (k : okM f C B N r sl m) : okM f C B N r sl m' := by
  obtain ⟨k1, k2⟩ := k
  refine ⟨(rl_ext h.j) ▸ k1, fun x => ?_⟩
  have := k2 x
  unfold okC at this ⊢
  rw [← h.q _ x.1.isLt _ x.2.1.isLt _ x.2.2.isLt, ← h.s _ x.2.1.isLt _ x.2.2.isLt, ← wid_ext h.s]
  exact this
end Sub
namespace M
open _root_.Go.Proofs.YtcaifpjbjghhaaaGreatDoor.Sub (Nb Plc plist Agr Sb Sh)
theorem flat_congr {α β : Type} {l : List α} {f g : α → List β} (h : ∀ x ∈ l, f x = g x) : l.flatMap f = l.flatMap g := by
  rw [List.flatMap_def, List.flatMap_def, List.map_congr_left h]
theorem fmR_ext {k n : Nat} {f g : Nat → Int} (h : ∀ j, j < n → f j = g j) : fmR k f n = fmR k g n := flat_congr fun b hb => by rw [h b (by simpa using hb)]
theorem wdN_ext {f : Fmt} {C B r : Nat} {Z Z' : Nat → Nat → Int} {sl : Int} (h : ∀ c, c < C → ∀ b, b < B → Z c b = Z' c b) : wdN f C B r Z sl = wdN f C B r Z' sl := by
  funext c b
  unfold wdN
  rw [Sub.wid_ext h]
theorem frm_ext {f : Fmt} {C B N r : Nat} {sl : Int} {m m' : Nb} (h : Agr C B N m m') : frm f C B N r sl m = frm f C B N r sl m' := by
  unfold frm
  rw [wdN_ext h.s]
  have e1 : fmJ f B m = fmJ f B m' := by unfold fmJ; rw [fmR_ext h.j]
  have e2 : fmS B m C = fmS B m' C := flat_congr fun c hc => fmR_ext (h.s c (by simpa using hc))
  have e3 : ∀ wd, fmQ wd m (plist N C B) = fmQ wd m' (plist N C B) := fun wd => flat_congr fun x _ => by rw [h.q _ x.1.isLt _ x.2.1.isLt _ x.2.2.isLt]
  rw [e1, e2, e3]
theorem frb_ext {f : Fmt} {C B N r n : Nat} {sl : Int} {m m' : Nb} (h : Agr C B N m m') : frb f C B N r sl m n = frb f C B N r sl m' n := by unfold frb raw; rw [frm_ext h]

theorem mid_at (X Y Z : List Bool) {j : Nat} (h : j < Y.length) : (X ++ Y ++ Z).getD (X.length + j) false = Y.getD j false := by
  rw [getD_app, if_pos (by rw [List.length_append]; omega), getD_app, if_neg (by omega)]
  congr 1; omega
theorem fmR_at {k n : Nat} {g : Nat → Int} : ∀ {b j : Nat}, b < n → j < k → (fmR k g n).getD (k * b + j) false = (bn (g b).toNat k).getD j false := by
  induction n with
  | zero => intro b j hb; exact absurd hb (by omega)
  | succ n ih =>
    intro b j hb hj
    rw [fmR_succ, getD_app, fmR_length]
    by_cases e : b = n
    · subst e
      rw [if_neg (by omega)]
      congr 1; omega
    · have hm : k * b + k ≤ k * n := by rw [← Nat.mul_succ]; exact Nat.mul_le_mul_left k (by omega)
      rw [if_pos (by omega)]
      exact ih (by omega) hj
theorem fmS_at {B : Nat} {m : Nb} {C : Nat} : ∀ {c i : Nat}, c < C → i < 4 * B → (fmS B m C).getD (4 * B * c + i) false = (fmR 4 (m.s c) B).getD i false := by
  induction C with
  | zero => intro c i hc; exact absurd hc (by omega)
  | succ C ih =>
    intro c i hc hi
    rw [fmS_succ, getD_app, fmS_length]
    by_cases e : c = C
    · subst e
      rw [if_neg (by omega)]
      congr 1; omega
    · have hm : 4 * B * c + 4 * B ≤ 4 * B * C := by rw [← Nat.mul_succ]; exact Nat.mul_le_mul_left _ (by omega)
      rw [if_pos (by omega)]
      exact ih (by omega) hi
theorem fmQ_at {N C B : Nat} (wd : Nat → Nat → Nat) (m : Nb) (x : Plc N C B) {j : Nat} (hj : j < wd x.2.1 x.2.2) : (fmQ wd m (plist N C B)).getD (ahead wd C B x.1 x.2.1 x.2.2 + j) false = (bn (m.q x.1 x.2.1 x.2.2).toNat (wd x.2.1 x.2.2)).getD j false := by
  obtain ⟨zs, hz⟩ := plist_split x
  have e : fmQ wd m (plist N C B) = fmQ wd m (Sub.ln x.1.val ++ Sub.lc x.1 x.2.1.val ++ Sub.lb x.1 x.2.1 x.2.2.val : List (Plc N C B)) ++ bn (m.q x.1 x.2.1 x.2.2).toNat (wd x.2.1 x.2.2) ++ fmQ wd m zs := by rw [hz]; simp [fmQ]
  rw [e, ← cost_ahead wd x, ← fmQ_length wd m]
  exact mid_at _ _ _ (by rw [bn_length]; exact hj)

theorem bit_raw {f : Fmt} {C B N r n : Nat} {sl : Int} {m : Nb} {j : Nat} (hj : j < 8 * n) (h3 : j / 8 ≠ 3) : Bits.bitsL (frb f C B N r sl m n) j = (frm f C B N r sl m).getD j false := by
  have e : (frb f C B N r sl m n).getD (j / 8) 0 = byteOf (fun j => (frm f C B N r sl m).getD j false) (j / 8) := by
    unfold frb
    rw [List.getD, List.getElem?_set_ne (by omega), ← List.getD]
    exact Bits.bytesL_getD _ (by omega)
  have h2 := congrFun (bitsOf_byteOf fun j => (frm f C B N r sl m).getD j false) j
  unfold bitsOf at h2
  rw [← h2]
  show (Nat.testBit ((frb f C B N r sl m n).getD (j / 8) 0) _) = _
  rw [e]

theorem side_len (f : Fmt) (B : Nat) (m : Nb) : (fmH f 8 ++ fmJ f B m).length = side f B := by
  rw [List.length_append, fmH_length, fmJ_length]; rfl
theorem again {f : Fmt} {C B N r n : Nat} {sl : Int} {m m' : Nb} (hF : Sb f C B N r) (hS : Sh f C B r m.s sl) (h : okN f C B N r sl m) (hn : bitS f ≤ 8 * n) (hr : Read f C B N r sl (Bits.bitsL (frb f C B N r sl m n)) m') : Agr C B N m' m := by
  have room := frm_room (N := N) hF hS
  have hlen : side f B + 4 * B * C + cost (wdN f C B r m.s sl) (plist N C B) ≤ 8 * n := by
    rw [fmJ_length] at room
    unfold side; omega
  have hs : ∀ c, c < C → ∀ b, b < B → m'.s c b = m.s c b := fun c hc b hb => by
    have hm := h.s c hc b hb
    have hcb : 4 * B * c + 4 * B ≤ 4 * B * C := by rw [← Nat.mul_succ]; exact Nat.mul_le_mul_left _ (by omega)
    rw [hr.s c hc b hb, fv_all (v := (m.s c b).toNat) (fun j hj => ?_) (by show (m.s c b).toNat < 16; omega), Int.toNat_of_nonneg hm.1]
    have hside : 32 ≤ side f B := by unfold side; omega
    rw [bit_raw (by omega) (by omega)]
    unfold frm
    rw [show side f B + 4 * B * c + 4 * b + j = (fmH f 8 ++ fmJ f B m).length + (4 * B * c + (4 * b + j)) by rw [side_len]; omega]
    rw [mid_at _ _ _ (by rw [fmS_length]; omega), fmS_at hc (by omega), fmR_at hb hj, bn_get hj]
  have hw : wdN f C B r m'.s sl = wdN f C B r m.s sl := wdN_ext hs
  refine ⟨fun b hb => ?_, hs, fun i hi c hc b hb => ?_⟩
  · have hm := h.j b hb
    rw [hr.j b hb]
    by_cases hj : f.j = 1
    · rw [if_pos hj, fv_all (v := (m.j b).toNat) (fun j hj' => ?_) (by show (m.j b).toNat < 2; omega), Int.toNat_of_nonneg hm.1]
      have hside : side f B = 32 + B := by unfold side; rw [if_pos hj]
      rw [bit_raw (by omega) (by omega)]
      unfold frm
      rw [show fmH f 8 ++ fmJ f B m ++ fmS B m C ++ fmQ (wdN f C B r m.s sl) m (plist N C B) = fmH f 8 ++ fmJ f B m ++ (fmS B m C ++ fmQ (wdN f C B r m.s sl) m (plist N C B)) by simp only [List.append_assoc]]
      rw [show 32 + b + j = (fmH f 8).length + (1 * b + j) by rw [fmH_length]; omega, mid_at _ _ _ (by rw [fmJ_length, if_pos hj]; omega)]
      unfold fmJ
      rw [if_pos hj, fmR_at hb hj', bn_get hj']
    · rw [if_neg hj]
      have := hF.joint
      omega
  · have hm := h.q i hi c hc b hb
    have hlt : (m.q i c b).toNat < 2 ^ wdN f C B r m.s sl c b := by
      have h2 : ((2 ^ wdN f C B r m.s sl c b : Nat) : Int) = 2 ^ wdN f C B r m.s sl c b := by push_cast; rfl
      omega
    rw [hr.q i hi c hc b hb, hw, fv_all (v := (m.q i c b).toNat) (fun j hj => ?_) hlt, Int.toNat_of_nonneg hm.1]
    have hside : 32 ≤ side f B := by unfold side; omega
    have hah := cost_ahead (wdN f C B r m.s sl) (⟨⟨i, hi⟩, ⟨c, hc⟩, ⟨b, hb⟩⟩ : Plc N C B)
    obtain ⟨zs, hz⟩ := plist_split (⟨⟨i, hi⟩, ⟨c, hc⟩, ⟨b, hb⟩⟩ : Plc N C B)
    have hct : cost (wdN f C B r m.s sl) (plist N C B) = ahead (wdN f C B r m.s sl) C B i c b + (wdN f C B r m.s sl c b + cost (wdN f C B r m.s sl) zs) := by
      rw [hz, cost_app, hah]
      simp [cost]
    rw [bit_raw (by omega) (by omega)]
    unfold frm
    rw [show side f B + 4 * B * C + ahead (wdN f C B r m.s sl) C B i c b + j = (fmH f 8 ++ fmJ f B m ++ fmS B m C).length + (ahead (wdN f C B r m.s sl) C B i c b + j) by rw [List.length_append, side_len, fmS_length]; omega]
    rw [getD_app, if_neg (by omega), Nat.add_sub_cancel_left]
    rw [fmQ_at (wdN f C B r m.s sl) m (⟨⟨i, hi⟩, ⟨c, hc⟩, ⟨b, hb⟩⟩ : Plc N C B) hj, bn_get hj]
end M
namespace Sub
theorem frame_is {f : M.Fmt} {C B N r n : Nat} {sl sl' : Int} {m : Nb} (hF : Sb f C B N r) (hS : Sh f C B r m.s sl) (hm : okM f C B N r sl m) (hn : M.pay f = n) (hZ : ∀ c, c < C → ∀ b, b < B → 0 ≤ m.s c b ∧ m.s c b ≤ 15) (hS' : Sh f C B r (psc f C B (M.frb f C B N r sl m n)) sl') :
    sl' = sl ∧ Agr C B N (pnb f C B N r sl (M.frb f C B N r sl m n)) m ∧ isF f C B N r sl (M.frb f C B N r sl m n) := by
  have hends := M.ends (f := f) (.inl hF.ok)
  rw [hn] at hends
  have hbit : M.bitS f ≤ 8 * (n : Int) := by have := hends.2.2.2.2; unfold M.bitF at this; rw [if_pos hF.ok.1] at this; exact this
  have hl : (M.frb f C B N r sl m n).length = n := M.frb_length
  have hok := okN_of hZ hm
  have hsc := (M.sc_get (Bt := Bits.bitsL (M.frb f C B N r sl m n)) (n := n) hF hbit).2.2
  -- the scales alone first: any reading has them
  have hall' := M.all_get (Bt := Bits.bitsL (M.frb f C B N r sl m n)) (n := n) (N := N) (sl := sl') hF hbit (by have := hS'; unfold psc at this; rw [hl] at this; exact this)
  have hag : ∀ c, c < C → ∀ b, b < B → psc f C B (M.frb f C B N r sl m n) c b = m.s c b := by
    intro c hc b hb
    unfold psc
    rw [hl, hsc c hc b hb]
    have hR : M.Read f C B N r sl (Bits.bitsL (M.frb f C B N r sl m n)) ⟨fun b => if f.j = 1 then (M.fv (Bits.bitsL (M.frb f C B N r sl m n)) (32 + b) 1 : Int) else 0, fun c b => (M.fv (Bits.bitsL (M.frb f C B N r sl m n)) (M.side f B + 4 * B * c + 4 * b) 4 : Int),
        fun i c b => (M.fv (Bits.bitsL (M.frb f C B N r sl m n)) (M.side f B + 4 * B * C + M.ahead (M.wdN f C B r (fun c b => (M.fv (Bits.bitsL (M.frb f C B N r sl m n)) (M.side f B + 4 * B * c + 4 * b) 4 : Int)) sl) C B i c b) (M.wdN f C B r (fun c b => (M.fv (Bits.bitsL (M.frb f C B N r sl m n)) (M.side f B + 4 * B * c + 4 * b) 4 : Int)) sl c b) : Int)⟩ :=
      ⟨fun b _ => rfl, fun c _ b _ => rfl, fun i _ c _ b _ => rfl⟩
    exact (M.again hF hS hok hbit hR).s c hc b hb
  have hsl : sl' = sl := (hS'.ext hag).one hS
  subst hsl
  have hread : M.Read f C B N r sl' (Bits.bitsL (M.frb f C B N r sl' m n)) (pnb f C B N r sl' (M.frb f C B N r sl' m n)) := by
    unfold pnb; rw [hl]; exact hall'.2
  have hA := M.again hF hS hok hbit hread
  refine ⟨rfl, hA, okM_ext hA.symm hm, ?_⟩
  rw [hl]
  exact M.frb_ext hA
end Sub
end Go.Proofs.YtcaifpjbjghhaaaGreatDoor

