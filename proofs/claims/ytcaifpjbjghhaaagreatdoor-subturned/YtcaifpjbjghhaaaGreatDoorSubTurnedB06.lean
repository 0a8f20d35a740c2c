import Derived.Laws.IdiomCopy
import Derived.Test.YtcaifpjbjghhaaaGreatDoorSubTurnedB05
import Derived.Test.YtcaifpjbjghhaaaGreatDoorSubA00
import Derived.Test.YtcaifpjbjghhaaaGreatDoorSubA01
import Derived.Test.YtcaifpjbjghhaaaGreatDoorSubA02
import Derived.Test.YtcaifpjbjghhaaaGreatDoorSubA03
import Derived.Test.YtcaifpjbjghhaaaGreatDoorSubA04
import Derived.Test.YtcaifpjbjghhaaaGreatDoorSubA05
import Derived.Test.YtcaifpjbjghhaaaGreatDoorSubA06
import Derived.Test.YtcaifpjbjghhaaaGreatDoorSubA07
import Derived.Test.YtcaifpjbjghhaaaGreatDoorSubA08
import Derived.Test.YtcaifpjbjghhaaaGreatDoorSubA09
import Derived.Test.YtcaifpjbjghhaaaGreatDoorSubA10
import Derived.Test.YtcaifpjbjghhaaaGreatDoorSubA11
import Derived.Test.YtcaifpjbjghhaaaGreatDoorSubA12
import Derived.Test.YtcaifpjbjghhaaaGreatDoorSubA13
import Derived.Test.YtcaifpjbjghhaaaGreatDoorSubA14
import Derived.Test.YtcaifpjbjghhaaaGreatDoorSubA15
import Derived.Test.YtcaifpjbjghhaaaGreatDoorSubA16
import Derived.Test.YtcaifpjbjghhaaaGreatDoorSubA17
import Derived.Test.YtcaifpjbjghhaaaGreatDoorSubA18
import Derived.Test.YtcaifpjbjghhaaaGreatDoorSubA19
import Derived.Test.YtcaifpjbjghhaaaGreatDoorSubA20
import Derived.Test.YtcaifpjbjghhaaaGreatDoorSubA21
import Derived.Test.YtcaifpjbjghhaaaGreatDoorSubA22
import Derived.Test.YtcaifpjbjghhaaaGreatDoorSubA23
import Derived.Test.YtcaifpjbjghhaaaGreatDoorSubA24
import Derived.Test.YtcaifpjbjghhaaaGreatDoorSubA25
import Derived.Test.YtcaifpjbjghhaaaGreatDoorSubA26
import Derived.Test.YtcaifpjbjghhaaaGreatDoorSubA27
import Derived.Test.YtcaifpjbjghhaaaGreatDoorSubA28
import Derived.Test.YtcaifpjbjghhaaaGreatDoorSubA29
import Derived.Test.YtcaifpjbjghhaaaGreatDoorSubA30
import Derived.Test.YtcaifpjbjghhaaaGreatDoorSubA31
import Derived.Test.YtcaifpjbjghhaaaGreatDoorSubA32
import Derived.Test.YtcaifpjbjghhaaaGreatDoorSubA33
import Derived.Test.YtcaifpjbjghhaaaGreatDoorSubA34
import Derived.Test.YtcaifpjbjghhaaaGreatDoorSubA35
import Derived.Test.YtcaifpjbjghhaaaGreatDoorSubA36
import Derived.Test.YtcaifpjbjghhaaaGreatDoorSubA37
import Derived.Test.YtcaifpjbjghhaaaGreatDoorSubA38
import Derived.Test.YtcaifpjbjghhaaaGreatDoorSubA39
import Derived.Test.YtcaifpjbjghhaaaGreatDoorSubA40
import Derived.Test.YtcaifpjbjghhaaaGreatDoorSubA41
import Derived.Test.YtcaifpjbjghhaaaGreatDoorSubA42
import Derived.Test.YtcaifpjbjghhaaaGreatDoorSubA43
import Derived.Test.YtcaifpjbjghhaaaGreatDoorSubA44
import Derived.Test.YtcaifpjbjghhaaaGreatDoorSubTurnedB05
/-
  The law SubTurned: a frame in which something was turned. Conditions: the polynomial's numbers and the offsets stand as their initialisers lay them; one goroutine; at and turn are of their kinds.
-/
namespace Go.Proofs.YtcaifpjbjghhaaaGreatDoor
set_option linter.unusedVariables false
open Go.RowKit
namespace Sub
open Bank (Blk But)
open Byt (Given)
open Poly (Reads cell_keep alloc_size Spl Joi enc)
open _root_.Go.Proofs.YtcaifpjbjghhaaaGreatDoor.Form (fv fc bel1 box_cells blk_below of_drew)

/-- copied into a new block of n samples, of any list -/
theorem copy_any {wr : World} {g n lo hi m c : Nat} {va : Option Addr} {q : List Int} (h : Blk wr g (enc .i16 (List.replicate n 0)).toArray 182) (hq : Reads .i16 lo hi wr (.slice va m c) q) :
    ∃ k : Nat, ∀ ty : TypeId, (Builtin.copy_ #[55, 55] ty #[.slice (some ⟨g, 0, none⟩) n n, .slice va m c]).run Tryz.prog wr = .ok (goInt k) (wr.setRow g (enc .i16 (M.tk n q)).toArray) := by
  have hlq : q.length = m := by obtain ⟨_, _, he, _⟩ := hq; cases he; rfl
  rcases Nat.eq_zero_or_pos m with h0 | h0
  · subst h0
    obtain rfl : q = [] := List.eq_nil_of_length_eq_zero hlq
    refine ⟨0, fun ty => ?_⟩
    rw [run_copy_none wr 55 55 ty 182 (some ⟨g, 0, none⟩) va n n 0 c Tryz.underlying55 (by kernel_rfl) (by show min 0 n = 0; omega)]
    have e : M.tk n [] = List.replicate n 0 := by
      apply List.ext_getElem
      · simp [M.tk]
      · intro i h1 h2; simp [M.tk]
    rw [e, setRow_self wr g _ _ _ h]
    rfl
  · obtain ⟨b, o, rfl, _⟩ := hq.cell (by omega)
    exact copy_tk h hq h0

theorem side_room {f : M.Fmt} {C B N r PN : Nat} (hF : Sb f C B N r) (hbit : M.bitS f ≤ 8 * (PN : Int)) : 16 + sbits f B C ≤ 8 * PN := by
  have ok := hF.ok
  have hj := hF.joint
  have hp := ok.2.2.2.2.2.2.2.1
  have hk := hF.n16
  have hkk := hF.hN
  have hh := hF.hC
  have hbb := hF.hB
  have hkp : 0 ≤ f.k * f.p := Int.mul_nonneg (by omega) (by omega)
  unfold M.bitS at hbit
  unfold sbits
  rcases hF.c2 with rfl | rfl <;> rcases hF.b8 with rfl | rfl <;> rcases hj with hj | ⟨hj, hc⟩ <;> (rw [hh, hbb, hj] at hbit; simp only [hj]; simp at hbit ⊢; omega)
theorem trn_steps {f : M.Fmt} {C B N r PN : Nat} (hF : Sb f C B N r) (hn : M.pay f = PN) :
    (∀ (p l : Nat) (lo g : Nat → Nat) (L : Nat → List Int) (lo' hi' : Nat) (x : List Int) (v : Value) (W : World), (∀ wx, Lns g C W wx → Alloc.Tabs wx) → Enc p l C B f lo g L W → Reads .i16 lo' hi' W v x → hi' ≤ W.heap.size → x.length = C * (N * B) →
      ∃ FR : List Nat, Frm f C B FR ∧ (∀ y ∈ FR, y < 256) ∧ FR.length = PN ∧ Calls Tryz.prog 30 #[.pointer (some ⟨p, 0, none⟩), v] W fun e W2 => ∃ g0 cap, e = .returned (.tuple #[.slice (some ⟨g0, 0, none⟩) PN cap, .int .i64 0]) ∧ W2.ownsRow W.heap.size 5 1 (.slice (some ⟨g0, 0, none⟩) PN cap) PN (FR.map fun x : Nat => Value.int .u8 x) ∧ Lns g C W W2) ∧
    (∀ (u : Value) (ys : List Nat) (W : World), Alloc.Tabs W → Given W u ys → ys.length = PN → ¬ Frm f C B ys → Calls Tryz.prog 24 #[fv f, u] W fun e W2 => e = .returned (.tuple #[.agg #[.slice none 0 0, .slice none 0 0, .slice none 0 0], .int .i64 140]) ∧ Below W.heap.size W W2) := by
  have hends := M.ends (f := f) (.inl hF.ok)
  rw [hn] at hends
  have n7 : 7 ≤ PN := by have := hends.2.2.1; omega
  refine ⟨fun p l lo g L lo' hi' x v W hT he hx hh hl => ?_, fun u ys W hT hg hl hnf => ?_⟩
  · obtain ⟨sl, hS⟩ := sh_of hF (Z := M.anS f N B (M.enX B N C x L)) (fun c _ b _ => M.anS_bd _ _ _ _ _ _)
    refine ⟨frameOf f C B N r PN sl L x, frm_of (by omega), M.frb_lt, M.frb_length, (Feed_ok p l C B N r PN f lo g L sl lo' hi' x v W hT hF he hx hh hl hS hn).mono ?_⟩
    rintro e W2 ⟨u, rfl, ho, he2, hl2⟩
    obtain ⟨au, cu, rfl⟩ := Poly.own_form ho
    obtain ⟨g0, rfl⟩ : ∃ g0, au = some ⟨g0, 0, none⟩ := by
      rcases id ho.2 with ⟨_, h0⟩ | ⟨g0, cap, cur, h1, _⟩
      · omega
      · cases h1; exact ⟨g0, rfl⟩
    exact ⟨g0, cu, rfl, ho, hl2⟩
  · obtain ⟨sl', hS'⟩ := psc_sh (xs := ys) hF hl hn
    refine (Parse_any f C B N r PN u ys sl' W hT hF hS' hg hl hn).mono ?_
    rintro e W3 ⟨b3, ⟨hi, _⟩ | ⟨_, rfl⟩⟩
    · exact absurd (isF_frm hi (by omega)) hnf
    · exact ⟨rfl, b3⟩

set_option maxRecDepth 100000 in
set_option maxHeartbeats 1000000 in
/-- no format of Sub -/
theorem turned_none (f : M.Fmt) (v : Value) (x : List Int) (at_ T : Int) (hd : Bool) (w : World) (hT : Wave.Tab w ∧ Alloc.Tabs w) (hx : Reads .i16 0 w.heap.size w v x) (hn : ¬ M.okS f) :
    Calls Tryz.prog 8 #[fv f, v, .int .u16 at_, .int .u8 T, .bool hd] w fun e w' => e = .returned (.bool true) ∧ Below w.heap.size w w' := by
  obtain ⟨va, vc, rfl⟩ := hx.form
  have bel := bel1 w (.cells (fc f) 23)
  have hal := alive_any (w.alloc (.cells (fc f) 23)) (Bank.tab_below bel (Nat.le_refl _) hT.1) (hT.2.below bel (Nat.le_refl _))
  have HB : Hid (Below w.heap.size w _) := bel
  have hnw := fun wx => Bank.new_any wx
  have HNw : Hid (∀ wx, Calls _ _ _ wx _) := hnw
  have hne := fun b wx => NewEncoder_no (.pointer (some ⟨b, 0, none⟩)) ⟨_, rfl⟩ f 110 (by decide) wx fun wy => ofSplitter_form _ ⟨_, rfl⟩ f wy hn
  have HNe : Hid (∀ b wx, Calls _ _ _ wx _) := hne
  have hcl : ∀ wx, Below (w.alloc (.cells (fc f) 23)).heap.size (w.alloc (.cells (fc f) 23)) wx → Blk wx w.heap.size (fc f) 23 := fun wx hb => blk_below hb (Blk.new w _ _) (by simp)
  have HCl : Hid _ := hcl
  generalize x.length = xl at *
  clear hnw hne hcl hT hx bel hn
  obtain ⟨c_, r_, h_, b_, k_, m_, j_, p_, l_, y_⟩ := f
  unfold fv at HNe
  unfold fv
  dsimp only at HNe ⊢
  obtain ⟨W1, hW1⟩ : ∃ W1, w.alloc (.cells (fc ⟨c_, r_, h_, b_, k_, m_, j_, p_, l_, y_⟩) 23) = W1 := ⟨_, rfl⟩
  rw [hW1] at hal HB HCl
  unfold fc at hW1
  dsimp only at hW1
  go_enter Tryz.func8, Tryz.ntmps8
  go_wp2_with (first
    | (go_at_call 11; refine hal.mono ?_; clear hal; rintro e w1 ⟨rfl, b1⟩; have B1 : Hid (Below _ _ w1) := b1; clear b1))
  have C0 : Hid ((fun wx => wx.cell? ⟨w.heap.size, 0, none⟩ = some (.int .i64 c_) ∧ wx.cell? ⟨w.heap.size, 1, none⟩ = some (.int .i64 r_) ∧ wx.cell? ⟨w.heap.size, 2, none⟩ = some (.int .i64 h_) ∧ wx.cell? ⟨w.heap.size, 3, none⟩ = some (.int .i64 b_) ∧ wx.cell? ⟨w.heap.size, 4, none⟩ = some (.int .i64 k_) ∧ wx.cell? ⟨w.heap.size, 5, none⟩ = some (.int .i64 m_) ∧ wx.cell? ⟨w.heap.size, 6, none⟩ = some (.int .i64 j_) ∧ wx.cell? ⟨w.heap.size, 7, none⟩ = some (.int .i64 p_) ∧ wx.cell? ⟨w.heap.size, 8, none⟩ = some (.int .i64 l_) ∧ wx.cell? ⟨w.heap.size, 9, none⟩ = some (.int .i64 y_)) w1.drew) := show _ ∧ _ from box_cells (f := ⟨c_, r_, h_, b_, k_, m_, j_, p_, l_, y_⟩) (HCl.out w1 B1.out)
  go_region_held3 (fun wx => wx.cell? ⟨w.heap.size, 0, none⟩ = some (.int .i64 c_) ∧ wx.cell? ⟨w.heap.size, 1, none⟩ = some (.int .i64 r_) ∧ wx.cell? ⟨w.heap.size, 2, none⟩ = some (.int .i64 h_) ∧ wx.cell? ⟨w.heap.size, 3, none⟩ = some (.int .i64 b_) ∧ wx.cell? ⟨w.heap.size, 4, none⟩ = some (.int .i64 k_) ∧ wx.cell? ⟨w.heap.size, 5, none⟩ = some (.int .i64 m_) ∧ wx.cell? ⟨w.heap.size, 6, none⟩ = some (.int .i64 j_) ∧ wx.cell? ⟨w.heap.size, 7, none⟩ = some (.int .i64 p_) ∧ wx.cell? ⟨w.heap.size, 8, none⟩ = some (.int .i64 l_) ∧ wx.cell? ⟨w.heap.size, 9, none⟩ = some (.int .i64 y_))
    (first | exact C0.out | exact C1.out | exact C2.out)
    (first
      | (go_at_call 28; refine (HNw.out _).mono ?_; clear HNw; rintro e w2 ⟨rfl, s2, hB2, b2⟩; have B2 : Hid (Below W1.heap.size W1 w2) := B1.out.trans ((of_drew b2).mono B1.out.size); have C1 : Hid ((fun wx => wx.cell? ⟨w.heap.size, 0, none⟩ = some (.int .i64 c_) ∧ wx.cell? ⟨w.heap.size, 1, none⟩ = some (.int .i64 r_) ∧ wx.cell? ⟨w.heap.size, 2, none⟩ = some (.int .i64 h_) ∧ wx.cell? ⟨w.heap.size, 3, none⟩ = some (.int .i64 b_) ∧ wx.cell? ⟨w.heap.size, 4, none⟩ = some (.int .i64 k_) ∧ wx.cell? ⟨w.heap.size, 5, none⟩ = some (.int .i64 m_) ∧ wx.cell? ⟨w.heap.size, 6, none⟩ = some (.int .i64 j_) ∧ wx.cell? ⟨w.heap.size, 7, none⟩ = some (.int .i64 p_) ∧ wx.cell? ⟨w.heap.size, 8, none⟩ = some (.int .i64 l_) ∧ wx.cell? ⟨w.heap.size, 9, none⟩ = some (.int .i64 y_)) w2) := show _ ∧ _ from box_cells (f := ⟨c_, r_, h_, b_, k_, m_, j_, p_, l_, y_⟩) (HCl.out w2 B2.out); clear hB2 b2 s2)
      | (go_at_call 27; refine (HNe.out _ _).mono ?_; clear HNe; rintro e w3 ⟨rfl, b3⟩; have B3 : Hid (Below W1.heap.size W1 w3) := B2.out.trans (b3.mono B2.out.size); have C2 : Hid ((fun wx => wx.cell? ⟨w.heap.size, 0, none⟩ = some (.int .i64 c_) ∧ wx.cell? ⟨w.heap.size, 1, none⟩ = some (.int .i64 r_) ∧ wx.cell? ⟨w.heap.size, 2, none⟩ = some (.int .i64 h_) ∧ wx.cell? ⟨w.heap.size, 3, none⟩ = some (.int .i64 b_) ∧ wx.cell? ⟨w.heap.size, 4, none⟩ = some (.int .i64 k_) ∧ wx.cell? ⟨w.heap.size, 5, none⟩ = some (.int .i64 m_) ∧ wx.cell? ⟨w.heap.size, 6, none⟩ = some (.int .i64 j_) ∧ wx.cell? ⟨w.heap.size, 7, none⟩ = some (.int .i64 p_) ∧ wx.cell? ⟨w.heap.size, 8, none⟩ = some (.int .i64 l_) ∧ wx.cell? ⟨w.heap.size, 9, none⟩ = some (.int .i64 y_)) w3) := show _ ∧ _ from box_cells (f := ⟨c_, r_, h_, b_, k_, m_, j_, p_, l_, y_⟩) (HCl.out w3 B3.out); clear b3))
  all_goals (
    clear C0 C1 C2 HCl
    go_wp2
    go_ret
    exact ⟨rfl, HB.out.trans (B3.out.mono HB.out.size)⟩)

open M.Trn (flip anyT listOf)
/-- a frame in memory while bits are turned -/
def Turning (w : World) (f : M.Fmt) (g L cap : Nat) (B : Nat → Bool) (wr : World) : Prop :=
  Below w.heap.size w wr ∧ w.heap.size < g ∧ L ≤ cap ∧ Blk wr w.heap.size (fc f) 23 ∧ ∃ cur, Blk wr g cur 5 ∧ ∀ i, i < L → cur[i]? = some (.int .u8 (M.byteOf B i : Nat))
theorem turning_of {w w2 : World} {f : M.Fmt} {g base L cap : Nat} {ys : List Nat} (h : w2.ownsRow base 5 1 (.slice (some ⟨g, 0, none⟩) L cap) L (ys.map fun x : Nat => Value.int .u8 x)) (hb : w.heap.size < base) (hL : ys.length = L) (h0 : 0 < L) (hx : ∀ x ∈ ys, x < 256) (bel : Below w.heap.size w w2) (hf : Blk w2 w.heap.size (fc f) 23) : Turning w f g L cap (M.bitL ys) w2 := by
  subst hL
  obtain ⟨_, ⟨h1, _⟩ | ⟨g', cap', cur, hv, hg, hh, h1, h2, h3, h4⟩⟩ := h
  · cases h1
  · cases hv
    refine ⟨bel, by omega, h1, hf, cur, hh, fun i hi => ?_⟩
    have e := M.Trn.listOf_bitL ys hx
    have : (cur.toList.take (ys.length * 1))[i]? = (ys.map fun x : Nat => Value.int .u8 x)[i]? := by rw [h4]
    rw [List.getElem?_take_of_lt (by omega), Array.getElem?_toList, List.getElem?_map] at this
    rw [this]
    have e2 : ys[i]? = some (M.byteOf (M.bitL ys) i) := by
      conv => lhs; rw [← e]
      simp [M.Trn.listOf, hi]
    rw [e2]; rfl
theorem turning_given {w wr : World} {f : M.Fmt} {g L cap : Nat} {B : Nat → Bool} (h : Turning w f g L cap B wr) : Given wr (.slice (some ⟨g, 0, none⟩) L cap) (listOf B L) := by
  obtain ⟨bel, hg, hc, hf, cur, hb, hx⟩ := h
  refine ⟨_, cap, by rw [M.Trn.listOf_length], by rw [M.Trn.listOf_length]; exact hc, M.Trn.listOf_lt B L, (fun h => by cases h), .inr ⟨g, 0, rfl, Blk.lt hb, fun i x hi => ?_⟩⟩
  obtain ⟨h1, rfl⟩ := M.Trn.listOf_getElem B L i x hi
  rw [Nat.zero_add]
  exact Blk.cell hb (hx i h1)
theorem turning_step {w wr : World} {f : M.Fmt} {g L cap : Nat} {B : Nat → Bool} (h : Turning w f g L cap B wr) (i : Nat) (hi : i < 8 * L) (y : Int) (hy : y = (M.byteOf B (i / 8) ^^^ 2 ^ (7 - i % 8) : Nat)) : Turning w f g L cap (M.upd B i (!B i)) (wr.setCell ⟨g, i / 8, none⟩ (.int .u8 y)) := by
  subst hy
  obtain ⟨bel, hg, hc, hf, cur, hb, hx⟩ := h
  refine ⟨bel.setCell (p := ⟨g, i / 8, none⟩) (by show w.heap.size ≤ g; omega) _, hg, hc, hf.set_ne (by show w.heap.size ≠ g; omega) _, _, Blk.set hb (i / 8) _, fun j hj => ?_⟩
  have hsz : j < cur.size := (Array.getElem?_eq_some_iff.1 (hx j hj)).1
  rw [Array.getElem?_setIfInBounds]
  split
  · next e => subst e; rw [if_pos hsz, M.Trn.xor_byte]
  · next e => rw [hx j hj, M.byte_ne _ _ _ _ (by omega)]

set_option maxRecDepth 100000 in
set_option maxHeartbeats 8000000 in
theorem turned_some (f : M.Fmt) (C B N r PN : Nat) (v : Value) (x : List Int) (at_ T : Nat) (hd : Bool) (w : World) (hT : Wave.Tab w ∧ Alloc.Tabs w) (hx : Reads .i16 0 w.heap.size w v x) (hF : Sb f C B N r) (hn : M.pay f = PN) (hat : at_ < 65536) (hTb : T < 256) :
    Calls Tryz.prog 8 #[fv f, v, .int .u16 (at_ : Int), .int .u8 (T : Int), .bool hd] w fun e w' => e = .returned (.bool true) ∧ Below w.heap.size w w' := by
  have n16 := hF.n16
  have c2 := hF.c2
  have b8 := hF.b8
  obtain ⟨W1, hW1⟩ : ∃ W1, w.alloc (.cells (fc f) 23) = W1 := ⟨_, rfl⟩
  have sz1 : W1.heap.size = w.heap.size + 1 := by rw [← hW1]; simp
  have bel : Below w.heap.size w W1 := by rw [← hW1]; exact bel1 _ _
  have hf1 : Blk W1 w.heap.size (fc f) 23 := by rw [← hW1]; exact Blk.new w _ _
  have hal := alive_any W1 (Bank.tab_below bel (Nat.le_refl _) hT.1) (hT.2.below bel (Nat.le_refl _))
  have HB : Hid (Below w.heap.size w W1) := bel
  have hnw := fun wx => Bank.new_any wx
  have HNw : Hid (∀ wx, Calls _ _ _ wx _) := hnw
  have hne := fun b X wx (hb : Below w.heap.size w wx) hB => NewEncoder_ok b f C B N r X wx (Bank.tab_below hb (Nat.le_refl _) hT.1) hB hF
  have HNe : Hid _ := hne
  have hcl : ∀ wx, Below W1.heap.size W1 wx → Blk wx w.heap.size (fc f) 23 := fun wx hb => blk_below hb hf1 (by omega)
  have HCl : Hid _ := hcl
  have HTb : Hid (∀ wx, Below w.heap.size w wx → Alloc.Tabs wx) := fun wx hb => hT.2.below hb (Nat.le_refl _)
  have HRd : Hid (∀ wx, Below w.heap.size w wx → Reads .i16 0 w.heap.size wx v x) := fun wx hb => hx.below hb (Nat.le_refl _)
  obtain ⟨NN, hNN⟩ : ∃ NN, C * (N * B) = NN := ⟨_, rfl⟩
  obtain ⟨CB, hCB⟩ : ∃ CB, C * B = CB := ⟨_, rfl⟩
  have hNN2 : CB * N = NN := by rw [← hCB, ← hNN, Nat.mul_assoc, Nat.mul_comm B N]
  have hCB1 : CB ≤ 16 := by rw [← hCB]; have := Nat.mul_le_mul (show C ≤ 2 by omega) (show B ≤ 8 by omega); omega
  have hNNb : NN ≤ 256 := by rw [← hNN2]; have := Nat.mul_le_mul hCB1 (show N ≤ 16 by omega); omega
  have hNN1 : 1 ≤ NN := by rw [← hNN]; exact Nat.mul_pos (by omega) (Nat.mul_pos (by omega) (by omega))
  have hw1 : IntKind.i64.wrap ((C : Int) * (B : Int)) = (CB : Int) := by rw [← hCB]; push_cast; exact wrap_id _ (by rw [show (C : Int) * (B : Int) = ((CB : Nat) : Int) by rw [← hCB]; push_cast; rfl]; omega) (by rw [show (C : Int) * (B : Int) = ((CB : Nat) : Int) by rw [← hCB]; push_cast; rfl]; omega)
  have hw2 : IntKind.i64.wrap ((CB : Int) * (N : Int)) = (NN : Int) := by rw [← hNN2]; push_cast; exact wrap_id _ (by rw [show (CB : Int) * (N : Int) = ((NN : Nat) : Int) by rw [← hNN2]; push_cast; rfl]; omega) (by rw [show (CB : Int) * (N : Int) = ((NN : Nat) : Int) by rw [← hNN2]; push_cast; rfl]; omega)
  obtain ⟨Z, hZ⟩ : ∃ Z : Nat → List Int, (fun _ => List.replicate (10 * B) 0) = Z := ⟨_, rfl⟩
  have HNN : Hid (C * (N * B) = NN) := hNN
  obtain ⟨va, vc, rfl⟩ := hx.form
  obtain ⟨xl, hxl⟩ : ∃ xl, x.length = xl := ⟨_, rfl⟩
  have HXl : Hid (x.length = xl) := hxl
  rw [hxl] at HRd ⊢
  have hN := hF.hN
  have hC := hF.hC
  have hBB := hF.hB
  have i1 : (C : Int) ≤ 2 := by omega
  have i2 : (B : Int) ≤ 8 := by omega
  have i3 : (N : Int) ≤ 16 := by omega
  have i5 : (0 : Int) ≤ NN := by omega
  rw [hZ] at HNe
  have hmk := fun wx => Poly.make16 wx NN (by omega)
  have hends := M.ends (f := f) (.inl hF.ok)
  have hbit : M.bitS f ≤ 8 * (PN : Int) := by rw [hn] at hends; have := hends.2.2.2.2; unfold M.bitF at this; rw [if_pos hF.ok.1] at this; exact this
  have hpn : 7 ≤ PN ∧ PN ≤ 512 := by rw [hn] at hends; exact ⟨by have := hends.2.2.1; omega, by have := hends.2.2.2.1; omega⟩
  have HTn : Hid _ := trn_steps (PN := PN) hF hn
  have HSb : Hid (16 + sbits f B C ≤ 8 * PN) := side_room hF hbit
  have HSd : Hid (∃ JB D : Nat, IntKind.i64.wrap (f.j * (B : Int)) = (JB : Int) ∧ IntKind.i64.wrap (4 * (C : Int) * (B : Int)) = (D : Int) ∧ JB ≤ 8 ∧ 1 ≤ D ∧ D ≤ 64 ∧ 16 + (JB + D) = sbits f B C) := by
    have hj := hF.joint
    unfold sbits
    refine ⟨if f.j = 1 then B else 0, 4 * (B * C), ?_, ?_, ?_, ?_, ?_, by omega⟩ <;> (rcases hj with hj | ⟨hj, hc⟩ <;> rcases c2 with rfl | rfl <;> rcases b8 with rfl | rfl <;> (try rw [hj]) <;> first | decide | omega | rfl)
  have HJo : Hid (f.j = 0 ∨ (f.j = 1 ∧ C = 2)) := hF.joint
  clear hnw hne hcl hT hx bel hf1 hF hn hNN hCB hNN2 hxl hZ n16 c2 b8 hends hbit
  obtain ⟨c_, r_, h_, b_, k_, m_, j_, p_, l_, y_⟩ := f
  obtain rfl : h_ = C := hC
  obtain rfl : b_ = B := hBB
  obtain rfl : k_ = N := hN
  unfold fv at HNe HTn
  unfold fv
  unfold fc at hW1
  dsimp only at HNe HTn HJo HSb HSd hW1 ⊢
  go_enter Tryz.func8, Tryz.ntmps8
  go_wp2_with (first
    | (go_at_call 11; refine hal.mono ?_; clear hal; rintro e w1 ⟨rfl, b1⟩; have B1 : Hid (Below _ _ w1) := b1; clear b1))
  have C0 : Hid ((fun wx => wx.cell? ⟨w.heap.size, 0, none⟩ = some (.int .i64 c_) ∧ wx.cell? ⟨w.heap.size, 1, none⟩ = some (.int .i64 r_) ∧ wx.cell? ⟨w.heap.size, 2, none⟩ = some (.int .i64 (C : Int)) ∧ wx.cell? ⟨w.heap.size, 3, none⟩ = some (.int .i64 (B : Int)) ∧ wx.cell? ⟨w.heap.size, 4, none⟩ = some (.int .i64 (N : Int)) ∧ wx.cell? ⟨w.heap.size, 5, none⟩ = some (.int .i64 m_) ∧ wx.cell? ⟨w.heap.size, 6, none⟩ = some (.int .i64 j_) ∧ wx.cell? ⟨w.heap.size, 7, none⟩ = some (.int .i64 p_) ∧ wx.cell? ⟨w.heap.size, 8, none⟩ = some (.int .i64 l_) ∧ wx.cell? ⟨w.heap.size, 9, none⟩ = some (.int .i64 y_)) w1.drew) := show _ ∧ _ from box_cells (f := ⟨c_, r_, C, B, N, m_, j_, p_, l_, y_⟩) (HCl.out w1 B1.out)
  go_region_held3 (fun wx => wx.cell? ⟨w.heap.size, 0, none⟩ = some (.int .i64 c_) ∧ wx.cell? ⟨w.heap.size, 1, none⟩ = some (.int .i64 r_) ∧ wx.cell? ⟨w.heap.size, 2, none⟩ = some (.int .i64 (C : Int)) ∧ wx.cell? ⟨w.heap.size, 3, none⟩ = some (.int .i64 (B : Int)) ∧ wx.cell? ⟨w.heap.size, 4, none⟩ = some (.int .i64 (N : Int)) ∧ wx.cell? ⟨w.heap.size, 5, none⟩ = some (.int .i64 m_) ∧ wx.cell? ⟨w.heap.size, 6, none⟩ = some (.int .i64 j_) ∧ wx.cell? ⟨w.heap.size, 7, none⟩ = some (.int .i64 p_) ∧ wx.cell? ⟨w.heap.size, 8, none⟩ = some (.int .i64 l_) ∧ wx.cell? ⟨w.heap.size, 9, none⟩ = some (.int .i64 y_))
    (first | exact C0.out | exact C1.out | exact C2.out)
    (first
      | (go_at_call 28; refine (HNw.out _).mono ?_; clear HNw; rintro e w2 ⟨rfl, s2, hB2, b2⟩; have B2 : Hid (Below W1.heap.size W1 w2) := B1.out.trans ((of_drew b2).mono B1.out.size); have C1 : Hid ((fun wx => wx.cell? ⟨w.heap.size, 0, none⟩ = some (.int .i64 c_) ∧ wx.cell? ⟨w.heap.size, 1, none⟩ = some (.int .i64 r_) ∧ wx.cell? ⟨w.heap.size, 2, none⟩ = some (.int .i64 (C : Int)) ∧ wx.cell? ⟨w.heap.size, 3, none⟩ = some (.int .i64 (B : Int)) ∧ wx.cell? ⟨w.heap.size, 4, none⟩ = some (.int .i64 (N : Int)) ∧ wx.cell? ⟨w.heap.size, 5, none⟩ = some (.int .i64 m_) ∧ wx.cell? ⟨w.heap.size, 6, none⟩ = some (.int .i64 j_) ∧ wx.cell? ⟨w.heap.size, 7, none⟩ = some (.int .i64 p_) ∧ wx.cell? ⟨w.heap.size, 8, none⟩ = some (.int .i64 l_) ∧ wx.cell? ⟨w.heap.size, 9, none⟩ = some (.int .i64 y_)) w2) := show _ ∧ _ from box_cells (f := ⟨c_, r_, C, B, N, m_, j_, p_, l_, y_⟩) (HCl.out w2 B2.out); have hne := HNe.out _ _ w2 (HB.out.trans (B2.out.mono HB.out.size)) hB2; have HNe2 : Hid (Calls _ _ _ _ _) := hne; have Z2 : Hid (w1.drew.heap.size < w2.heap.size) := (show w1.drew.heap.size < w2.heap.size by omega); clear hB2 b2 s2 hne)
      | (go_at_call 27; refine HNe2.out.mono ?_; clear HNe2; rintro e w3 ⟨p, l, lo, g, rfl, hl3, en3, bt3⟩; have B3 : Hid (Below W1.heap.size W1 w3) := Poly.below_but B2.out bt3 (Nat.le_refl _) (by show W1.heap.size ≤ w1.heap.size; exact B1.out.size); have C2 : Hid ((fun wx => wx.cell? ⟨w.heap.size, 0, none⟩ = some (.int .i64 c_) ∧ wx.cell? ⟨w.heap.size, 1, none⟩ = some (.int .i64 r_) ∧ wx.cell? ⟨w.heap.size, 2, none⟩ = some (.int .i64 (C : Int)) ∧ wx.cell? ⟨w.heap.size, 3, none⟩ = some (.int .i64 (B : Int)) ∧ wx.cell? ⟨w.heap.size, 4, none⟩ = some (.int .i64 (N : Int)) ∧ wx.cell? ⟨w.heap.size, 5, none⟩ = some (.int .i64 m_) ∧ wx.cell? ⟨w.heap.size, 6, none⟩ = some (.int .i64 j_) ∧ wx.cell? ⟨w.heap.size, 7, none⟩ = some (.int .i64 p_) ∧ wx.cell? ⟨w.heap.size, 8, none⟩ = some (.int .i64 l_) ∧ wx.cell? ⟨w.heap.size, 9, none⟩ = some (.int .i64 y_)) w3) := show _ ∧ _ from box_cells (f := ⟨c_, r_, C, B, N, m_, j_, p_, l_, y_⟩) (HCl.out w3 B3.out); have E3 : Hid (Enc p l C B ⟨c_, r_, C, B, N, m_, j_, p_, l_, y_⟩ lo g Z w3) := en3; have Z3 : Hid (w2.heap.size ≤ l) := hl3; clear hl3 en3 bt3))
  all_goals (
    obtain ⟨x0, x1, x2, x3, x4, x5, x6, x7, x8, x9⟩ := C2.out
    have F3 : Hid (Blk w3 w.heap.size (fc ⟨c_, r_, C, B, N, m_, j_, p_, l_, y_⟩) 23) := HCl.out w3 B3.out
    have hwl : w.heap.size < l := by have := Z3.out; have := B2.out.size; omega
    clear C0 C1 C2 HCl Z3 Z2
    by_cases hlen : 1000 < xl
    · have hl1 : (1000 : Int) < (xl : Int) := by omega
      go_wp2
      go_ret
      exact ⟨rfl, HB.out.trans (B3.out.mono HB.out.size)⟩
    · have hl1 : ¬ ((1000 : Int) < (xl : Int)) := by omega
      by_cases hT0 : T = 0
      · have hz : ((T : Int) == 0) = true := by simp; omega
        clear hT0
        go_wp2
        go_ret
        exact ⟨rfl, HB.out.trans (B3.out.mono HB.out.size)⟩
      · have hz : ((T : Int) == 0) = false := by simp; omega
        have hb03 : Below w.heap.size w w3 := HB.out.trans (B3.out.mono HB.out.size)
        have hgl : ∀ c, c < C → w.heap.size < g c := fun c hc => by have := E3.out.gl hc; omega
        have bz : Below w3.heap.size w3 (w3.alloc (.cells (enc .i16 (List.replicate NN 0)).toArray 182)) := bel1 _ _
        have rd1 := (HRd.out w3 hb03).below bz (by have := hb03.size; omega)
        obtain ⟨ck, hcp⟩ := copy_any (Blk.new w3 (enc .i16 (List.replicate NN 0)).toArray 182) rd1
        have bz2 := setRow_below bz (Nat.le_refl _) (enc .i16 (M.tk NN x)).toArray
        have hrd : Reads .i16 w3.heap.size (w3.heap.size + 1) ((w3.alloc (.cells (enc .i16 (List.replicate NN 0)).toArray 182)).setRow w3.heap.size (enc .i16 (M.tk NN x)).toArray) (.slice (some ⟨w3.heap.size, 0, none⟩) NN NN) (M.tk NN x) := by
          have hff : M.fits16 (M.tk NN x) := M.tk_fits (Poly.fit16.1 (by obtain ⟨_, _, _, _, hw, _⟩ := rd1; exact hw))
          have := Poly.reads_blk (Poly.Blk.setRow (Blk.new w3 (enc .i16 (List.replicate NN 0)).toArray 182) (enc .i16 (M.tk NN x)).toArray) (Poly.fit16.2 hff)
          rw [M.tk_length] at this
          exact this
        have hsz : ((w3.alloc (.cells (enc .i16 (List.replicate NN 0)).toArray 182)).setRow w3.heap.size (enc .i16 (M.tk NN x)).toArray).heap.size = w3.heap.size + 1 := by simp [World.setRow]
        have hW : ∀ W2, Lns g C ((w3.alloc (.cells (enc .i16 (List.replicate NN 0)).toArray 182)).setRow w3.heap.size (enc .i16 (M.tk NN x)).toArray) W2 → Below w.heap.size w W2 := fun W2 hl => (hb03.trans (bz2.mono hb03.size)).trans (hl.to_below (fun c hc => by have := hgl c hc; omega) (by have := hb03.size; omega))
        obtain ⟨FR, hfrm, hflt, hflen, hfd⟩ := HTn.out.1 p l lo g Z w3.heap.size (w3.heap.size + 1) (M.tk NN x) _ _ (fun wx hl => HTb.out wx (hW wx hl)) (E3.out.below bz2 E3.out.lt) hrd (Nat.le_of_eq hsz.symm) (by rw [M.tk_length, HNN.out])
        have HFd : Hid (Calls _ _ _ _ _) := hfd
        have HW : Hid (∀ W2, Lns g C _ W2 → Below w.heap.size w W2) := hW
        have HFw : Hid (∀ W2, Lns g C ((w3.alloc (.cells (enc .i16 (List.replicate NN 0)).toArray 182)).setRow w3.heap.size (enc .i16 (M.tk NN x)).toArray) W2 → Blk W2 w.heap.size (fc ⟨c_, r_, C, B, N, m_, j_, p_, l_, y_⟩) 23) := fun W2 hl => hl.blk (blk_below bz2 F3.out F3.out.lt) fun c hc => by have := hgl c hc; omega
        generalize (enc .i16 (List.replicate NN 0)).toArray = cs at *
        generalize (enc .i16 (M.tk NN x)).toArray = cs2 at *
        have HSz : Hid (((w3.alloc (.cells cs 182)).setRow w3.heap.size cs2).heap.size = w3.heap.size + 1) := hsz
        have hw3 : w.heap.size ≤ w3.heap.size := hb03.size
        clear hfd hW hb03 hgl bz rd1 bz2 hrd hsz
        have hg8 : 4 ≤ PN := by omega
        cases hd with
        | true =>
          obtain ⟨tt, htt, ht4⟩ : ∃ tt : Nat, (at_ : Int) % 4 = tt ∧ tt < 4 := ⟨at_ % 4, by omega, by omega⟩
          have ht4' : (tt : Int) < PN := by omega
          have ht40 : (0 : Int) ≤ tt := by omega
          obtain ⟨bt, hbt⟩ : ∃ bt, FR[tt]? = some bt := ⟨_, List.getElem?_eq_getElem (by omega)⟩
          have hbt2 : bt < 256 := hflt bt (List.mem_of_getElem? hbt)
          have hxr := u8_xor_nat bt T hbt2 (by omega)
          have hne : bt ≠ bt ^^^ T := fun e => hT0 (by have := congrArg (fun z => bt ^^^ z) e; simp only [Nat.xor_self, ← Nat.xor_assoc, Nat.zero_xor] at this; exact this.symm)
          have hnf : ¬ Frm ⟨c_, r_, C, B, N, m_, j_, p_, l_, y_⟩ C B (FR.set tt (bt ^^^ T)) := head_turned hfrm ht4 (by omega) (by rw [hbt]; exact fun e => hne (Option.some.inj e))
          have hy256 : bt ^^^ T < 256 := Nat.xor_lt_two_pow (n := 8) hbt2 hTb
          have hpar : ∀ W2 g0 cap, W2.ownsRow (w3.heap.size + 1) 5 1 (.slice (some ⟨g0, 0, none⟩) PN cap) PN (FR.map fun x : Nat => Value.int .u8 x) → Below w.heap.size w W2 → W2.cell? ⟨g0, tt, none⟩ = some (.int .u8 bt) ∧ W2.frozen? ⟨g0, tt, none⟩ = false ∧ w3.heap.size < g0 ∧
              Calls Tryz.prog 24 #[fv ⟨c_, r_, C, B, N, m_, j_, p_, l_, y_⟩, .slice (some ⟨g0, 0, none⟩) PN cap] (W2.setCell ⟨g0, tt, none⟩ (.int .u8 ((bt ^^^ T : Nat) : Int))) fun e W3 => e = .returned (.tuple #[.agg #[.slice none 0 0, .slice none 0 0, .slice none 0 0], .int .i64 140]) ∧ Below w.heap.size w W3 := by
            intro W2 g0 cap ho hb
            have hg0 : w3.heap.size + 1 ≤ g0 := by
              rcases id ho.2 with ⟨_, h0⟩ | ⟨g', c', cur, h1, h2, _⟩
              · omega
              · cases h1; exact h2
            have hc := ho.cells (g := g0) rfl tt (.int .u8 bt) (by rw [List.getElem?_map, hbt]; rfl)
            rw [Poly.add_at] at hc
            have hfz : W2.frozen? ⟨g0, tt, none⟩ = false := by
              rcases id ho.2 with ⟨_, h0⟩ | ⟨g', c', cur, h1, h2, h3, _⟩
              · omega
              · cases h1; exact Blk.free (show Blk W2 g0 cur 5 from h3) tt
            have ho2 := row_set ho (i := tt) (by omega) (.int .u8 ((bt ^^^ T : Nat) : Int))
            rw [show (FR.map fun x : Nat => Value.int .u8 x).set tt (.int .u8 ((bt ^^^ T : Nat) : Int)) = (FR.set tt (bt ^^^ T)).map fun x : Nat => Value.int .u8 x by rw [List.map_set]] at ho2
            have hb2 : Below w.heap.size w (W2.setCell ⟨g0, tt, none⟩ (.int .u8 ((bt ^^^ T : Nat) : Int))) := hb.setCell (p := ⟨g0, tt, none⟩) (by show w.heap.size ≤ g0; omega) _
            have hl2 : (FR.set tt (bt ^^^ T)).length = PN := by rw [List.length_set, hflen]
            have hgv := Byt.given_own (by rw [hl2]; exact ho2) (fun y hy => by
              rcases List.mem_or_eq_of_mem_set hy with h | h
              · exact hflt y h
              · rw [h]; exact hy256)
            refine ⟨hc, hfz, by omega, (HTn.out.2 _ _ _ (HTb.out _ hb2) hgv hl2 hnf).mono ?_⟩
            rintro e W3 ⟨rfl, b3⟩
            exact ⟨rfl, hb2.trans (b3.mono hb2.size)⟩
          have HPar : Hid _ := hpar
          clear hpar hnf hne hy256 hbt hfrm hflt hflen
          unfold fv at HPar
          dsimp only at HPar
          generalize hbx : bt ^^^ T = bx at *
          clear hbx
          go_wp2_with (first
            | (go_at_call 30; refine HFd.out.mono ?_; clear HFd x0 x1 x2 x3 x4 x5 x6 x7 x8 x9; rintro e W2 ⟨g0, cap, rfl, own, l2⟩; have hf2 := HFw.out W2 l2; obtain ⟨q1, q2, q3, q4⟩ := HPar.out W2 g0 cap (by rw [← HSz.out]; exact own) (HW.out W2 l2); have Q4 : Hid (Calls _ _ _ _ _) := q4; have hf5 : Blk (W2.setCell ⟨g0, tt, none⟩ (.int .u8 (bx : Int))) w.heap.size (fc ⟨c_, r_, C, B, N, m_, j_, p_, l_, y_⟩) 23 := hf2.set_ne (by show w.heap.size ≠ g0; omega) _; have xs := box_cells hf5; dsimp only at xs; obtain ⟨x0, x1, x2, x3, x4, x5, x6, x7, x8, x9⟩ := xs; clear own l2 hf2 hf5 q4)
            | (go_at_call 24; refine Q4.out.mono ?_; clear Q4 x0 x1 x2 x3 x4 x5 x6 x7 x8 x9; rintro e W3 ⟨rfl, b3⟩; have B9 : Hid (Below w.heap.size w W3) := b3; clear b3))
          go_ret
          exact ⟨rfl, B9.out.alloc B9.out.size _⟩
        | false =>
          obtain ⟨JB, D, hw7, hw8, hjb, hd1, hd2, hsb⟩ := HSd.out
          obtain ⟨tt, htt, htl⟩ : ∃ tt : Nat, (at_ : Int) % ((JB : Int) + (D : Int)) = tt ∧ tt < JB + D := by
            refine ⟨at_ % (JB + D), ?_, Nat.mod_lt _ (by omega)⟩
            rw [show (JB : Int) + (D : Int) = ((JB + D : Nat) : Int) by omega]; omega
          have hTn2 := HTn.out.2
          have hsd := HSb.out
          rw [← hsb] at hsd
          clear HTn HSd HJo
          go_wp2_with (first
            | (go_at_call 30; refine HFd.out.mono ?_; clear HFd x0 x1 x2 x3 x4 x5 x6 x7 x8 x9; rintro e W2 ⟨g0, cap, rfl, own, l2⟩; have hf2 := HFw.out W2 l2; have TU : Hid (Turning w ⟨c_, r_, C, B, N, m_, j_, p_, l_, y_⟩ g0 PN cap (M.bitL FR) W2) := turning_of own (by rw [HSz.out]; omega) hflen (by omega) hflt (HW.out W2 l2) hf2; have xs := box_cells hf2; dsimp only at xs; obtain ⟨x0, x1, x2, x3, x4, x5, x6, x7, x8, x9⟩ := xs; clear own l2 hf2))
          have hst := TU.out
          clear TU
          clear x0 x1 x2 x3 x4 x5 x6 x7 x8 x9
          go_loopw [18, 19] (fun b i wr => ∃ m : Nat, m ≤ 8 ∧ tt + m ≤ JB + D ∧ b = .bool (anyT T m) ∧ i = .int .i64 m ∧ Turning w ⟨c_, r_, C, B, N, m_, j_, p_, l_, y_⟩ g0 PN cap (flip (M.bitL FR) (32 + tt) T m) wr) (fun _ i _ => 8 - (intOf i).toNat)
          case atStart => exact ⟨0, by omega, by omega, rfl, rfl, hst⟩
          case round =>
            clear hst
            obtain ⟨m, hm, hm2, rfl, rfl, ht⟩ := hrel
            have hex : ∀ wr, Turning w ⟨c_, r_, C, B, N, m_, j_, p_, l_, y_⟩ g0 PN cap (flip (M.bitL FR) (32 + tt) T m) wr → anyT T m = true → Calls Tryz.prog 24 #[fv ⟨c_, r_, C, B, N, m_, j_, p_, l_, y_⟩, .slice (some ⟨g0, 0, none⟩) PN cap] wr fun e W3 => e = .returned (.tuple #[.agg #[.slice none 0 0, .slice none 0 0, .slice none 0 0], .int .i64 140]) ∧ Below w.heap.size w W3 := by
              intro wr ht hany
              have hnf := side_turned hfrm hflt hflen (by omega) (F := 32 + tt) (K := m) (by omega) hm (by omega) (by omega) hany
              refine (hTn2 _ _ _ (HTb.out _ ht.1) (turning_given ht) (M.Trn.listOf_length _ _) hnf).mono ?_
              rintro e W3 ⟨rfl, b3⟩
              exact ⟨rfl, ht.1.trans (b3.mono ht.1.size)⟩
            have HEx : Hid _ := hex
            clear hex hTn2
            unfold fv at HEx
            dsimp only at HEx
            by_cases hlt : m < 8 ∧ tt + m < JB + D
            · obtain ⟨hlt, hlt2⟩ := hlt
              have i0 : (m : Int) < 8 := by omega
              have i0' : (32 : Int) + (tt : Int) + (m : Int) < 32 + ((JB : Int) + (D : Int)) := by omega
              clear HEx
              obtain ⟨z, hz, hzb, hzl⟩ : ∃ z : Nat, (T : Int) / 2 ^ m = z ∧ T.testBit m = decide (z % 2 = 1) ∧ z ≤ T := ⟨T / 2 ^ m, by simp, Nat.testBit_eq_decide_div_mod_eq, Nat.div_le_self _ _⟩
              have hzI : (z : Int) ≤ 255 := by omega
              by_cases hbit : z % 2 = 1
              · rw [decide_eq_true hbit] at hzb
                have hfl : flip (M.bitL FR) (32 + tt) T (m + 1) = M.upd (flip (M.bitL FR) (32 + tt) T m) (32 + tt + m) (!(flip (M.bitL FR) (32 + tt) T m (32 + tt + m))) := by
                  show (if T.testBit m then _ else _) = _
                  rw [if_pos hzb]
                have han : anyT T (m + 1) = true := by
                  show (T.testBit m || _) = true
                  rw [hzb]; rfl
                obtain ⟨I, hI⟩ : ∃ I, I = 32 + tt + m := ⟨_, rfl⟩
                have hIl : I < 8 * PN := by omega
                have ht' := ht
                obtain ⟨bel, hg, hc, hf, cur, hb, hx⟩ := ht
                have hcell := Blk.cell hb (hx (I / 8) (by omega))
                have hfree := Blk.free hb (I / 8)
                have hbl := M.byteOf_lt (flip (M.bitL FR) (32 + tt) T m) (I / 8)
                have hd0 : 2 ^ (7 - I % 8) < 256 := by
                  have := Nat.pow_le_pow_right (n := 2) (by decide) (show 7 - I % 8 ≤ 7 by omega)
                  omega
                have hxr := u8_xor_nat (M.byteOf (flip (M.bitL FR) (32 + tt) T m) (I / 8)) (2 ^ (7 - I % 8)) hbl hd0
                rw [← hI] at hfl
                have hstep := fun y hy => turning_step ht' I hIl y hy
                rw [← hfl] at hstep
                clear hfl hx hb hf
                obtain ⟨c, hce⟩ : ∃ c, c = M.byteOf (flip (M.bitL FR) (32 + tt) T m) (I / 8) ^^^ 2 ^ (7 - I % 8) := ⟨_, rfl⟩
                obtain ⟨b, hbe⟩ : ∃ b, b = M.byteOf (flip (M.bitL FR) (32 + tt) T m) (I / 8) := ⟨_, rfl⟩
                rw [← hce] at hxr hstep
                rw [← hbe] at hxr hcell hbl
                obtain ⟨d, hd, hde⟩ : ∃ d : Nat, (128 : Int) / 2 ^ (I % 8) = d ∧ d = 2 ^ (7 - I % 8) := by
                  refine ⟨2 ^ (7 - I % 8), ?_, rfl⟩
                  rcases (by omega : I % 8 = 0 ∨ I % 8 = 1 ∨ I % 8 = 2 ∨ I % 8 = 3 ∨ I % 8 = 4 ∨ I % 8 = 5 ∨ I % 8 = 6 ∨ I % 8 = 7) with h | h | h | h | h | h | h | h <;> rw [h] <;> rfl
                rw [← hde] at hxr hd0
                obtain ⟨J, hJ⟩ : ∃ J, J = I / 8 := ⟨_, rfl⟩
                obtain ⟨q, hq⟩ : ∃ q, q = I % 8 := ⟨_, rfl⟩
                have i1 : (32 : Int) + (tt : Int) + (m : Int) = I := by omega
                have i2 : (I : Int) / 8 = J := by omega
                have i3 : (I : Int) % 8 = q := by omega
                have i4 : (J : Int) < (PN : Int) := by omega
                have i5 : (0 : Int) ≤ J := by omega
                have i6 : (0 : Int) ≤ q := by omega
                have i7 : (q : Int) ≤ 7 := by omega
                have i8 : (0 : Int) ≤ I := by omega
                have i9 : I ≤ 20000 := by omega
                rw [← hJ] at hcell hfree hstep
                rw [← hq] at hd
                clear hI hce hbe hde hJ hq hzb
                replace hstep : Hid (∀ y, y = (c : Int) → Turning w ⟨c_, r_, C, B, N, m_, j_, p_, l_, y_⟩ g0 PN cap (flip (M.bitL FR) (32 + tt) T (m + 1)) (wr.setCell ⟨g0, J, none⟩ (.int .u8 y))) := hstep
                replace han : Hid (anyT T (m + 1) = true) := han
                clear ht'
                go_wp2
                go_roundw
                case rel => exact ⟨m + 1, by omega, by omega, by rw [show anyT T (m + 1) = true from han], by go_num, (show ∀ y, y = (c : Int) → _ from hstep) _ rfl⟩
                case measure => simp [intOf]; omega
              · rw [decide_eq_false hbit] at hzb
                have hfl : flip (M.bitL FR) (32 + tt) T (m + 1) = flip (M.bitL FR) (32 + tt) T m := by
                  show (if T.testBit m then _ else _) = _
                  rw [if_neg (by rw [hzb]; decide)]
                have han : anyT T (m + 1) = anyT T m := by
                  show (T.testBit m || _) = _
                  rw [hzb]; rfl
                rw [← hfl] at ht
                rw [← han]
                clear hfl han hzb
                replace ht : Hid _ := ht
                go_wp2
                go_roundw
                case rel => exact ⟨m + 1, by omega, by omega, rfl, by go_num, ht.out⟩
                case measure => simp [intOf]; omega
            · have TU : Hid _ := ht
              have xs := box_cells ht.2.2.2.1
              dsimp only at xs
              obtain ⟨x0, x1, x2, x3, x4, x5, x6, x7, x8, x9⟩ := xs
              have hgd : (m : Int) < 8 → ¬ ((32 : Int) + (tt : Int) + (m : Int) < 32 + ((JB : Int) + (D : Int))) := by omega
              cases hany : anyT T m
              · by_cases i0 : (m : Int) < 8
                · have i1 := hgd i0
                  clear hgd hlt HEx ht hany
                  go_wp2
                  go_ret
                  exact ⟨rfl, TU.out.1⟩
                · clear hgd hlt HEx ht hany
                  go_wp2
                  go_ret
                  exact ⟨rfl, TU.out.1⟩
              · have HP : Hid (Calls _ _ _ _ _) := HEx.out _ ht hany
                by_cases i0 : (m : Int) < 8
                · have i1 := hgd i0
                  clear hgd hlt HEx ht hany
                  go_wp2_with (first
                    | (go_at_call 24; refine HP.out.mono ?_; clear HP x0 x1 x2 x3 x4 x5 x6 x7 x8 x9; rintro e W3 ⟨rfl, b3⟩; have B9 : Hid (Below w.heap.size w W3) := b3; clear b3))
                  go_ret
                  exact ⟨rfl, B9.out.alloc B9.out.size _⟩
                · clear hgd hlt HEx ht hany
                  go_wp2_with (first
                    | (go_at_call 24; refine HP.out.mono ?_; clear HP x0 x1 x2 x3 x4 x5 x6 x7 x8 x9; rintro e W3 ⟨rfl, b3⟩; have B9 : Hid (Below w.heap.size w W3) := b3; clear b3))
                  go_ret
                  exact ⟨rfl, B9.out.alloc B9.out.size _⟩)

theorem SubTurned_walk (f : M.Fmt) (v : Value) (x : List Int) (a b : Int) (hd : Bool) (w : World) (hT : Wave.Tab w ∧ Alloc.Tabs w) (hx : Reads .i16 0 w.heap.size w v x) (ha : (Lit.int .u16 a).wf = true) (hb : (Lit.int .u8 b).wf = true) :
    Calls Tryz.prog 8 #[fv f, v, .int .u16 a, .int .u8 b, .bool hd] w fun e w' => e = .returned (.bool true) ∧ Below w.heap.size w w' := by
  by_cases h : M.okS f
  · have ha' : 0 ≤ a ∧ a ≤ 65535 := by simpa [Lit.wf, IntKind.min, IntKind.max, IntKind.signed, IntKind.bits] using ha
    have hb' : 0 ≤ b ∧ b ≤ 255 := by simpa [Lit.wf, IntKind.min, IntKind.max, IntKind.signed, IntKind.bits] using hb
    obtain ⟨m, rfl⟩ : ∃ m : Nat, a = m := ⟨a.toNat, by omega⟩
    obtain ⟨k, rfl⟩ : ∃ m : Nat, b = m := ⟨b.toNat, by omega⟩
    obtain ⟨C, B, N, r, hF⟩ := sb_of h
    have hends := M.ends (f := f) (.inl h)
    exact turned_some f C B N r (M.pay f).toNat v x m k hd w hT hx hF (by have := hends.2.2.1; omega) (by omega) (by omega)
  · exact turned_none f v x a b hd w hT hx h

end Sub
end Go.Proofs.YtcaifpjbjghhaaaGreatDoor

