/-
  The law of pairs: middles, sides and joins of any two planes. Conditions: none but that the planes are handed in.
-/
import Derived.Test.YtbfanglillndnaaQuantRefJ
import Derived.Test.YtbfanglillndnaaQuantRefD
import Derived.Test.YtbfanglillndnaaQuantSame
namespace Go.Proofs.Ytbfanglillndnaa
set_option linter.unusedVariables false
open Go.RowKit
namespace Qnt
open Bank (Blk But)
open Poly (cell_keep alloc_size)

def Mids (n C : Nat) (X Y : Nat → Nat → Int) (a b : Value) (w : World) : Prop := Vw w.heap.size a n C (fun i k => M.hs (X i k) (Y i k)) w ∧ Vw w.heap.size b n C (fun i k => M.hd (X i k) (Y i k)) w
def Sids (n C : Nat) (X Y : Nat → Nat → Int) (a b : Value) (w : World) : Prop := Vw w.heap.size a n C (fun i k => M.sat32 (X i k + Y i k)) w ∧ Vw w.heap.size b n C (fun i k => M.sat32 (X i k - Y i k)) w
theorem Mids.up {n C : Nat} {X Y : Nat → Nat → Int} {a b : Value} {w w' : World} (h : Mids n C X Y a b w) (hb : Below w.heap.size w w') : Mids n C X Y a b w' := ⟨(h.1.below hb (Nat.le_refl _)).mono hb.size, (h.2.below hb (Nat.le_refl _)).mono hb.size⟩
theorem Sids.up {n C : Nat} {X Y : Nat → Nat → Int} {a b : Value} {w w' : World} (h : Sids n C X Y a b w) (hb : Below w.heap.size w w') : Sids n C X Y a b w' := ⟨(h.1.below hb (Nat.le_refl _)).mono hb.size, (h.2.below hb (Nat.le_refl _)).mono hb.size⟩
theorem LstV.up {N : Nat} {V : Nat → Value} {v : Value} {w w' : World} (h : LstV N V v w) (hb : Below w.heap.size w w') : LstV N V v w' := by
  obtain ⟨b, off, c, rfl, h1, h2⟩ := h
  exact ⟨b, off, c, rfl, Nat.lt_of_lt_of_le h1 hb.size, fun j hj => (cell_keep (hb.block b h1)).trans (h2 j hj)⟩
theorem TbV.lst {g C : Nat} {t : TypeId} {V : Nat → Value} {w : World} (h : TbV g t C V w) : LstV C V (.slice (some ⟨g, 0, none⟩) C C) w :=
  ⟨g, 0, C, rfl, h.lt, fun j hj => by rw [Nat.zero_add]; exact h.cell hj⟩
/-- all planes at once -/
def Alls (n C : Nat) (X Y : Nat → Nat → Int) (a b c d x y z u : Value) (w : World) : Prop := Mids n C X Y a b w ∧ Sids n C X Y c d w ∧ Mids n C X Y x y w ∧ Sids n C X Y z u w
theorem Alls.up {n C : Nat} {X Y : Nat → Nat → Int} {a b c d x y z u : Value} {w w' : World} (h : Alls n C X Y a b c d x y z u w) (hb : Below w.heap.size w w') : Alls n C X Y a b c d x y z u w' :=
  ⟨h.1.up hb, h.2.1.up hb, h.2.2.1.up hb, h.2.2.2.up hb⟩

/-- what the calls of the law answer, for planes that fit -/
structure Ans (vl vr : Value) (n C : Nat) (X Y : Nat → Nat → Int) (J : Nat → Bool) (w : World) : Prop where
  mid : ∀ wx, Below w.heap.size w wx → Calls Try.prog 19 #[vl, vr] wx fun e w' => ∃ ga gb, e = .returned (.tuple #[.slice (some ⟨ga, 0, none⟩) n n, .slice (some ⟨gb, 0, none⟩) n n, .int .i64 0]) ∧ Below wx.heap.size wx w' ∧ Mids n C X Y (.slice (some ⟨ga, 0, none⟩) n n) (.slice (some ⟨gb, 0, none⟩) n n) w'
  sid : ∀ wx, Below w.heap.size w wx → Calls Try.prog 20 #[vl, vr] wx fun e w' => ∃ ga gb, e = .returned (.tuple #[.slice (some ⟨ga, 0, none⟩) n n, .slice (some ⟨gb, 0, none⟩) n n, .int .i64 0]) ∧ Below wx.heap.size wx w' ∧ Sids n C X Y (.slice (some ⟨ga, 0, none⟩) n n) (.slice (some ⟨gb, 0, none⟩) n n) w'
  joi : ∀ wx, Below w.heap.size w wx → Calls Try.prog 21 #[vl, vr] wx fun e w' => ∃ g, e = .returned (.tuple #[.slice (some ⟨g, 0, none⟩) C C, .int .i64 0]) ∧ Below wx.heap.size wx w' ∧ LstV C (fun b => .bool (J b)) (.slice (some ⟨g, 0, none⟩) C C) w'
  fit : ∀ wx, Below w.heap.size w wx → Calls Try.prog 22 #[vl, vr] wx fun e w' => e = .returned (.bool true) ∧ w' = wx
  rmid : ∀ wx, Below w.heap.size w wx → Calls Try.prog 23 #[vl, vr] wx fun e w' => ∃ g1 o1 c1 g2 o2 c2, e = .returned (.tuple #[.slice (some ⟨g1, o1, none⟩) n c1, .slice (some ⟨g2, o2, none⟩) n c2]) ∧ Below wx.heap.size wx w' ∧ Mids n C X Y (.slice (some ⟨g1, o1, none⟩) n c1) (.slice (some ⟨g2, o2, none⟩) n c2) w'
  rsid : ∀ wx, Below w.heap.size w wx → Calls Try.prog 24 #[vl, vr] wx fun e w' => ∃ g1 o1 c1 g2 o2 c2, e = .returned (.tuple #[.slice (some ⟨g1, o1, none⟩) n c1, .slice (some ⟨g2, o2, none⟩) n c2]) ∧ Below wx.heap.size wx w' ∧ Sids n C X Y (.slice (some ⟨g1, o1, none⟩) n c1) (.slice (some ⟨g2, o2, none⟩) n c2) w'
  rjoi : ∀ wx, Below w.heap.size w wx → Calls Try.prog 25 #[vl, vr] wx fun e w' => ∃ g o c, e = .returned (.slice (some ⟨g, o, none⟩) C c) ∧ Below wx.heap.size wx w' ∧ LstV C (fun b => .bool (J b)) (.slice (some ⟨g, o, none⟩) C c) w'

theorem ans_any (hi : Nat) (vl vr : Value) (n C : Nat) (X Y : Nat → Nat → Int) (w : World) (ha : Vw hi vl n C X w) (hb : Vw hi vr n C Y w) (hX : F32 X) (hY : F32 Y) (n1 : 1 ≤ n) (n40 : n ≤ 40) (c1 : 1 ≤ C) (c8 : C ≤ 8) (hh : hi ≤ w.heap.size) :
    Ans vl vr n C X Y (fun b => M.jb (M.tg X Y n) (M.tg (fun i b => M.hs (X i b) (Y i b)) (fun i b => M.hd (X i b) (Y i b)) n) C b) w := by
  have A1 : ∀ wx, Below w.heap.size w wx → Vw hi vl n C X wx := fun wx h => ha.below h hh
  have B1 : ∀ wx, Below w.heap.size w wx → Vw hi vr n C Y wx := fun wx h => hb.below h hh
  have L1 : ∀ wx, Below w.heap.size w wx → hi ≤ wx.heap.size := fun wx h => Nat.le_trans hh h.size
  refine ⟨fun wx h => ?_, fun wx h => ?_, fun wx h => ?_, fun wx h => ?_, fun wx h => ?_, fun wx h => ?_, fun wx h => ?_⟩
  · refine (Middle_ok hi vl vr n C X Y wx (A1 wx h) (B1 wx h) hX hY n1 n40 c1 c8 (L1 wx h)).mono ?_
    rintro e w' ⟨he, t⟩
    have hs := t.size
    exact ⟨_, _, he, t.bel, t.one.whole.mono (by omega), t.two.whole.mono (by omega)⟩
  · refine (Sides_ok hi vl vr n C X Y wx (A1 wx h) (B1 wx h) hX hY n1 n40 c1 c8 (L1 wx h)).mono ?_
    rintro e w' ⟨he, t⟩
    have hs := t.size
    exact ⟨_, _, he, t.bel, t.one.whole.mono (by omega), t.two.whole.mono (by omega)⟩
  · refine (Joins_ok hi vl vr n C X Y wx (A1 wx h) (B1 wx h) hX hY n1 n40 c1 c8 (L1 wx h)).mono ?_
    rintro e w' ⟨g, he, b, _, t⟩
    exact ⟨g, he, b, t.lst⟩
  · refine (rFit_any hi vl vr n n (fun _ => C) (fun _ => C) wx (A1 wx h).hd (B1 wx h).hd (not_far n40 c8) (not_far n40 c8)).mono ?_
    intro e w' h'
    exact h'.yes ⟨⟨n1, c1, c8, fun _ _ => rfl⟩, ⟨n1, c1, c8, fun _ _ => rfl⟩, rfl, rfl⟩
  · refine (rMiddle_any hi vl vr n C X Y wx (A1 wx h) (B1 wx h) hX hY n1 n40 c1 c8 (L1 wx h)).mono ?_
    rintro e w' ⟨u1, u2, he, b, v1, v2⟩
    obtain ⟨g1, o1, k1, rfl⟩ := v1.form
    obtain ⟨g2, o2, k2, rfl⟩ := v2.form
    exact ⟨_, _, _, _, _, _, he, b, v1, v2⟩
  · refine (rSides_any hi vl vr n C X Y wx (A1 wx h) (B1 wx h) hX hY n1 n40 c1 c8 (L1 wx h)).mono ?_
    rintro e w' ⟨u1, u2, he, b, v1, v2⟩
    obtain ⟨g1, o1, k1, rfl⟩ := v1.form
    obtain ⟨g2, o2, k2, rfl⟩ := v2.form
    exact ⟨_, _, _, _, _, _, he, b, v1, v2⟩
  · refine (rJoins_any hi vl vr n C X Y wx (A1 wx h) (B1 wx h) hX hY n1 n40 c1 c8 (L1 wx h)).mono ?_
    rintro e w' ⟨u, he, b, l⟩
    obtain ⟨g, o, k, rfl, hl⟩ := id l
    exact ⟨g, o, k, he, b, l⟩

set_option maxHeartbeats 8000000 in
set_option maxRecDepth 100000 in
theorem pairs_fit (vl vr : Value) (al ar : Option Addr) (cl cr n C : Nat) (X Y : Nat → Nat → Int) (J : Nat → Bool) (w : World) (n40 : n ≤ 40) (c8 : C ≤ 8) (hvl : vl = .slice al n cl) (hvr : vr = .slice ar n cr) (h : Ans vl vr n C X Y J w)
    (hfl : ∀ wx, Below w.heap.size w wx → Calls Try.prog 15 #[vl] wx fun e w' => e = .returned (.bool false) ∧ w' = wx) (hfr : ∀ wx, Below w.heap.size w wx → Calls Try.prog 15 #[vr] wx fun e w' => e = .returned (.bool false) ∧ w' = wx) :
    Calls Try.prog 5 #[vl, vr] w fun e w' => e = .returned (.bool true) ∧ Below w.heap.size w w' := by
  subst hvl hvr
  have HA : Hid (Ans (.slice al n cl) (.slice ar n cr) n C X Y J w) := h
  have n40' : (n : Int) ≤ 40 := by omega
  have c8' : (C : Int) ≤ 8 := by omega
  clear h
  go_enter Try.func5, Try.ntmps5
  go_wp2_with (first
    | (go_at_call 8; refine (alive_any _).mono ?_; rintro e w' ⟨rfl, m0, rfl⟩)
    | (go_at_call_of 15 cl; refine (hfl _ (bel_drewN _ _)).mono ?_; rintro e w' ⟨rfl, rfl⟩)
    | (go_at_call_of 15 cr; refine (hfr _ (bel_drewN _ _)).mono ?_; rintro e w' ⟨rfl, rfl⟩)
    | (go_at_call 19; refine (HA.out.mid _ (bel_drewN _ _)).mono ?_; rintro e w2 ⟨ga, gb, rfl, b2, m2⟩; have B2 : Hid (Below w.heap.size w w2) := (bel_drewN w _).trans b2; have M2 : Hid (Mids n C X Y (.slice (some ⟨ga, 0, none⟩) n n) (.slice (some ⟨gb, 0, none⟩) n n) w2) := m2; clear b2 m2)
    | (go_at_call 20; refine (HA.out.sid _ B2.out).mono ?_; rintro e w3 ⟨gc, gd, rfl, b3, s3⟩; have B3 : Hid (Below w.heap.size w w3) := B2.out.trans (b3.mono B2.out.size); have M3 : Hid (Mids n C X Y (.slice (some ⟨ga, 0, none⟩) n n) (.slice (some ⟨gb, 0, none⟩) n n) w3) := M2.out.up b3; have S3 : Hid (Sids n C X Y (.slice (some ⟨gc, 0, none⟩) n n) (.slice (some ⟨gd, 0, none⟩) n n) w3) := s3; clear b3 s3 B2 M2)
    | (go_at_call 21; refine (HA.out.joi _ B3.out).mono ?_; rintro e w4 ⟨gj, rfl, b4, j4⟩; have B4 : Hid (Below w.heap.size w w4) := B3.out.trans (b4.mono B3.out.size); have M4 : Hid (Mids n C X Y (.slice (some ⟨ga, 0, none⟩) n n) (.slice (some ⟨gb, 0, none⟩) n n) w4) := M3.out.up b4; have S4 : Hid (Sids n C X Y (.slice (some ⟨gc, 0, none⟩) n n) (.slice (some ⟨gd, 0, none⟩) n n) w4) := S3.out.up b4; have J4 : Hid (LstV C (fun b => .bool (J b)) (.slice (some ⟨gj, 0, none⟩) C C) w4) := j4; clear b4 j4 B3 M3 S3)
    | (go_at_call 22; refine (HA.out.fit _ B4.out).mono ?_; rintro e w' ⟨rfl, rfl⟩)
    | (go_at_call 23; refine (HA.out.rmid _ B4.out).mono ?_; rintro e w5 ⟨gx, ox, cx, gy, oy, cy, rfl, b5, m5⟩; have B5 : Hid (Below w.heap.size w w5) := B4.out.trans (b5.mono B4.out.size); have M5 : Hid (Mids n C X Y (.slice (some ⟨ga, 0, none⟩) n n) (.slice (some ⟨gb, 0, none⟩) n n) w5) := M4.out.up b5; have S5 : Hid (Sids n C X Y (.slice (some ⟨gc, 0, none⟩) n n) (.slice (some ⟨gd, 0, none⟩) n n) w5) := S4.out.up b5; have J5 : Hid (LstV C (fun b => .bool (J b)) (.slice (some ⟨gj, 0, none⟩) C C) w5) := J4.out.up b5; have R5 : Hid (Mids n C X Y (.slice (some ⟨gx, ox, none⟩) n cx) (.slice (some ⟨gy, oy, none⟩) n cy) w5) := m5; clear b5 m5 B4 M4 S4 J4)
    | (go_at_call 24; refine (HA.out.rsid _ B5.out).mono ?_; rintro e w6 ⟨gz, oz, cz, gu, ou, cu, rfl, b6, s6⟩; have B6 : Hid (Below w.heap.size w w6) := B5.out.trans (b6.mono B5.out.size); have A6 : Hid (Alls n C X Y (.slice (some ⟨ga, 0, none⟩) n n) (.slice (some ⟨gb, 0, none⟩) n n) (.slice (some ⟨gc, 0, none⟩) n n) (.slice (some ⟨gd, 0, none⟩) n n) (.slice (some ⟨gx, ox, none⟩) n cx) (.slice (some ⟨gy, oy, none⟩) n cy) (.slice (some ⟨gz, oz, none⟩) n cz) (.slice (some ⟨gu, ou, none⟩) n cu) w6) := ⟨M5.out.up b6, S5.out.up b6, R5.out.up b6, s6⟩; have J6 : Hid (LstV C (fun b => .bool (J b)) (.slice (some ⟨gj, 0, none⟩) C C) w6) := J5.out.up b6; clear b6 s6 B5 M5 S5 J5 R5)
    | (go_at_call 25; refine (HA.out.rjoi _ B6.out).mono ?_; rintro e w7 ⟨gk, ok, ck, rfl, b7, k7⟩; have B7 : Hid (Below w.heap.size w w7) := B6.out.trans (b7.mono B6.out.size); have A7 : Hid (Alls n C X Y (.slice (some ⟨ga, 0, none⟩) n n) (.slice (some ⟨gb, 0, none⟩) n n) (.slice (some ⟨gc, 0, none⟩) n n) (.slice (some ⟨gd, 0, none⟩) n n) (.slice (some ⟨gx, ox, none⟩) n cx) (.slice (some ⟨gy, oy, none⟩) n cy) (.slice (some ⟨gz, oz, none⟩) n cz) (.slice (some ⟨gu, ou, none⟩) n cu) w7) := A6.out.up b7; have J7 : Hid (LstV C (fun b => .bool (J b)) (.slice (some ⟨gj, 0, none⟩) C C) w7) := J6.out.up b7; have K7 : Hid (LstV C (fun b => .bool (J b)) (.slice (some ⟨gk, ok, none⟩) C ck) w7) := k7; clear b7 k7 B6 A6 J6))
  go_loopw [18] (fun i wr => ∃ q : Nat, q ≤ C ∧ i = .int .i64 q ∧ Below w7.heap.size w7 wr) (fun i _ => C - (intOf i).toNat)
  case atStart => exact ⟨0, by omega, rfl, Below.refl _ _⟩
  case round =>
    obtain ⟨k, hk, rfl, hbw⟩ := hrel
    have HB : Hid (Below w7.heap.size w7 wr) := hbw
    by_cases hkl : k < C
    · have hkl' : (k : Int) < C := by omega
      obtain ⟨g1, p1, q1, e1, _, x1⟩ := J7.out.up hbw
      obtain ⟨g2, p2, q2, e2, _, x2⟩ := K7.out.up hbw
      cases e1
      cases e2
      replace x1 := x1 k hkl
      replace x2 := x2 k hkl
      rw [Nat.zero_add] at x1
      clear hbw
      generalize J k = z at *
      go_wp2
      go_quiet (fail)
      go_wp2
      all_goals (
        go_roundw
        case rel => exact ⟨k + 1, by omega, by go_num, below_dr HB.out _⟩
        case measure => simp [intOf]; omega)
    · obtain rfl : k = C := by omega
      have A8 := A7.out.up hbw
      have AA : Hid (Alls n k X Y (.slice (some ⟨ga, 0, none⟩) n n) (.slice (some ⟨gb, 0, none⟩) n n) (.slice (some ⟨gc, 0, none⟩) n n) (.slice (some ⟨gd, 0, none⟩) n n) (.slice (some ⟨gx, ox, none⟩) n cx) (.slice (some ⟨gy, oy, none⟩) n cy) (.slice (some ⟨gz, oz, none⟩) n cz) (.slice (some ⟨gu, ou, none⟩) n cu) wr) := A8
      clear hbw A8
      go_wp2_with (first
        | (go_at_call_of 26 cx; refine (Same_any _ _ _ n k _ _ AA.out.1.1 AA.out.2.2.1.1 n40 c8 (Nat.le_refl _)).mono ?_; rintro e w8 ⟨rfl, b8⟩; have HB8 : Hid (Below wr.heap.size wr w8) := b8; clear b8)
        | (go_at_call_of 26 cy; refine (Same_any _ _ _ n k _ _ (AA.out.up HB8.out).1.2 (AA.out.up HB8.out).2.2.1.2 n40 c8 (Nat.le_refl _)).mono ?_; rintro e w9 ⟨rfl, b9⟩; have HB9 : Hid (Below wr.heap.size wr w9) := HB8.out.trans (b9.mono HB8.out.size); clear b9)
        | (go_at_call_of 26 cz; refine (Same_any _ _ _ n k _ _ (AA.out.up HB9.out).2.1.1 (AA.out.up HB9.out).2.2.2.1 n40 c8 (Nat.le_refl _)).mono ?_; rintro e w10 ⟨rfl, b10⟩; have HB10 : Hid (Below wr.heap.size wr w10) := HB9.out.trans (b10.mono HB9.out.size); clear b10)
        | (go_at_call_of 26 cu; refine (Same_any _ _ _ n k _ _ (AA.out.up HB10.out).2.1.2 (AA.out.up HB10.out).2.2.2.2 n40 c8 (Nat.le_refl _)).mono ?_; rintro e w11 ⟨rfl, b11⟩; have HB11 : Hid (Below wr.heap.size wr w11) := HB10.out.trans (b11.mono HB10.out.size); clear b11))
      go_ret
      exact ⟨rfl, B7.out.trans ((HB.out.mono B7.out.size).trans (HB11.out.mono (Nat.le_trans B7.out.size HB.out.size)))⟩

set_option maxHeartbeats 8000000 in
set_option maxRecDepth 100000 in
theorem QuantPairs_walk (vl vr : Value) (lss rss : List (List Int)) (w : World) (hZl : Poly.Rows .i32 0 w.heap.size w vl lss) (hZr : Poly.Rows .i32 0 w.heap.size w vr rss) :
    Calls Try.prog 5 #[vl, vr] w fun e w' => e = .returned (.bool true) ∧ Below w.heap.size w w' := by
  have dl := rows_hd hZl
  have dr := rows_hd hZr
  have fl := rows_fit hZl
  have fr := rows_fit hZr
  have hfl : ∀ wx, Below w.heap.size w wx → Calls Try.prog 15 #[vl] wx fun e w' => Yes (FarL lss.length (len lss)) wx e w' := fun wx hb => Far_any w.heap.size vl _ _ wx (dl.below hb (Nat.le_refl _))
  have hfr : ∀ wx, Below w.heap.size w wx → Calls Try.prog 15 #[vr] wx fun e w' => Yes (FarL rss.length (len rss)) wx e w' := fun wx hb => Far_any w.heap.size vr _ _ wx (dr.below hb (Nat.le_refl _))
  by_cases farl : FarL lss.length (len lss)
  · have h1 : ∀ wx, Below w.heap.size w wx → Calls Try.prog 15 #[vl] wx fun e w' => e = .returned (.bool true) ∧ w' = wx := fun wx hb => (hfl wx hb).mono fun e w' h => h.yes farl
    obtain ⟨al, cl, rfl⟩ := dl.form
    obtain ⟨ar, cr, rfl⟩ := dr.form
    clear hZl hZr dl dr fl fr hfl hfr farl
    go_enter Try.func5, Try.ntmps5
    go_wp2_with (first
      | (go_at_call 8; refine (alive_any _).mono ?_; rintro e w' ⟨rfl, m0, rfl⟩)
      | (go_at_call_of 15 cl; refine (h1 _ (bel_drewN _ _)).mono ?_; rintro e w' ⟨rfl, rfl⟩))
    go_ret
    exact ⟨rfl, bel_drewN _ _⟩
  · have h1 : ∀ wx, Below w.heap.size w wx → Calls Try.prog 15 #[vl] wx fun e w' => e = .returned (.bool false) ∧ w' = wx := fun wx hb => (hfl wx hb).mono fun e w' h => h.no farl
    by_cases farr : FarL rss.length (len rss)
    · have h2 : ∀ wx, Below w.heap.size w wx → Calls Try.prog 15 #[vr] wx fun e w' => e = .returned (.bool true) ∧ w' = wx := fun wx hb => (hfr wx hb).mono fun e w' h => h.yes farr
      obtain ⟨al, cl, rfl⟩ := dl.form
      obtain ⟨ar, cr, rfl⟩ := dr.form
      clear hZl hZr dl dr fl fr hfl hfr farl farr
      go_enter Try.func5, Try.ntmps5
      go_wp2_with (first
        | (go_at_call 8; refine (alive_any _).mono ?_; rintro e w' ⟨rfl, m0, rfl⟩)
        | (go_at_call_of 15 cl; refine (h1 _ (bel_drewN _ _)).mono ?_; rintro e w' ⟨rfl, rfl⟩)
        | (go_at_call_of 15 cr; refine (h2 _ (bel_drewN _ _)).mono ?_; rintro e w' ⟨rfl, rfl⟩))
      go_ret
      exact ⟨rfl, bel_drewN _ _⟩
    · have h2 : ∀ wx, Below w.heap.size w wx → Calls Try.prog 15 #[vr] wx fun e w' => e = .returned (.bool false) ∧ w' = wx := fun wx hb => (hfr wx hb).mono fun e w' h => h.no farr
      by_cases hfit : Fit lss.length rss.length (len lss) (len rss)
      · obtain ⟨pl, pr, hnn, hcc⟩ := id hfit
        have vl' := rows_vw hZl pl
        have vr' := rows_vw hZr pr
        rw [← hnn, ← hcc] at vr'
        obtain ⟨n1, c1, c8, _⟩ := id pl
        have n40 : lss.length ≤ 40 := by
          rcases Nat.lt_or_ge 40 lss.length with h | h
          · exact absurd (.inl h) farl
          · exact h
        obtain ⟨al, cl, hvl⟩ := dl.form
        obtain ⟨ar, cr, hvr⟩ := dr.form
        rw [← hnn] at hvr
        exact pairs_fit vl vr al ar cl cr _ _ _ _ _ w n40 c8 hvl hvr (ans_any w.heap.size vl vr _ _ (el lss) (el rss) w vl' vr' fl fr n1 n40 c1 c8 (Nat.le_refl _)) h1 h2
      · have h3 : ∀ wx, Below w.heap.size w wx → Calls Try.prog 19 #[vl, vr] wx fun e w' => e = .returned (.tuple #[.slice none 0 0, .slice none 0 0, .int .i64 1]) ∧ ∃ m, w' = wx.drewN m := fun wx hb => Middle_no w.heap.size vl vr _ _ _ _ wx (dl.below hb (Nat.le_refl _)) (dr.below hb (Nat.le_refl _)) farl farr hfit
        have h4 : ∀ wx, Below w.heap.size w wx → Calls Try.prog 20 #[vl, vr] wx fun e w' => e = .returned (.tuple #[.slice none 0 0, .slice none 0 0, .int .i64 1]) ∧ ∃ m, w' = wx.drewN m := fun wx hb => Sides_no w.heap.size vl vr _ _ _ _ wx (dl.below hb (Nat.le_refl _)) (dr.below hb (Nat.le_refl _)) farl farr hfit
        have h5 : ∀ wx, Below w.heap.size w wx → Calls Try.prog 21 #[vl, vr] wx fun e w' => e = .returned (.tuple #[.slice none 0 0, .int .i64 1]) ∧ ∃ m, w' = wx.drewN m := fun wx hb => Joins_no w.heap.size vl vr _ _ _ _ wx (dl.below hb (Nat.le_refl _)) (dr.below hb (Nat.le_refl _)) farl farr hfit
        have h6 : ∀ wx, Below w.heap.size w wx → Calls Try.prog 22 #[vl, vr] wx fun e w' => e = .returned (.bool false) ∧ w' = wx := fun wx hb => (rFit_any w.heap.size vl vr _ _ _ _ wx (dl.below hb (Nat.le_refl _)) (dr.below hb (Nat.le_refl _)) farl farr).mono fun e w' h => h.no hfit
        obtain ⟨al, cl, rfl⟩ := dl.form
        obtain ⟨ar, cr, rfl⟩ := dr.form
        clear hZl hZr dl dr fl fr hfl hfr farl farr hfit
        go_enter Try.func5, Try.ntmps5
        go_wp2_with (first
          | (go_at_call 8; refine (alive_any _).mono ?_; rintro e w' ⟨rfl, m0, rfl⟩)
          | (go_at_call_of 15 cl; refine (h1 _ (bel_drewN _ _)).mono ?_; rintro e w' ⟨rfl, rfl⟩)
          | (go_at_call_of 15 cr; refine (h2 _ (bel_drewN _ _)).mono ?_; rintro e w' ⟨rfl, rfl⟩)
          | (go_at_call 19; refine (h3 _ (bel_drewN _ _)).mono ?_; rintro e w' ⟨rfl, m3, rfl⟩)
          | (go_at_call 20; refine (h4 _ (bel_drewN _ _)).mono ?_; rintro e w' ⟨rfl, m4, rfl⟩)
          | (go_at_call 21; refine (h5 _ (bel_drewN _ _)).mono ?_; rintro e w' ⟨rfl, m5, rfl⟩)
          | (go_at_call 22; refine (h6 _ (bel_drewN _ _)).mono ?_; rintro e w' ⟨rfl, rfl⟩))
        go_ret
        exact ⟨rfl, bel_drewN _ _⟩

end Qnt
end Go.Proofs.Ytbfanglillndnaa
