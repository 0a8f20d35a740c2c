/-
  Contracts of package alloc: a sharing, its greatest need, the costs of its slice, what it gives. Conditions: as told at each.
-/
import Derived.Test.YthlpbekfjolenaaDoorAllocOf
import Derived.Deep.RegionHeld3
import Derived.BigQuiet
namespace Go.Proofs.YthlpbekfjolenaaDoor
set_option linter.unusedVariables false
open Go.RowKit
namespace Alloc
open Bank (Blk But)
open Poly (alloc_size enc cell_keep below_drew)
open _root_.Go.Proofs.YthlpbekfjolenaaDoor.Form (fv fc bel1 blk_below box_cells of_drew)

/-- a sharing's cells -/
def sc (f : M.Fmt) (a d C : Nat) (s x : Int) : Array Value := #[.int .i64 f.c, .int .i64 f.r, .int .i64 f.h, .int .i64 f.b, .int .i64 f.k, .int .i64 f.m, .int .i64 f.j, .int .i64 f.p, .int .i64 f.l, .int .i64 f.y, .slice (some ⟨a, 0, none⟩) C C, .slice (some ⟨d, 0, none⟩) C C, .int .i64 s, .int .i64 x]
/-- a sharing: the object in block g, the needs from block a on, the bits from block d on -/
structure Shr (W : World) (g : Nat) (f : M.Fmt) (a d C B : Nat) (n β : Nat → Int) (s x : Int) (wr : World) : Prop where
  bel : Below W.heap.size W wr
  obj : Blk wr g (sc f a d C s x) 40
  nds : Grid a C B n wr
  bts : Grid d C B β wr
  p0 : W.heap.size ≤ a
  p1 : a + C < d
  p2 : d + C < g
variable {W : World} {g : Nat} {f : M.Fmt} {a d C B : Nat} {n β : Nat → Int} {s x : Int} {w w' : World}
theorem Shr.grow (h : Shr W g f a d C B n β s x w) (hb : Below w.heap.size w w') : Shr W g f a d C B n β s x w' :=
  ⟨h.bel.trans (hb.mono h.bel.size), blk_below hb h.obj h.obj.lt, h.nds.grow hb, h.bts.grow hb, h.p0, h.p1, h.p2⟩
theorem Shr.drewN (h : Shr W g f a d C B n β s x w) (m : Nat) : Shr W g f a d C B n β s x (w.drewN m) := ⟨Poly.below_drewN h.bel m, h.obj, h.nds.drewN m, h.bts.drewN m, h.p0, h.p1, h.p2⟩
theorem Shr.drew (h : Shr W g f a d C B n β s x w) : Shr W g f a d C B n β s x w.drew := ⟨below_drew h.bel, h.obj, h.nds.drew, h.bts.drew, h.p0, h.p1, h.p2⟩
/-- a cell elsewhere is set -/
theorem Shr.else (h : Shr W g f a d C B n β s x w) {q : Nat} (hq : g < q) (o : Nat) (v : Value) : Shr W g f a d C B n β s x (w.setCell ⟨q, o, none⟩ v) := by
  have := h.p0; have := h.p1; have := h.p2
  exact ⟨h.bel.setCell (by show W.heap.size ≤ q; omega) _, h.obj.set_ne (by show g ≠ q; omega) _, h.nds.set_ne (by show q < a ∨ a + C < q; omega) _, h.bts.set_ne (by show q < d ∨ d + C < q; omega) _, h.p0, h.p1, h.p2⟩
theorem Shr.slice (h : Shr W g f a d C B n β s x w) (s' : Int) : Shr W g f a d C B n β s' x (w.setCell ⟨g, 12, none⟩ (.int .i64 s')) := by
  have := h.p0; have := h.p1; have := h.p2
  exact ⟨h.bel.setCell (by show W.heap.size ≤ g; omega) _, h.obj.set 12 (.int .i64 s'), h.nds.set_ne (by show g < a ∨ a + C < g; omega) _, h.bts.set_ne (by show g < d ∨ d + C < g; omega) _, h.p0, h.p1, h.p2⟩
theorem Shr.sum (h : Shr W g f a d C B n β s x w) (x' : Int) : Shr W g f a d C B n β s x' (w.setCell ⟨g, 13, none⟩ (.int .i64 x')) := by
  have := h.p0; have := h.p1; have := h.p2
  exact ⟨h.bel.setCell (by show W.heap.size ≤ g; omega) _, h.obj.set 13 (.int .i64 x'), h.nds.set_ne (by show g < a ∨ a + C < g; omega) _, h.bts.set_ne (by show g < d ∨ d + C < g; omega) _, h.p0, h.p1, h.p2⟩
theorem Shr.give (h : Shr W g f a d C B n β s x w) {β' : Nat → Int} {c b : Nat} (hc : c < C) (hb : b < B) {z : Int} (hz : z = β' (b * C + c)) (ho : ∀ j, j ≠ b * C + c → β' j = β j) : Shr W g f a d C B n β' s x (w.setCell ⟨d + 1 + c, b, none⟩ (.int .i64 z)) := by
  have := h.p0; have := h.p1; have := h.p2
  exact ⟨h.bel.setCell (by show W.heap.size ≤ d + 1 + c; omega) _, h.obj.set_ne (by show g ≠ d + 1 + c; omega) _, h.nds.set_ne (by show d + 1 + c < a ∨ a + C < d + 1 + c; omega) _, h.bts.set hc hb hz ho, h.p0, h.p1, h.p2⟩
theorem Shr.ext (h : Shr W g f a d C B n β s x w) {β' : Nat → Int} (e : ∀ j, j < B * C → β j = β' j) : Shr W g f a d C B n β' s x w := ⟨h.bel, h.obj, h.nds, h.bts.ext e, h.p0, h.p1, h.p2⟩

/-- a sharing, and a box in block H with its address -/
def Box (g H : Nat) (w : World) : Prop := Blk w H #[.pointer (some ⟨g, 0, none⟩)] 37 ∧ g < H

/-- a number that is gathered beside a sharing -/
structure Num (W : World) (g : Nat) (f : M.Fmt) (a d C B : Nat) (n β : Nat → Int) (s x : Int) (H : Nat) (F : Nat → Int) (k : Nat) (wr : World) : Prop where
  shr : Shr W g f a d C B n β s x wr
  box : Box g H wr
  num : Blk wr (H + 1) #[.int .i64 (F k)] 3
theorem Num.grow {H k : Nat} {F : Nat → Int} (h : Num W g f a d C B n β s x H F k w) (hb : Below w.heap.size w w') : Num W g f a d C B n β s x H F k w' :=
  ⟨h.shr.grow hb, ⟨blk_below hb h.box.1 h.box.1.lt, h.box.2⟩, blk_below hb h.num h.num.lt⟩
theorem Num.drewN {H k : Nat} {F : Nat → Int} (h : Num W g f a d C B n β s x H F k w) (m : Nat) : Num W g f a d C B n β s x H F k (w.drewN m) := ⟨h.shr.drewN m, ⟨h.box.1.drewN m, h.box.2⟩, h.num.drewN m⟩
theorem Num.drew {H k : Nat} {F : Nat → Int} (h : Num W g f a d C B n β s x H F k w) : Num W g f a d C B n β s x H F k w.drew := ⟨h.shr.drew, ⟨h.box.1.drew, h.box.2⟩, h.num.drew⟩
theorem Num.step {H k : Nat} {F : Nat → Int} (h : Num W g f a d C B n β s x H F k w) {z : Int} (hz : z = F (k + 1)) : Num W g f a d C B n β s x H F (k + 1) (w.setCell ⟨H + 1, 0, none⟩ (.int .i64 z)) := by
  have := h.box.2
  subst hz
  exact ⟨h.shr.else (by omega) _ _, ⟨h.box.1.set_ne (by show H ≠ H + 1; omega) _, h.box.2⟩, h.num.set 0 _⟩

theorem Stay.drewN {N : Nat} (h : Stay N w w') (m : Nat) : Stay N w (w'.drewN m) := ⟨h.size, h.block⟩
theorem greatest_told (H N : Nat) (hN : H + 1 < N) (hn : ∀ j, -5 ≤ n j ∧ n j ≤ 15) (c2 : C ≤ 2) (b8 : B ≤ 8) :
    Told C B N 32 #[.pointer (some ⟨H + 1, 0, none⟩), .pointer (some ⟨H, 0, none⟩)] (Num W g f a d C B n β s x H (M.mx n)) := by
  intro c b w hc hb hNw hI
  have k0 : w.cell? ⟨H, 0, none⟩ = some (.pointer (some ⟨g, 0, none⟩)) := hI.box.1.cell rfl
  have k1 : w.cell? ⟨H + 1, 0, none⟩ = some (.int .i64 (M.mx n (b * C + c))) := hI.num.cell rfl
  have k5 := hI.num.free 0
  have k2 : w.cell? ⟨g, 10, none⟩ = some (.slice (some ⟨a, 0, none⟩) C C) := hI.shr.obj.cell rfl
  have k3 := hI.shr.nds.at_head hc
  have k4 := hI.shr.nds.at hc hb
  have HX : Hid ((if M.mx n (b * C + c) < n (b * C + c) then n (b * C + c) else M.mx n (b * C + c)) = M.mx n (b * C + c + 1)) := rfl
  have HI : Hid _ := hI
  have hc' : (c : Int) < C := by omega
  have hb' : (b : Int) < B := by omega
  have hC' : (C : Int) ≤ 2 := by omega
  have hB' : (B : Int) ≤ 8 := by omega
  have HNN : Hid (H + 1 < N) := hN
  clear hI hN hNw hn
  generalize n (b * C + c) = y at *
  generalize M.mx n (b * C + c) = z at *
  clear hc hb
  show Calls _ _ #[_, _, _, _] _ _
  go_enter Tryd.func32, Tryd.ntmps32
  go_region
  all_goals (
    go_end0
    exact ⟨rfl, (HI.out.step HX.out).drew, ((Stay.refl _ _).set (by show H + 1 < N; exact HNN.out) _).drew⟩)

theorem obj_cells (h : Blk w g (sc f a d C s x) 40) : w.cell? ⟨g, 0, none⟩ = some (.int .i64 f.c) ∧ w.cell? ⟨g, 1, none⟩ = some (.int .i64 f.r) ∧ w.cell? ⟨g, 2, none⟩ = some (.int .i64 f.h) ∧ w.cell? ⟨g, 3, none⟩ = some (.int .i64 f.b) ∧ w.cell? ⟨g, 4, none⟩ = some (.int .i64 f.k) ∧
    w.cell? ⟨g, 5, none⟩ = some (.int .i64 f.m) ∧ w.cell? ⟨g, 6, none⟩ = some (.int .i64 f.j) ∧ w.cell? ⟨g, 7, none⟩ = some (.int .i64 f.p) ∧ w.cell? ⟨g, 8, none⟩ = some (.int .i64 f.l) ∧ w.cell? ⟨g, 9, none⟩ = some (.int .i64 f.y) ∧
    w.cell? ⟨g, 10, none⟩ = some (.slice (some ⟨a, 0, none⟩) C C) ∧ w.cell? ⟨g, 11, none⟩ = some (.slice (some ⟨d, 0, none⟩) C C) ∧ w.cell? ⟨g, 12, none⟩ = some (.int .i64 s) ∧ w.cell? ⟨g, 13, none⟩ = some (.int .i64 x) :=
  ⟨h.cell rfl, h.cell rfl, h.cell rfl, h.cell rfl, h.cell rfl, h.cell rfl, h.cell rfl, h.cell rfl, h.cell rfl, h.cell rfl, h.cell rfl, h.cell rfl, h.cell rfl, h.cell rfl⟩

theorem greatest_any (w : World) (h : Shr W g f a d C B n β s x w) (hC : f.h = C) (hB : f.b = B) (hn : ∀ j, -5 ≤ n j ∧ n j ≤ 15) (c2 : C ≤ 2) (b8 : B ≤ 8) :
    Calls Tryd.prog 26 #[.pointer (some ⟨g, 0, none⟩)] w fun e w' => e = .returned (.int .i64 (M.mx n (B * C))) ∧ Shr W g f a d C B n β s x w' := by
  have hth : ∀ (wx : World), Num W g f a d C B n β s x w.heap.size (fun k => M.mx n k) 0 wx → w.heap.size + 1 < wx.heap.size → Calls Tryd.prog 22 #[fv f, .func (.func 32) #[] #[.pointer (some ⟨w.heap.size + 1, 0, none⟩), .pointer (some ⟨w.heap.size, 0, none⟩)]] wx fun e w' => e = .returned (.tuple #[]) ∧ Num W g f a d C B n β s x w.heap.size (fun k => M.mx n k) (B * C) w' :=
    fun wx h hs => through_any f C B _ _ _ wx hC hB c2 b8 (enters_of Tryd.func32 (by kernel_rfl) rfl) (fun k a b ha hb => ha.grow hb) (greatest_told _ _ hs hn c2 b8) h
  have h2 : Num W g f a d C B n β s x w.heap.size (fun k => M.mx n k) 0 ((w.alloc (.cells #[.pointer (some ⟨g, 0, none⟩)] 37)).alloc (.cells #[.int .i64 (-5)] 3)) :=
    ⟨h.grow ((bel1 _ _).alloc (bel1 _ _).size _), ⟨(Blk.new w _ _).alloc _, h.obj.lt⟩, by rw [← alloc_size w (.cells #[.pointer (some ⟨g, 0, none⟩)] 37)]; exact Blk.new _ _ _⟩
  have s2 : w.heap.size + 1 < ((w.alloc (.cells #[.pointer (some ⟨g, 0, none⟩)] 37)).alloc (.cells #[.int .i64 (-5)] 3)).heap.size := by simp
  replace hth := hth _ h2 s2
  have xs := obj_cells h2.shr.obj
  have x14 : ((w.alloc (.cells #[.pointer (some ⟨g, 0, none⟩)] 37)).alloc (.cells #[.int .i64 (-5)] 3)).cell? ⟨w.heap.size, 0, none⟩ = some (.pointer (some ⟨g, 0, none⟩)) := h2.box.1.cell rfl
  clear h h2 s2 hC hB hn c2 b8
  generalize hF : (fun k => M.mx n k) = F at *
  have HF : Hid (F (B * C) = M.mx n (B * C)) := by rw [← hF]; rfl
  clear hF
  generalize M.mx n (B * C) = z at *
  obtain ⟨c_, r_, h_, b_, k_, m_, j_, p_, l_, y_⟩ := f
  unfold fv at hth
  dsimp only at xs hth
  obtain ⟨x0, x1, x2, x3, x4, x5, x6, x7, x8, x9, x10, x11, x12, x13⟩ := xs
  go_enter Tryd.func26, Tryd.ntmps26
  go_wp2_with (first
    | (go_at_call 22; refine hth.mono ?_; clear hth; rintro e w4 ⟨rfl, h4⟩; have k4 : w4.cell? ⟨w.heap.size + 1, 0, none⟩ = some (.int .i64 (F (B * C))) := h4.num.cell rfl; have H4 : Hid _ := h4; clear h4))
  go_ret
  exact ⟨Form.ret_int HF.out, H4.out.shr⟩

theorem costs_told (H N : Nat) (hN : H + 1 < N) (hn : ∀ j, -5 ≤ n j ∧ n j ≤ 15) (c2 : C ≤ 2) (b8 : B ≤ 8) (s0 : -100 ≤ s ∧ s ≤ 100) :
    Told C B N 33 #[.pointer (some ⟨H, 0, none⟩), .pointer (some ⟨H + 1, 0, none⟩)] (Num W g f a d C B n β s x H (fun k => M.cst n k s)) := by
  intro c b w hc hb hNw hI
  have k0 : w.cell? ⟨H, 0, none⟩ = some (.pointer (some ⟨g, 0, none⟩)) := hI.box.1.cell rfl
  have k1 : w.cell? ⟨H + 1, 0, none⟩ = some (.int .i64 (M.cst n (b * C + c) s)) := hI.num.cell rfl
  have k5 := hI.num.free 0
  have k2 : w.cell? ⟨g, 10, none⟩ = some (.slice (some ⟨a, 0, none⟩) C C) := hI.shr.obj.cell rfl
  have k6 : w.cell? ⟨g, 12, none⟩ = some (.int .i64 s) := hI.shr.obj.cell rfl
  have k3 := hI.shr.nds.at_head hc
  have k4 := hI.shr.nds.at hc hb
  have HX : Hid (M.cst n (b * C + c + 1) s = M.cst n (b * C + c) s + M.c16 (n (b * C + c) - s)) := rfl
  have hcb := M.cst_bd n (b * C + c) s
  have hlt : b * C + c ≤ 1000 := by
    have h1 : b * C ≤ 8 * 2 := Nat.mul_le_mul (by omega) c2
    omega
  have hy := hn (b * C + c)
  have HI : Hid _ := hI
  have hc' : (c : Int) < C := by omega
  have hb' : (b : Int) < B := by omega
  have hC' : (C : Int) ≤ 2 := by omega
  have hB' : (B : Int) ≤ 8 := by omega
  have HNN : Hid (H + 1 < N) := hN
  have z0 : 0 ≤ M.cst n (b * C + c) s := hcb.1
  have z1 : M.cst n (b * C + c) s ≤ 2000 := by omega
  clear hI hN hNw hn hcb hlt
  generalize n (b * C + c) = y at *
  generalize M.cst n (b * C + c) s = z at *
  clear hc hb
  obtain ⟨s0, s1⟩ := s0
  obtain ⟨y0, y1⟩ := hy
  have same : Num W g f a d C B n β s x H (fun k => M.cst n k s) (b * C + c) w → M.c16 (y - s) = 0 → Num W g f a d C B n β s x H (fun k => M.cst n k s) (b * C + c + 1) w := by
    intro h e
    refine ⟨h.shr, h.box, ?_⟩
    have h1 := h.num
    have e1 : M.cst n (b * C + c) s = M.cst n (b * C + c + 1) s := by
      have e2 : Blk w (H + 1) #[.int .i64 z] 3 := by
        have := h.num
        unfold Bank.Blk at this ⊢
        have k := k1
        simp [World.cell?, this] at k
        rw [← k]; exact this
      have e3 := (h.num.same e2).1
      simp at e3
      rw [HX.out, e]; omega
    show Blk w (H + 1) #[.int .i64 (M.cst n (b * C + c + 1) s)] 3
    rw [← e1]; exact h1
  have HS : Hid _ := same
  clear same
  show Calls _ _ #[_, _, _, _] _ _
  rcases (by omega : y - s = 1 ∨ (2 ≤ y - s ∧ y - s < 16) ∨ (¬ y - s = 1 ∧ 2 ≤ y - s ∧ ¬ y - s < 16) ∨ (¬ y - s = 1 ∧ ¬ 2 ≤ y - s)) with h1 | ⟨h1, h2⟩ | ⟨h0, h1, h2⟩ | ⟨h0, h1⟩
  · have HE : Hid (M.c16 (y - s) = 2) := by show M.c16 (y - s) = 2; unfold M.c16; rw [if_pos h1]
    go_enter Tryd.func33, Tryd.ntmps33
    go_wp2
    go_quiet (fail)
    go_wp2
    go_end0
    exact ⟨rfl, (HI.out.drewN _).step (by show _ = M.cst n (b * C + c + 1) s; rw [HX.out, HE.out]), ((Stay.refl _ _).drewN _).set (by show H + 1 < N; exact HNN.out) _⟩
  · have h0 : (y - s == 1) = false := by simp; omega
    have HE : Hid (M.c16 (y - s) = 1) := by show M.c16 (y - s) = 1; unfold M.c16; rw [if_neg (by omega), if_pos (by omega)]
    go_enter Tryd.func33, Tryd.ntmps33
    go_wp2
    go_quiet (fail)
    go_wp2
    go_end0
    exact ⟨rfl, (HI.out.drewN _).step (by show _ = M.cst n (b * C + c + 1) s; rw [HX.out, HE.out]), ((Stay.refl _ _).drewN _).set (by show H + 1 < N; exact HNN.out) _⟩
  · have h0 : (y - s == 1) = false := by simp; omega
    have HE : Hid (M.c16 (y - s) = 0) := by show M.c16 (y - s) = 0; unfold M.c16; rw [if_neg (by omega), if_neg (by omega)]
    go_enter Tryd.func33, Tryd.ntmps33
    go_wp2
    go_quiet (fail)
    go_wp2
    go_end0
    exact ⟨rfl, (HS.out HI.out HE.out).drewN _, (Stay.refl _ _).drewN _⟩
  · have h0 : (y - s == 1) = false := by simp; omega
    have HE : Hid (M.c16 (y - s) = 0) := by show M.c16 (y - s) = 0; unfold M.c16; rw [if_neg (by omega), if_neg (by omega)]
    go_enter Tryd.func33, Tryd.ntmps33
    go_wp2
    go_quiet (fail)
    go_wp2
    go_end0
    exact ⟨rfl, (HS.out HI.out HE.out).drewN _, (Stay.refl _ _).drewN _⟩

theorem costs_any (w : World) (h : Shr W g f a d C B n β s x w) (hC : f.h = C) (hB : f.b = B) (hn : ∀ j, -5 ≤ n j ∧ n j ≤ 15) (c2 : C ≤ 2) (b8 : B ≤ 8) (s0 : -100 ≤ s ∧ s ≤ 100) :
    Calls Tryd.prog 27 #[.pointer (some ⟨g, 0, none⟩)] w fun e w' => e = .returned (.int .i64 (M.cst n (B * C) s)) ∧ Shr W g f a d C B n β s x w' := by
  have hth : ∀ (wx : World), Num W g f a d C B n β s x w.heap.size (fun k => M.cst n k s) 0 wx → w.heap.size + 1 < wx.heap.size → Calls Tryd.prog 22 #[fv f, .func (.func 33) #[] #[.pointer (some ⟨w.heap.size, 0, none⟩), .pointer (some ⟨w.heap.size + 1, 0, none⟩)]] wx fun e w' => e = .returned (.tuple #[]) ∧ Num W g f a d C B n β s x w.heap.size (fun k => M.cst n k s) (B * C) w' :=
    fun wx h hs => through_any f C B _ _ _ wx hC hB c2 b8 (enters_of Tryd.func33 (by kernel_rfl) rfl) (fun k a b ha hb => ha.grow hb) (costs_told _ _ hs hn c2 b8 s0) h
  have h2 : Num W g f a d C B n β s x w.heap.size (fun k => M.cst n k s) 0 ((w.alloc (.cells #[.pointer (some ⟨g, 0, none⟩)] 37)).alloc (.cells #[.int .i64 (0)] 3)) :=
    ⟨h.grow ((bel1 _ _).alloc (bel1 _ _).size _), ⟨(Blk.new w _ _).alloc _, h.obj.lt⟩, by rw [← alloc_size w (.cells #[.pointer (some ⟨g, 0, none⟩)] 37)]; exact Blk.new _ _ _⟩
  have s2 : w.heap.size + 1 < ((w.alloc (.cells #[.pointer (some ⟨g, 0, none⟩)] 37)).alloc (.cells #[.int .i64 (0)] 3)).heap.size := by simp
  replace hth := hth _ h2 s2
  have xs := obj_cells h2.shr.obj
  have x14 : ((w.alloc (.cells #[.pointer (some ⟨g, 0, none⟩)] 37)).alloc (.cells #[.int .i64 (0)] 3)).cell? ⟨w.heap.size, 0, none⟩ = some (.pointer (some ⟨g, 0, none⟩)) := h2.box.1.cell rfl
  clear h h2 s2 hC hB hn c2 b8
  generalize hF : (fun k => M.cst n k s) = F at *
  have HF : Hid (F (B * C) = M.cst n (B * C) s) := by rw [← hF]; rfl
  clear hF
  generalize M.cst n (B * C) s = z at *
  obtain ⟨c_, r_, h_, b_, k_, m_, j_, p_, l_, y_⟩ := f
  unfold fv at hth
  dsimp only at xs hth
  obtain ⟨x0, x1, x2, x3, x4, x5, x6, x7, x8, x9, x10, x11, x12, x13⟩ := xs
  go_enter Tryd.func27, Tryd.ntmps27
  go_wp2_with (first
    | (go_at_call 22; refine hth.mono ?_; clear hth; rintro e w4 ⟨rfl, h4⟩; have k4 : w4.cell? ⟨w.heap.size + 1, 0, none⟩ = some (.int .i64 (F (B * C))) := h4.num.cell rfl; have H4 : Hid _ := h4; clear h4))
  go_ret
  exact ⟨Form.ret_int HF.out, H4.out.shr⟩

end Alloc
end Go.Proofs.YthlpbekfjolenaaDoor
