/-
  Contracts of package alloc: what a slice has paid for is given, and what is left of the pool is filled in. Conditions: as told at each.
-/
import Derived.Test.YthlpbekfjolenaaDoorAllocObj
namespace Go.Proofs.YthlpbekfjolenaaDoor
set_option linter.unusedVariables false
open Go.RowKit
namespace Alloc
open Bank (Blk But)
open Poly (alloc_size enc cell_keep below_drew)
open _root_.Go.Proofs.YthlpbekfjolenaaDoor.Form (fv fc bel1 blk_below box_cells of_drew)
variable {W : World} {g : Nat} {f : M.Fmt} {a d C B : Nat} {n β : Nat → Int} {s x : Int} {w w' : World}

/-- a sharing whose bits turn, band by band -/
structure Giv (W : World) (g : Nat) (f : M.Fmt) (a d C B : Nat) (n : Nat → Int) (s : Int) (H : Nat) (β : Nat → Nat → Int) (X : Nat → Int) (k : Nat) (wr : World) : Prop where
  shr : Shr W g f a d C B n (β k) s (X k) wr
  box : Box g H wr
theorem Giv.grow {H k : Nat} {β : Nat → Nat → Int} {X : Nat → Int} (h : Giv W g f a d C B n s H β X k w) (hb : Below w.heap.size w w') : Giv W g f a d C B n s H β X k w' := ⟨h.shr.grow hb, ⟨blk_below hb h.box.1 h.box.1.lt, h.box.2⟩⟩
theorem Giv.drewN {H k : Nat} {β : Nat → Nat → Int} {X : Nat → Int} (h : Giv W g f a d C B n s H β X k w) (m : Nat) : Giv W g f a d C B n s H β X k (w.drewN m) := ⟨h.shr.drewN m, ⟨h.box.1.drewN m, h.box.2⟩⟩
/-- the bits of a band are set -/
theorem Giv.bits {H : Nat} {β : Nat → Nat → Int} {X : Nat → Int} {c b : Nat} (h : Giv W g f a d C B n s H β X (b * C + c) w) (hc : c < C) (hb : b < B) (hX : X (b * C + c + 1) = X (b * C + c)) {z : Int} (hz : z = β (b * C + c + 1) (b * C + c)) (ho : ∀ j, j ≠ b * C + c → β (b * C + c + 1) j = β (b * C + c) j) :
    Giv W g f a d C B n s H β X (b * C + c + 1) (w.setCell ⟨d + 1 + c, b, none⟩ (.int .i64 z)) := by
  have := h.shr.p2; have := h.box.2
  refine ⟨?_, ⟨h.box.1.set_ne (by show H ≠ d + 1 + c; omega) _, h.box.2⟩⟩
  rw [hX]; exact h.shr.give hc hb hz ho
/-- its bits and the sum are set -/
theorem Giv.both {H : Nat} {β : Nat → Nat → Int} {X : Nat → Int} {c b : Nat} (h : Giv W g f a d C B n s H β X (b * C + c) w) (hc : c < C) (hb : b < B) {y : Int} (hX : y = X (b * C + c + 1)) {z : Int} (hz : z = β (b * C + c + 1) (b * C + c)) (ho : ∀ j, j ≠ b * C + c → β (b * C + c + 1) j = β (b * C + c) j) :
    Giv W g f a d C B n s H β X (b * C + c + 1) ((w.setCell ⟨d + 1 + c, b, none⟩ (.int .i64 z)).setCell ⟨g, 13, none⟩ (.int .i64 y)) := by
  have := h.shr.p2; have := h.box.2
  refine ⟨?_, ⟨(h.box.1.set_ne (by show H ≠ d + 1 + c; omega) _).set_ne (by show H ≠ g; omega) _, h.box.2⟩⟩
  rw [← hX]; exact (h.shr.give hc hb hz ho).sum y
/-- nothing is set -/
theorem Giv.none {H : Nat} {β : Nat → Nat → Int} {X : Nat → Int} {k : Nat} (h : Giv W g f a d C B n s H β X k w) (hX : X (k + 1) = X k) (ho : ∀ j, β (k + 1) j = β k j) : Giv W g f a d C B n s H β X (k + 1) w := by
  refine ⟨?_, h.box⟩
  rw [hX]; exact h.shr.ext fun j _ => (ho j).symm

theorem give_told (H N : Nat) (hN : H < N) (hn : ∀ j, -5 ≤ n j ∧ n j ≤ 15) (c2 : C ≤ 2) (b8 : B ≤ 8) (s0 : -100 ≤ s ∧ s ≤ 100) :
    Told C B N 28 #[.pointer (some ⟨H, 0, none⟩)] (Giv W g f a d C B n s H (fun k j => if j < k then M.h16 (n j - s) else 0) (fun _ => x)) := by
  intro c b w hc hb hNw hI
  have k0 : w.cell? ⟨H, 0, none⟩ = some (.pointer (some ⟨g, 0, none⟩)) := hI.box.1.cell rfl
  have k2 : w.cell? ⟨g, 10, none⟩ = some (.slice (some ⟨a, 0, none⟩) C C) := hI.shr.obj.cell rfl
  have k6 : w.cell? ⟨g, 12, none⟩ = some (.int .i64 s) := hI.shr.obj.cell rfl
  have k7 : w.cell? ⟨g, 11, none⟩ = some (.slice (some ⟨d, 0, none⟩) C C) := hI.shr.obj.cell rfl
  have k3 := hI.shr.nds.at_head hc
  have k4 := hI.shr.nds.at hc hb
  have k8 := hI.shr.bts.at_head hc
  have k9 := hI.shr.bts.at hc hb
  have k10 := hI.shr.bts.free hc b
  rw [if_neg (by omega)] at k9
  have hy := hn (b * C + c)
  have HI : Hid _ := hI
  have hc' : (c : Int) < C := by omega
  have hb' : (b : Int) < B := by omega
  have hC' : (C : Int) ≤ 2 := by omega
  have hB' : (B : Int) ≤ 8 := by omega
  have HNN : Hid (d + 1 + c < N) := by
    show d + 1 + c < N
    have := hI.shr.p2; have := hI.box.2; omega
  have Hc : Hid (c < C) := hc
  have Hb : Hid (b < B) := hb
  have HO : Hid (∀ j, j ≠ b * C + c → (if j < b * C + c + 1 then M.h16 (n j - s) else 0) = if j < b * C + c then M.h16 (n j - s) else 0) := by
    intro j hj
    by_cases h1 : j < b * C + c
    · rw [if_pos (by omega), if_pos h1]
    · rw [if_neg (by omega), if_neg h1]
  have HZ : Hid ((if b * C + c < b * C + c + 1 then M.h16 (n (b * C + c) - s) else 0) = M.h16 (n (b * C + c) - s)) := if_pos (by omega)
  have HZ0 : Hid ((if b * C + c < b * C + c then M.h16 (n (b * C + c) - s) else 0) = 0) := if_neg (by omega)
  clear hI hN hNw hn hc hb
  obtain ⟨s0, s1⟩ := s0
  obtain ⟨y0, y1⟩ := hy
  obtain ⟨y, hY⟩ : ∃ y, n (b * C + c) = y := ⟨_, rfl⟩
  rw [hY] at k4 y0 y1
  have HY : Hid (n (b * C + c) = y) := hY
  clear hY
  show Calls _ _ #[_, _, _] _ _
  rcases (by omega : (2 ≤ y - s ∧ 16 < y - s) ∨ (2 ≤ y - s ∧ ¬ 16 < y - s) ∨ ¬ 2 ≤ y - s) with ⟨h1, h2⟩ | ⟨h1, h2⟩ | h1
  · have HE : Hid (M.h16 (y - s) = 16) := by show M.h16 (y - s) = 16; unfold M.h16; rw [if_neg (by omega), if_neg (by omega)]
    go_enter Tryd.func28, Tryd.ntmps28
    go_wp2
    go_quiet (fail)
    go_wp2
    go_end0
    exact ⟨rfl, (HI.out.drewN _).bits Hc.out Hb.out rfl (by show _ = if _ then _ else _; rw [HZ.out, HY.out, HE.out]) HO.out, ((Stay.refl _ _).drewN _).set (by show d + 1 + c < N; exact HNN.out) _⟩
  · have HE : Hid (M.h16 (y - s) = y - s) := by
      show M.h16 (y - s) = y - s
      unfold M.h16; rw [if_neg (by omega)]; split <;> omega
    go_enter Tryd.func28, Tryd.ntmps28
    go_wp2
    go_quiet (fail)
    go_wp2
    go_end0
    exact ⟨rfl, (HI.out.drewN _).bits Hc.out Hb.out rfl (by show _ = if _ then _ else _; rw [HZ.out, HY.out, HE.out]) HO.out, ((Stay.refl _ _).drewN _).set (by show d + 1 + c < N; exact HNN.out) _⟩
  · have HE : Hid (M.h16 (y - s) = 0) := by show M.h16 (y - s) = 0; unfold M.h16; rw [if_pos (by omega)]
    go_enter Tryd.func28, Tryd.ntmps28
    go_wp2
    go_quiet (fail)
    go_wp2
    go_end0
    refine ⟨rfl, (HI.out.drewN _).none rfl (fun j => ?_), (Stay.refl _ _).drewN _⟩
    by_cases hj : j = b * C + c
    · show (if _ then _ else _) = if _ then _ else _
      subst hj
      rw [HZ.out, HZ0.out, HY.out, HE.out]
    · exact HO.out j hj

theorem give_any (w : World) (h : Shr W g f a d C B n (fun _ => 0) s x w) (hC : f.h = C) (hB : f.b = B) (hn : ∀ j, -5 ≤ n j ∧ n j ≤ 15) (c2 : C ≤ 2) (b8 : B ≤ 8) (s0 : -100 ≤ s ∧ s ≤ 100) :
    Calls Tryd.prog 16 #[.pointer (some ⟨g, 0, none⟩)] w fun e w' => e = .returned (.tuple #[]) ∧ Shr W g f a d C B n (fun j => M.h16 (n j - s)) s x w' := by
  have h2 : Giv W g f a d C B n s w.heap.size (fun k j => if j < k then M.h16 (n j - s) else 0) (fun _ => x) 0 (w.alloc (.cells #[.pointer (some ⟨g, 0, none⟩)] 37)) :=
    ⟨(h.grow (bel1 _ _)).ext fun j _ => by rw [if_neg (by omega)], ⟨Blk.new w _ _, h.obj.lt⟩⟩
  have hth : Calls Tryd.prog 22 #[fv f, .func (.func 28) #[] #[.pointer (some ⟨w.heap.size, 0, none⟩)]] (w.alloc (.cells #[.pointer (some ⟨g, 0, none⟩)] 37)) fun e w' => e = .returned (.tuple #[]) ∧ Giv W g f a d C B n s w.heap.size (fun k j => if j < k then M.h16 (n j - s) else 0) (fun _ => x) (B * C) w' :=
    through_any f C B _ _ _ _ hC hB c2 b8 (enters_of Tryd.func28 (by kernel_rfl) rfl) (fun k a b ha hb => ha.grow hb) (give_told _ _ (by simp) hn c2 b8 s0) h2
  have xs := obj_cells h2.shr.obj
  have x14 : (w.alloc (.cells #[.pointer (some ⟨g, 0, none⟩)] 37)).cell? ⟨w.heap.size, 0, none⟩ = some (.pointer (some ⟨g, 0, none⟩)) := h2.box.1.cell rfl
  clear h h2 hC hB hn c2 b8 s0
  obtain ⟨c_, r_, h_, b_, k_, m_, j_, p_, l_, y_⟩ := f
  unfold fv at hth
  dsimp only at xs hth
  obtain ⟨x0, x1, x2, x3, x4, x5, x6, x7, x8, x9, x10, x11, x12, x13⟩ := xs
  go_enter Tryd.func16, Tryd.ntmps16
  go_wp2_with (go_at_call 22; refine hth.mono ?_; clear hth; rintro e w4 ⟨rfl, h4⟩; have H4 : Hid _ := h4; clear h4)
  go_end0
  exact ⟨rfl, H4.out.shr.ext fun j hj => if_pos hj⟩

end Alloc
end Go.Proofs.YthlpbekfjolenaaDoor
