import Derived.Test.YtcaifpjbjghhaaaGreatDoorSubA20
/-
  Contracts of package alloc: what is left of the pool is filled in, once through the bands. Conditions: as told at each.
-/
namespace Go.Proofs.YtcaifpjbjghhaaaGreatDoor
set_option linter.unusedVariables false
open Go.RowKit
namespace Alloc
open Bank (Blk But)
open Poly (alloc_size enc cell_keep below_drew)
open _root_.Go.Proofs.YtcaifpjbjghhaaaGreatDoor.Form (fv fc bel1 blk_below box_cells of_drew)
variable {W : World} {g : Nat} {f : M.Fmt} {a d C B : Nat} {n β : Nat → Int} {s x : Int} {w w' : World}

/-- a sharing whose bits turn, and the box that tells whether bands may begin -/
structure Fil (W : World) (g : Nat) (f : M.Fmt) (a d C B : Nat) (n : Nat → Int) (s : Int) (H : Nat) (bg : Bool) (β : Nat → Nat → Int) (X : Nat → Int) (k : Nat) (wr : World) : Prop where
  giv : Giv W g f a d C B n s H β X k wr
  beg : Blk wr (H + 1) #[.bool bg] 4
theorem Fil.grow {H k : Nat} {bg : Bool} {β : Nat → Nat → Int} {X : Nat → Int} (h : Fil W g f a d C B n s H bg β X k w) (hb : Below w.heap.size w w') : Fil W g f a d C B n s H bg β X k w' := ⟨h.giv.grow hb, blk_below hb h.beg h.beg.lt⟩
theorem Fil.drewN {H k : Nat} {bg : Bool} {β : Nat → Nat → Int} {X : Nat → Int} (h : Fil W g f a d C B n s H bg β X k w) (m : Nat) : Fil W g f a d C B n s H bg β X k (w.drewN m) := ⟨h.giv.drewN m, h.beg.drewN m⟩
theorem Fil.both {H : Nat} {bg : Bool} {β : Nat → Nat → Int} {X : Nat → Int} {c b : Nat} (h : Fil W g f a d C B n s H bg β X (b * C + c) w) (hc : c < C) (hb : b < B) {y : Int} (hX : y = X (b * C + c + 1)) {z : Int} (hz : z = β (b * C + c + 1) (b * C + c)) (ho : ∀ j, j ≠ b * C + c → β (b * C + c + 1) j = β (b * C + c) j) :
    Fil W g f a d C B n s H bg β X (b * C + c + 1) ((w.setCell ⟨d + 1 + c, b, none⟩ (.int .i64 z)).setCell ⟨g, 13, none⟩ (.int .i64 y)) := by
  have := h.giv.shr.p2; have := h.giv.box.2
  exact ⟨h.giv.both hc hb hX hz ho, (h.beg.set_ne (by show H + 1 ≠ d + 1 + c; omega) _).set_ne (by show H + 1 ≠ g; omega) _⟩
theorem Fil.none {H : Nat} {bg : Bool} {β : Nat → Nat → Int} {X : Nat → Int} {k : Nat} (h : Fil W g f a d C B n s H bg β X k w) (hX : X (k + 1) = X k) (ho : ∀ j, β (k + 1) j = β k j) : Fil W g f a d C B n s H bg β X (k + 1) w := ⟨h.giv.none hX ho, h.beg⟩

set_option maxHeartbeats 4000000 in
theorem fill_told (H N : Nat) (hN : H < N) (bg : Bool) (hn : ∀ j, -5 ≤ n j ∧ n j ≤ 15) (hβ : ∀ j, 0 ≤ β j ∧ β j ≤ 16) (hx : 0 ≤ x ∧ x ≤ f.p) (hp : f.p ≤ 10000) (c2 : C ≤ 2) (b8 : B ≤ 8) (s0 : -100 ≤ s ∧ s ≤ 100) :
    Told C B N 207 #[.pointer (some ⟨H, 0, none⟩), .pointer (some ⟨H + 1, 0, none⟩)] (Fil W g f a d C B n s H bg (fun k => M.bts bg n s f.p β x k) (fun k => M.sg bg n s f.p β x k)) := by
  intro c b w hc hb hNw hI
  have k0 : w.cell? ⟨H, 0, none⟩ = some (.pointer (some ⟨g, 0, none⟩)) := hI.giv.box.1.cell rfl
  have k1 : w.cell? ⟨H + 1, 0, none⟩ = some (.bool bg) := hI.beg.cell rfl
  have k2 : w.cell? ⟨g, 10, none⟩ = some (.slice (some ⟨a, 0, none⟩) C C) := hI.giv.shr.obj.cell rfl
  have k6 : w.cell? ⟨g, 12, none⟩ = some (.int .i64 s) := hI.giv.shr.obj.cell rfl
  have k7 : w.cell? ⟨g, 11, none⟩ = some (.slice (some ⟨d, 0, none⟩) C C) := hI.giv.shr.obj.cell rfl
  have k11 : w.cell? ⟨g, 7, none⟩ = some (.int .i64 f.p) := hI.giv.shr.obj.cell rfl
  have k12 : w.cell? ⟨g, 13, none⟩ = some (.int .i64 (M.sg bg n s f.p β x (b * C + c))) := hI.giv.shr.obj.cell rfl
  have k13 := hI.giv.shr.obj.free 13
  have k3 := hI.giv.shr.nds.at_head hc
  have k4 := hI.giv.shr.nds.at hc hb
  have k8 := hI.giv.shr.bts.at_head hc
  have k9 := hI.giv.shr.bts.at hc hb
  have k10 := hI.giv.shr.bts.free hc b
  have hy := hn (b * C + c)
  have hz := hβ (b * C + c)
  have hv := M.sg_bd bg n s f.p β x hx (b * C + c)
  have hne : ¬ d + 1 + c = g := by have := hI.giv.shr.p2; omega
  have hne2 : ¬ d + 1 + c = H := by have := hI.giv.shr.p2; have := hI.giv.box.2; omega
  have HI : Hid _ := hI
  have hc' : (c : Int) < C := by omega
  have hb' : (b : Int) < B := by omega
  have hC' : (C : Int) ≤ 2 := by omega
  have hB' : (B : Int) ≤ 8 := by omega
  have HS : Hid (∀ (m : Nat) (u v : Value), Stay N w (((w.drewN m).setCell ⟨d + 1 + c, b, none⟩ u).setCell ⟨g, 13, none⟩ v)) := by
    intro m u v
    have := hI.giv.shr.p2; have := hI.giv.box.2
    exact (((Stay.refl _ _).drewN _).set (by show d + 1 + c < N; omega) _).set (by show g < N; omega) _
  have HO : Hid (∀ (m : Nat) (u y' : Int), M.bt1 bg (n (b * C + c)) s f.p (M.sg bg n s f.p β x (b * C + c)) (β (b * C + c)) = u → M.sg1 bg (n (b * C + c)) s f.p (M.sg bg n s f.p β x (b * C + c)) (β (b * C + c)) = y' →
      Fil W g f a d C B n s H bg (fun k => M.bts bg n s f.p β x k) (fun k => M.sg bg n s f.p β x k) (b * C + c + 1) (((w.drewN m).setCell ⟨d + 1 + c, b, none⟩ (.int .i64 u)).setCell ⟨g, 13, none⟩ (.int .i64 y'))) := by
    intro m u y' h1 h2
    exact (hI.drewN m).both hc hb h2.symm (by show u = M.bts _ _ _ _ _ _ _ _; rw [M.bts_new, h1]) fun j hj => M.bts_old bg n s f.p β x hj
  have HZ : Hid (∀ (m : Nat), M.bt1 bg (n (b * C + c)) s f.p (M.sg bg n s f.p β x (b * C + c)) (β (b * C + c)) = β (b * C + c) → M.sg1 bg (n (b * C + c)) s f.p (M.sg bg n s f.p β x (b * C + c)) (β (b * C + c)) = M.sg bg n s f.p β x (b * C + c) →
      Fil W g f a d C B n s H bg (fun k => M.bts bg n s f.p β x k) (fun k => M.sg bg n s f.p β x k) (b * C + c + 1) (w.drewN m)) := by
    intro m h1 h2
    refine (hI.drewN m).none h2 fun j => ?_
    show M.bts _ _ _ _ _ _ _ _ = M.bts _ _ _ _ _ _ _ _
    by_cases hj : j = b * C + c
    · subst hj; rw [M.bts_new, M.bts_self, h1]
    · exact M.bts_old bg n s f.p β x hj
  have HZ2 : Hid (∀ (m m' : Nat), M.bt1 bg (n (b * C + c)) s f.p (M.sg bg n s f.p β x (b * C + c)) (β (b * C + c)) = β (b * C + c) → M.sg1 bg (n (b * C + c)) s f.p (M.sg bg n s f.p β x (b * C + c)) (β (b * C + c)) = M.sg bg n s f.p β x (b * C + c) →
      Fil W g f a d C B n s H bg (fun k => M.bts bg n s f.p β x k) (fun k => M.sg bg n s f.p β x k) (b * C + c + 1) ((w.drewN m).drewN m')) := fun m m' h1 h2 => (HZ.out m h1 h2).drewN m'
  rw [M.bts_self] at k9
  clear hI hN hNw hn hc hb hβ hx HI
  obtain ⟨I, hI⟩ : ∃ I, Fil W g f a d C B n s H bg (fun k => M.bts bg n s f.p β x k) (fun k => M.sg bg n s f.p β x k) (b * C + c + 1) = I := ⟨_, rfl⟩
  rw [hI] at HO HZ HZ2 ⊢
  clear hI
  generalize M.sg bg n s f.p β x (b * C + c) = v at *
  generalize n (b * C + c) = y at *
  generalize β (b * C + c) = z at *
  generalize f.p = p at *
  obtain ⟨s0, s1⟩ := s0
  obtain ⟨y0, y1⟩ := hy
  obtain ⟨z0, z1⟩ := hz
  obtain ⟨v0, v1⟩ := hv
  show Calls _ _ #[_, _, _, _] _ _
  rcases (by omega : p - v ≤ 0 ∨ (¬ p - v ≤ 0 ∧ 2 ≤ z ∧ z < 16) ∨ ¬ p - v ≤ 0 ∧ ¬ (2 ≤ z ∧ z < 16)) with h1 | ⟨h1, h2, h3⟩ | ⟨h1, h2⟩
  · have HE : Hid (M.bt1 bg y s p v z = z ∧ M.sg1 bg y s p v z = v) := ⟨if_pos h1, if_pos h1⟩
    go_enter Tryz.func207, Tryz.ntmps207
    go_wp2
    go_quiet (fail)
    go_wp2
    go_end0
    exact ⟨rfl, HZ.out _ HE.out.1 HE.out.2, (Stay.refl _ _).drewN _⟩
  · have HE : Hid (M.bt1 bg y s p v z = z + 1 ∧ M.sg1 bg y s p v z = v + 1) := by
      show _ ∧ _
      unfold M.bt1 M.sg1
      rw [if_neg h1, if_pos ⟨h2, h3⟩, if_neg h1, if_pos ⟨h2, h3⟩]; exact ⟨rfl, rfl⟩
    go_enter Tryz.func207, Tryz.ntmps207
    go_wp2
    go_quiet (fail)
    go_wp2
    go_end0
    exact ⟨rfl, HO.out _ _ _ HE.out.1 HE.out.2, HS.out _ _ _⟩
  · rcases (by omega : (y = s + 1 ∧ 2 ≤ p - v) ∨ (y = s + 1 ∧ ¬ 2 ≤ p - v) ∨ ¬ y = s + 1) with ⟨h3, h4⟩ | ⟨h3, h4⟩ | h3
    · cases bg
      · have HE : Hid (M.bt1 false y s p v z = z ∧ M.sg1 false y s p v z = v) := by
          show _ ∧ _
          unfold M.bt1 M.sg1
          rw [if_neg h1, if_neg h2, if_neg (by simp), if_neg h1, if_neg h2, if_neg (by simp)]; exact ⟨rfl, rfl⟩
        clear h3 h4
        rcases (by omega : (2 ≤ z ∧ ¬ z < 16) ∨ ¬ 2 ≤ z) with ⟨h5, h6⟩ | h5
        all_goals (
          clear h2
          go_enter Tryz.func207, Tryz.ntmps207
          go_wp2
          go_quiet (fail)
          go_wp2
          go_quiet (fail)
          go_wp2
          go_end0
          first | exact ⟨rfl, HZ2.out _ _ HE.out.1 HE.out.2, ((Stay.refl _ _).drewN _).drewN _⟩ | exact ⟨rfl, HZ.out _ HE.out.1 HE.out.2, (Stay.refl _ _).drewN _⟩)
      · have HE : Hid (M.bt1 true y s p v z = 2 ∧ M.sg1 true y s p v z = v + 2) := by
          show _ ∧ _
          unfold M.bt1 M.sg1
          rw [if_neg h1, if_neg h2, if_pos ⟨rfl, h3, h4⟩, if_neg h1, if_neg h2, if_pos ⟨rfl, h3, h4⟩]; exact ⟨rfl, rfl⟩
        have h7 : (y == s + 1) = true := by simp [h3]
        clear h3
        rcases (by omega : (2 ≤ z ∧ ¬ z < 16) ∨ ¬ 2 ≤ z) with ⟨h5, h6⟩ | h5
        all_goals (
          clear h2
          go_enter Tryz.func207, Tryz.ntmps207
          go_wp2
          go_quiet (fail)
          go_wp2
          go_quiet (fail)
          go_wp2
          go_end0
          exact ⟨rfl, HO.out _ _ _ HE.out.1 HE.out.2, HS.out _ _ _⟩)
    · have HE : Hid (M.bt1 bg y s p v z = z ∧ M.sg1 bg y s p v z = v) := by
        show _ ∧ _
        unfold M.bt1 M.sg1
        rw [if_neg h1, if_neg h2, if_neg (by omega), if_neg h1, if_neg h2, if_neg (by omega)]; exact ⟨rfl, rfl⟩
      have h7 : (y == s + 1) = true := by simp [h3]
      clear h3
      rcases (by omega : (2 ≤ z ∧ ¬ z < 16) ∨ ¬ 2 ≤ z) with ⟨h5, h6⟩ | h5
      all_goals (
        clear h2
        cases bg
        all_goals (
          go_enter Tryz.func207, Tryz.ntmps207
          go_wp2
          go_quiet (fail)
          go_wp2
          go_quiet (fail)
          go_wp2
          go_end0
          first | exact ⟨rfl, HZ2.out _ _ HE.out.1 HE.out.2, ((Stay.refl _ _).drewN _).drewN _⟩ | exact ⟨rfl, HZ.out _ HE.out.1 HE.out.2, (Stay.refl _ _).drewN _⟩))
    · have HE : Hid (M.bt1 bg y s p v z = z ∧ M.sg1 bg y s p v z = v) := by
        show _ ∧ _
        unfold M.bt1 M.sg1
        rw [if_neg h1, if_neg h2, if_neg (by omega), if_neg h1, if_neg h2, if_neg (by omega)]; exact ⟨rfl, rfl⟩
      have h7 : (y == s + 1) = false := by simp [h3]
      rcases (by omega : (2 ≤ z ∧ ¬ z < 16) ∨ ¬ 2 ≤ z) with ⟨h5, h6⟩ | h5
      all_goals (
        clear h2
        cases bg
        all_goals (
          go_enter Tryz.func207, Tryz.ntmps207
          go_wp2
          go_quiet (fail)
          go_wp2
          go_quiet (fail)
          go_wp2
          go_end0
          first | exact ⟨rfl, HZ2.out _ _ HE.out.1 HE.out.2, ((Stay.refl _ _).drewN _).drewN _⟩ | exact ⟨rfl, HZ.out _ HE.out.1 HE.out.2, (Stay.refl _ _).drewN _⟩))

end Alloc
end Go.Proofs.YtcaifpjbjghhaaaGreatDoor

/-
  Contracts of package alloc: a go through the bands with what is left, and the fall of the slice. Conditions: as told at each.
-/
namespace Go.Proofs.YtcaifpjbjghhaaaGreatDoor
set_option linter.unusedVariables false
open Go.RowKit
namespace Alloc
open Bank (Blk But)
open Poly (alloc_size enc cell_keep below_drew)
open _root_.Go.Proofs.YtcaifpjbjghhaaaGreatDoor.Form (fv fc bel1 blk_below box_cells of_drew)
variable {W : World} {g : Nat} {f : M.Fmt} {a d C B : Nat} {n β : Nat → Int} {s x : Int} {w w' : World}

theorem fill_any (w : World) (bg : Bool) (h : Shr W g f a d C B n β s x w) (hC : f.h = C) (hB : f.b = B) (hn : ∀ j, -5 ≤ n j ∧ n j ≤ 15) (hβ : ∀ j, 0 ≤ β j ∧ β j ≤ 16) (hx : 0 ≤ x ∧ x ≤ f.p) (hp : f.p ≤ 10000) (c2 : C ≤ 2) (b8 : B ≤ 8) (s0 : -100 ≤ s ∧ s ≤ 100) :
    Calls Tryz.prog 165 #[.pointer (some ⟨g, 0, none⟩), .bool bg] w fun e w' => e = .returned (.tuple #[]) ∧ Shr W g f a d C B n (fun j => M.bts bg n s f.p β x (B * C) j) s (M.sg bg n s f.p β x (B * C)) w' := by
  have h2 : Fil W g f a d C B n s w.heap.size bg (fun k => M.bts bg n s f.p β x k) (fun k => M.sg bg n s f.p β x k) 0 ((w.alloc (.cells #[.pointer (some ⟨g, 0, none⟩)] 265)).alloc (.cells #[.bool bg] 4)) :=
    ⟨⟨(h.grow ((bel1 _ _).alloc (bel1 _ _).size _)).ext fun j _ => (M.bts_zero bg n s f.p β x j).symm, ⟨(Blk.new w _ _).alloc _, h.obj.lt⟩⟩, by rw [← alloc_size w (.cells #[.pointer (some ⟨g, 0, none⟩)] 265)]; exact Blk.new _ _ _⟩
  have hth : Calls Tryz.prog 200 #[fv f, .func (.func 207) #[] #[.pointer (some ⟨w.heap.size, 0, none⟩), .pointer (some ⟨w.heap.size + 1, 0, none⟩)]] ((w.alloc (.cells #[.pointer (some ⟨g, 0, none⟩)] 265)).alloc (.cells #[.bool bg] 4)) fun e w' => e = .returned (.tuple #[]) ∧ Fil W g f a d C B n s w.heap.size bg (fun k => M.bts bg n s f.p β x k) (fun k => M.sg bg n s f.p β x k) (B * C) w' :=
    through_any f C B _ _ _ _ hC hB c2 b8 (enters_of Tryz.func207 (by kernel_rfl) rfl) (fun k a b ha hb => ha.grow hb) (fill_told _ _ (by simp; omega) bg hn hβ hx hp c2 b8 s0) h2
  have xs := obj_cells h2.giv.shr.obj
  have x14 : ((w.alloc (.cells #[.pointer (some ⟨g, 0, none⟩)] 265)).alloc (.cells #[.bool bg] 4)).cell? ⟨w.heap.size, 0, none⟩ = some (.pointer (some ⟨g, 0, none⟩)) := h2.giv.box.1.cell rfl
  clear h h2 hC hB hn hβ c2 b8 s0 hx hp
  generalize hF : (fun k => M.bts bg n s f.p β x k) = F at *
  generalize hG : (fun k => M.sg bg n s f.p β x k) = G at *
  have HR : Hid (∀ w, Fil W g f a d C B n s w.heap.size bg F G (B * C) w → True) := fun _ _ => trivial
  obtain ⟨H, hH⟩ : ∃ H, H = w.heap.size := ⟨_, rfl⟩
  have HF : Hid (∀ w4 : World, Fil W g f a d C B n s w.heap.size bg F G (B * C) w4 → Shr W g f a d C B n (fun j => M.bts bg n s f.p β x (B * C) j) s (M.sg bg n s f.p β x (B * C)) w4) := by
    intro w4 h4
    have := h4.giv.shr
    rw [← hF, ← hG] at this
    exact this
  clear hF hG hH H HR
  generalize (fun j => M.bts bg n s f.p β x (B * C) j) = β' at *
  generalize M.sg bg n s f.p β x (B * C) = x' at *
  obtain ⟨c_, r_, h_, b_, k_, m_, j_, p_, l_, y_⟩ := f
  unfold fv at hth
  dsimp only at xs hth
  obtain ⟨x0, x1, x2, x3, x4, x5, x6, x7, x8, x9, x10, x11, x12, x13⟩ := xs
  go_enter Tryz.func165, Tryz.ntmps165
  go_wp2_with (go_at_call 200; refine hth.mono ?_; clear hth; rintro e w4 ⟨rfl, h4⟩; have H4 : Hid _ := h4; clear h4)
  go_end0
  exact ⟨rfl, HF.out _ H4.out⟩

set_option maxHeartbeats 2000000 in
theorem fall_any (w : World) {p sl : Int} {N : Nat} (h : Shr W g f a d C B n β 0 0 w) (hC : f.h = C) (hB : f.b = B) (hN : B * C = N) (hn : ∀ j, -5 ≤ n j ∧ n j ≤ 15) (c2 : C ≤ 2) (b8 : B ≤ 8) (hp : f.p = p) (p0 : 0 < p) (p1 : p ≤ 10000) (hl : M.lst n N p sl) (hs : -21 < sl) :
    Calls Tryz.prog 163 #[.pointer (some ⟨g, 0, none⟩)] w fun e w' => e = .returned (.tuple #[]) ∧ Shr W g f a d C B n β (M.fin n N p sl) (M.x0 n N p sl) w' := by
  have HG : Hid (∀ wx, Shr W g f a d C B n β 0 0 wx → Calls Tryz.prog 204 #[.pointer (some ⟨g, 0, none⟩)] wx fun e w' => e = .returned (.int .i64 (M.mx n N)) ∧ Shr W g f a d C B n β 0 0 w') := fun wx h => hN ▸ greatest_any wx h hC hB hn c2 b8
  have HC : Hid (∀ t x wx, Shr W g f a d C B n β t x wx → -100 ≤ t ∧ t ≤ 100 → Calls Tryz.prog 205 #[.pointer (some ⟨g, 0, none⟩)] wx fun e w' => e = .returned (.int .i64 (M.cst n N t)) ∧ Shr W g f a d C B n β t x w') := fun t x wx h ht => hN ▸ costs_any wx h hC hB hn c2 b8 ht
  have mb := M.mx_bd n N (fun j _ => (hn j).2)
  have HT : Hid (M.tot n N (M.mx n N + 1) = 0) := M.mx_top n N _ (by omega)
  have N16 : N ≤ 16 := by
    have : B * C ≤ 8 * 2 := Nat.mul_le_mul b8 c2
    omega
  have HTT : Hid (∀ t, M.tot n N (t - 1) = M.tot n N t + M.cst n N t ∧ 0 ≤ M.cst n N t ∧ M.cst n N t ≤ 32 ∧ 0 ≤ M.tot n N t) := fun t => ⟨M.tot_pred n N t, (M.cst_bd n N t).1, by have := (M.cst_bd n N t).2; omega, (M.tot_bd n N t).1⟩
  have HL : Hid (M.lst n N p sl) := hl
  have H : Hid _ := h
  have y1 := h.obj.free 12
  have y2 : w.cell? ⟨g, 12, none⟩ = some (.int .i64 0) := h.obj.cell rfl
  clear h hC hB hN hn c2 b8 N16 hl
  obtain ⟨z0, z1⟩ := mb
  generalize hz : M.mx n N = z at *
  clear hz
  go_enter Tryz.func163, Tryz.ntmps163
  go_wp2_with (first
    | (go_at_call 204; refine (HG.out _ H.out).mono ?_; clear HG H y1 y2; rintro e w2 ⟨rfl, h2⟩; have y1 := h2.obj.free 12; have y2 : w2.cell? ⟨g, 12, none⟩ = some (.int .i64 0) := h2.obj.cell rfl; have H2 : Hid _ := h2; clear h2)
    | (go_at_call 205; refine (HC.out _ _ _ (H2.out.slice _) ⟨by omega, by omega⟩).mono ?_; clear y1 y2 H2; rintro e w3 ⟨rfl, h3⟩; have H3 : Hid _ := h3; clear h3))
  go_loopw [2] (fun i wr => ∃ t : Int, i = .int .i64 (M.cst n N t) ∧ M.tot n N t < p ∧ -21 < t ∧ t ≤ 16 ∧ Shr W g f a d C B n β t (M.tot n N t) wr) (fun _ wr => ((wr.cell? ⟨g, 12, none⟩).elim 0 intOf + 21).toNat)
  case atStart => exact ⟨z + 1, rfl, by rw [HT.out]; exact p0, by omega, by omega, by rw [HT.out]; exact H3.out⟩
  case round =>
    clear H3 HT
    obtain ⟨t, rfl, ht, t0, t1, hs⟩ := hrel
    obtain ⟨e1, K0, K1, T0⟩ := HTT.out t
    have x7 : wr.cell? ⟨g, 7, none⟩ = some (.int .i64 p) := by rw [← hp]; exact hs.obj.cell rfl
    have x12 : wr.cell? ⟨g, 12, none⟩ = some (.int .i64 t) := hs.obj.cell rfl
    have x13 : wr.cell? ⟨g, 13, none⟩ = some (.int .i64 (M.tot n N t)) := hs.obj.cell rfl
    have f12 := hs.obj.free 12
    have f13 := hs.obj.free 13
    have HS : Hid _ := hs
    have HE : Hid (M.tot n N (t - 1) = M.tot n N t + M.cst n N t) := e1
    have Hp : Hid (f.p = p) := hp
    clear hs e1 hp
    by_cases hlt : M.tot n N t + M.cst n N t < p
    · have hst := M.lst_lt HL.out (by rw [HE.out]; exact hlt)
      generalize M.tot n N t = T at *
      generalize M.cst n N t = K at *
      go_wp2
      go_quiet (fail)
      go_wp2_with (go_at_call 205; refine (HC.out (t - 1) (T + K) _ (((HS.out.drewN _).sum _).slice _) ⟨by omega, by omega⟩).mono ?_; rintro e w3 ⟨rfl, h3⟩; have z12 : w3.cell? ⟨g, 12, none⟩ = some (.int .i64 (t - 1)) := h3.obj.cell rfl; have H3 : Hid _ := h3; clear h3)
      go_roundw
      case rel => exact ⟨t - 1, rfl, by rw [HE.out]; exact hlt, by omega, by omega, by rw [HE.out]; exact H3.out⟩
      case measure => simp [x12, z12, intOf]; omega
    · have hst : t = sl := M.lst_one ⟨ht, by rw [HE.out]; omega⟩ HL.out
      have HF : Hid (M.fin n N p sl = (if M.tot n N (t - 1) = p then t - 1 else t) ∧ M.x0 n N p sl = M.tot n N (if M.tot n N (t - 1) = p then t - 1 else t)) := by
        show _ ∧ _
        unfold M.x0 M.fin; rw [hst]; exact ⟨rfl, rfl⟩
      clear hst
      by_cases he : M.tot n N t + M.cst n N t = p
      · have HF2 : Hid (M.fin n N p sl = t - 1 ∧ M.x0 n N p sl = p) := by
          rw [← HE.out] at he
          show _ ∧ _
          rw [HF.out.1, HF.out.2, if_pos he]; exact ⟨rfl, he⟩
        clear HF
        generalize M.tot n N t = T at *
        generalize M.cst n N t = K at *
        go_wp2
        go_quiet (fail)
        go_wp2
        go_quiet (fail)
        go_wp2
        go_end0
        exact ⟨rfl, by rw [HF2.out.1, HF2.out.2]; exact ((HS.out.drewN _).sum _).slice _⟩
      · have HF2 : Hid (M.fin n N p sl = t ∧ M.x0 n N p sl = M.tot n N t) := by
          rw [← HE.out] at he
          show _ ∧ _
          rw [HF.out.1, HF.out.2, if_neg he]; exact ⟨rfl, rfl⟩
        clear HF
        generalize M.tot n N t = T at *
        generalize M.cst n N t = K at *
        have he' : (T + K == p) = false := by simp [he]
        go_wp2
        go_quiet (fail)
        go_wp2
        go_quiet (fail)
        go_wp2
        go_end0
        exact ⟨rfl, by rw [HF2.out.1, HF2.out.2]; exact (HS.out.drewN _).drewN _⟩

end Alloc
end Go.Proofs.YtcaifpjbjghhaaaGreatDoor

/-
  Contracts of package alloc: what is refused. Conditions: as told at each.
-/
namespace Go.Proofs.YtcaifpjbjghhaaaGreatDoor
set_option linter.unusedVariables false
open Go.RowKit
namespace Alloc
open Bank (Blk But)
open Poly (alloc_size enc cell_keep below_drew)
open _root_.Go.Proofs.YtcaifpjbjghhaaaGreatDoor.Form (fv fc bel1 blk_below box_cells of_drew box_behind)

/-- an answer 0 if P holds, else 1 -/
def Okz (P : Prop) (w : World) (e : Ending) (w' : World) : Prop := Below w.heap.size w w' ∧ ((e = .returned (.int .i64 0) ∧ P) ∨ (e = .returned (.int .i64 1) ∧ ¬ P))
theorem okS_F {f : M.Fmt} (hc : f.c = 1) : M.okF f ↔ M.okS f := ⟨fun h => h.resolve_right fun h => by have := h.1; omega, .inl⟩

theorem refuse_form (f : M.Fmt) (vs : Value) (w : World) (h : ¬ M.okS f) : Calls Tryz.prog 160 #[fv f, vs] w fun e w' => e = .returned (.int .i64 110) ∧ Below w.heap.size w w' := by
  by_cases hc : f.c = 1
  · have hch := fun wx => Form.Check_no f wx (fun h' => h ((okS_F hc).1 h'))
    clear h
    obtain ⟨c_, r_, h_, b_, k_, m_, j_, p_, l_, y_⟩ := f
    obtain rfl : c_ = 1 := hc
    unfold fv at hch ⊢
    dsimp only at hch ⊢
    go_enter Tryz.func160, Tryz.ntmps160
    go_wp2_with (go_at_call 100; refine (hch _).mono ?_; clear hch; rintro e w2 ⟨rfl, b2⟩; have B2 : Hid _ := b2; clear b2)
    go_ret
    exact ⟨rfl, (box_behind (f := ⟨1, r_, h_, b_, k_, m_, j_, p_, l_, y_⟩) B2.out).2⟩
  · clear h
    obtain ⟨c_, r_, h_, b_, k_, m_, j_, p_, l_, y_⟩ := f
    replace hc : ¬ c_ = 1 := hc
    unfold fv
    dsimp only
    go_enter Tryz.func160, Tryz.ntmps160
    go_wp2
    go_ret
    exact ⟨rfl, bel1 _ _⟩

set_option maxHeartbeats 1000000 in
theorem refuse_rest (f : M.Fmt) (vs : Value) (zss : List (List Int)) (C B : Nat) (w : World) (h : M.okS f) (hC : f.h = C) (hB : f.b = B) (hZ : Poly.Rows .i64 0 w.heap.size w vs zss) :
    Calls Tryz.prog 160 #[fv f, vs] w fun e w' => Okz (zss.length = C ∧ M.okZ B zss) w e w' := by
  have hch := fun wx => Form.Check_ok f wx (.inl h)
  have c0 : 1 ≤ C ∧ C ≤ 2 := by have := h.2.2.1; omega
  have b0 : 4 ≤ B ∧ B ≤ 8 := by have := h.2.2.2.1; omega
  have hc : f.c = 1 := h.1
  clear h
  obtain ⟨ax, cx, rfl, lx⟩ := hZ.form
  have HZ : Hid _ := hZ
  clear hZ
  obtain ⟨c_, r_, h_, b_, k_, m_, j_, p_, l_, y_⟩ := f
  obtain rfl : c_ = 1 := hc
  obtain rfl : h_ = C := hC
  obtain rfl : b_ = B := hB
  unfold fv at hch ⊢
  dsimp only at hch ⊢

  have HCh : Hid _ := hch
  clear hch
  by_cases hl : zss.length = C
  · have hl' : (zss.length : Int) = C := by omega
    obtain ⟨b1, o1, rfl, _, l1, hx⟩ := Poly.Rows.cell HZ.out (by omega)
    rw [hl] at hx
    obtain ⟨P, hP⟩ : ∃ P, (zss.length = C ∧ M.okZ B zss) = P := ⟨_, rfl⟩
    rw [hP, hl]
    have HP : Hid (P ↔ zss.length = C ∧ M.okZ B zss) := by show P ↔ _; rw [hP]
    clear hP
    have HX : Hid _ := hx
    clear hx HZ hl'
    have HL : Hid (zss.length = C ∧ b1 < w.heap.size) := ⟨hl, l1⟩
    clear hl l1
    have hC1 : (1 : Int) ≤ C := by omega
    have hC2 : (C : Int) ≤ 2 := by omega
    have hB2 : (B : Int) ≤ 8 := by omega
    have hB1 : (4 : Int) ≤ B := by omega
    go_enter Tryz.func160, Tryz.ntmps160
    go_wp2_with (go_at_call 100; refine (HCh.out _).mono ?_; clear HCh; rintro e w2 ⟨rfl, b2⟩; have x2 : w2.cell? ⟨w.heap.size, 2, none⟩ = some (.int .i64 (C : Int)) := (box_cells (box_behind (f := ⟨1, r_, C, B, k_, m_, j_, p_, l_, y_⟩) b2).1).2.2.1; have x3 : w2.cell? ⟨w.heap.size, 3, none⟩ = some (.int .i64 (B : Int)) := (box_cells (box_behind (f := ⟨1, r_, C, B, k_, m_, j_, p_, l_, y_⟩) b2).1).2.2.2.1; have B2 : Hid (Below w.heap.size w w2) := (box_behind (f := ⟨1, r_, C, B, k_, m_, j_, p_, l_, y_⟩) b2).2; clear b2)
    go_loopw [24] (fun i wr => ∃ q : Nat, q ≤ C ∧ i = .int .i64 q ∧ wr = w2 ∧ ∀ k, k < q → (zss.getD k []).length = B ∧ ∀ z ∈ zss.getD k [], 0 ≤ z ∧ z ≤ 15) (fun i _ => C - (intOf i).toNat)
    case atStart => exact ⟨0, by omega, rfl, rfl, fun k hk => absurd hk (by omega)⟩
    case round =>
      obtain ⟨q, hq, rfl, hw, hall⟩ := hrel
      subst hw
      have HA : Hid _ := hall
      clear hall
      by_cases hlt : q < C
      · have hlt' : (q : Int) < C := by omega
        obtain ⟨u, hu, hr⟩ := HX.out q hlt
        have z1 : wr.cell? ⟨b1, o1 + q, none⟩ = some u := (cell_keep (B2.out.block b1 HL.out.2)).trans hu
        obtain ⟨a3, c3, rfl⟩ := hr.form
        have HR : Hid _ := hr
        clear hr hu
        have HM : Hid (zss.getD q [] ∈ zss) := by
          show _ ∈ _
          rw [List.getD_eq_getElem?_getD, List.getElem?_eq_getElem (by rw [HL.out.1]; exact hlt)]; exact List.getElem_mem _
        obtain ⟨zs, hzs⟩ : ∃ zs, zss.getD q [] = zs := ⟨_, rfl⟩
        rw [hzs] at z1 HR HM
        have HG : Hid (zss.getD q [] = zs) := hzs
        clear hzs
        by_cases hz : zs.length = B
        · rw [hz] at z1
          have HR2 : Hid (Poly.Reads .i64 0 w.heap.size w (.slice a3 B c3) zs) := by show Poly.Reads _ _ _ _ _ _; rw [← hz]; exact HR.out
          clear HR
          obtain ⟨b4, o4, rfl, _, l4, hy⟩ := HR2.out.cell (by rw [hz]; omega)
          have HY : Hid (∀ i, i < B → wr.cell? ⟨b4, o4 + i, none⟩ = some (.int .i64 (zs.getD i 0))) := fun i hi => (cell_keep (B2.out.block b4 l4)).trans (hy i (by rw [hz]; exact hi))
          have HLz : Hid (zs.length = B) := hz
          clear hz hy HR2 l4
          go_wp2
          go_loopw [35] (fun i wx => ∃ k : Nat, k ≤ B ∧ i = .int .i64 k ∧ wx = wr ∧ ∀ j, j < k → 0 ≤ zs.getD j 0 ∧ zs.getD j 0 ≤ 15) (fun i _ => B - (intOf i).toNat)
          case atStart => exact ⟨0, by omega, rfl, rfl, fun k hk => absurd hk (by omega)⟩
          case round =>
            obtain ⟨k, hk, rfl, hw, hin⟩ := hrel
            subst hw
            have HI : Hid _ := hin
            clear hin
            by_cases hkl : k < B
            · have hkl' : (k : Int) < B := by omega
              have y1 := HY.out k hkl
              have HMz : Hid (zs.getD k 0 ∈ zs) := by
                show _ ∈ _
                rw [List.getD_eq_getElem?_getD, List.getElem?_eq_getElem (by rw [HLz.out]; exact hkl)]; exact List.getElem_mem _
              obtain ⟨z, hz⟩ : ∃ z, zs.getD k 0 = z := ⟨_, rfl⟩
              rw [hz] at y1 HMz
              have HGz : Hid (zs.getD k 0 = z) := hz
              clear hz
              rcases (by omega : z < 0 ∨ (¬ z < 0 ∧ 15 < z) ∨ (¬ z < 0 ∧ ¬ 15 < z)) with h1 | ⟨h1, h2⟩ | ⟨h1, h2⟩
              · go_wp2
                go_ret
                refine ⟨B2.out, .inr ⟨rfl, fun h => ?_⟩⟩
                have := ((HP.out.1 h).2 _ HM.out).2 _ HMz.out; omega
              · go_wp2
                go_ret
                refine ⟨B2.out, .inr ⟨rfl, fun h => ?_⟩⟩
                have := ((HP.out.1 h).2 _ HM.out).2 _ HMz.out; omega
              · go_wp2
                go_roundw
                case rel =>
                  refine ⟨k + 1, by omega, by go_num, by first | rfl | trivial, fun j hj => ?_⟩
                  rcases (by omega : j < k ∨ j = k) with h | rfl
                  · exact HI.out j h
                  · rw [HGz.out]; omega
                case measure => simp [intOf]; omega
            · obtain rfl : k = B := by omega
              go_wp2
              go_roundw
              case rel =>
                refine ⟨q + 1, by omega, by go_num, by first | rfl | trivial, fun j hj => ?_⟩
                rcases (by omega : j < q ∨ j = q) with h | rfl
                · exact HA.out j h
                · rw [HG.out]
                  refine ⟨HLz.out, fun z hz => ?_⟩
                  obtain ⟨i, hi, rfl⟩ := List.getElem_of_mem hz
                  have := HI.out i (by rw [← HLz.out]; exact hi)
                  rwa [List.getD_eq_getElem?_getD, List.getElem?_eq_getElem hi] at this
              case measure => simp [intOf]; omega
        · have hz' : ¬ (zs.length : Int) = B := by omega
          go_wp2
          go_ret
          exact ⟨B2.out, .inr ⟨rfl, fun h => hz ((HP.out.1 h).2 _ HM.out).1⟩⟩
      · obtain rfl : q = C := by omega
        go_wp2
        go_ret
        refine ⟨B2.out, .inl ⟨rfl, HP.out.2 ⟨HL.out.1, fun zs hzs => ?_⟩⟩⟩
        obtain ⟨i, hi, rfl⟩ := List.getElem_of_mem hzs
        have := HA.out i (by rw [← HL.out.1]; exact hi)
        rwa [List.getD_eq_getElem?_getD, List.getElem?_eq_getElem hi] at this
  · have hl' : ¬ (zss.length : Int) = C := by omega
    clear HZ
    go_enter Tryz.func160, Tryz.ntmps160
    go_wp2_with (go_at_call 100; refine (HCh.out _).mono ?_; clear HCh; rintro e w2 ⟨rfl, b2⟩; have x2 : w2.cell? ⟨w.heap.size, 2, none⟩ = some (.int .i64 (C : Int)) := (box_cells (box_behind (f := ⟨1, r_, C, B, k_, m_, j_, p_, l_, y_⟩) b2).1).2.2.1; have B2 : Hid (Below w.heap.size w w2) := (box_behind (f := ⟨1, r_, C, B, k_, m_, j_, p_, l_, y_⟩) b2).2; clear b2)
    go_ret
    exact ⟨B2.out, .inr ⟨rfl, fun h => hl h.1⟩⟩

end Alloc
end Go.Proofs.YtcaifpjbjghhaaaGreatDoor

/-
  Contracts of package alloc: Needs and Share. Conditions: as told at each; the offsets stand as their initialisers lay them.
-/
namespace Go.Proofs.YtcaifpjbjghhaaaGreatDoor
set_option linter.unusedVariables false
open Go.RowKit
namespace Alloc
open Bank (Blk But)
open Poly (alloc_size enc cell_keep below_drew)
open _root_.Go.Proofs.YtcaifpjbjghhaaaGreatDoor.Form (fv fc bel1 blk_below box_cells of_drew box_behind)

/-- what scales are refused with -/
def Errs (E : Int) (f : M.Fmt) (zss : List (List Int)) : Prop := (¬ M.okS f ∧ E = 110) ∨ (M.okS f ∧ ¬ ((zss.length : Int) = f.h ∧ M.okZ f.b.toNat zss) ∧ E = 1)
/-- scales that are some of a format -/
structure Good (f : M.Fmt) (zss : List (List Int)) (C B r : Nat) : Prop where
  ok : M.okS f
  hC : f.h = C
  hB : f.b = B
  hr : f.r = r
  len : zss.length = C
  sca : M.okZ B zss
theorem Good.c2 {f : M.Fmt} {zss : List (List Int)} {C B r : Nat} (h : Good f zss C B r) : 1 ≤ C ∧ C ≤ 2 := by have := h.ok.2.2.1; have := h.hC; omega
theorem Good.b8 {f : M.Fmt} {zss : List (List Int)} {C B r : Nat} (h : Good f zss C B r) : B = 4 ∨ B = 8 := by have := h.ok.2.2.2.1; have := h.hB; omega
theorem Good.r3 {f : M.Fmt} {zss : List (List Int)} {C B r : Nat} (h : Good f zss C B r) : r ≤ 3 := by have := h.ok.2.1; have := h.hr; omega

theorem refuse_ok (f : M.Fmt) (vs : Value) (zss : List (List Int)) (C B r : Nat) (w : World) (h : Good f zss C B r) (hZ : Poly.Rows .i64 0 w.heap.size w vs zss) :
    Calls Tryz.prog 160 #[fv f, vs] w fun e w' => e = .returned (.int .i64 0) ∧ Below w.heap.size w w' := by
  refine (refuse_rest f vs zss C B w h.ok h.hC h.hB hZ).mono ?_
  rintro e w' ⟨hb, ⟨he, _⟩ | ⟨_, hn⟩⟩
  · exact ⟨he, hb⟩
  · exact absurd ⟨h.len, h.sca⟩ hn
theorem Errs.val {E : Int} {f : M.Fmt} {zss : List (List Int)} (h : Errs E f zss) : E = 110 ∨ E = 1 := by
  rcases h with ⟨_, h⟩ | ⟨_, _, h⟩
  · exact .inl h
  · exact .inr h

/-- an answer that tells F of C channels and B bands, in new memory -/
def Grids (W : World) (C B : Nat) (F : Nat → Int) (e : Ending) (w' : World) : Prop := ∃ a, W.heap.size ≤ a ∧ e = .returned (.tuple #[.slice (some ⟨a, 0, none⟩) C C, .int .i64 0]) ∧ Below W.heap.size W w' ∧ Grid a C B F w'

theorem Good.np {f : M.Fmt} {zss : List (List Int)} {C B r : Nat} (h : Good f zss C B r) : 2 ≤ f.p ∧ f.p ≤ 16 * ((B * C : Nat) : Int) ∧ f.p ≤ 250 := by
  obtain ⟨_, _, _, _, _, _, _, h1, h2, h3, _⟩ := h.ok
  have hC := h.hC; have hB := h.hB
  refine ⟨h1, ?_, h3⟩
  rw [hC, hB] at h2
  rw [Int.natCast_mul, ← Int.mul_assoc]; exact h2
/-- the last slice of good scales -/
theorem Good.lst {f : M.Fmt} {zss : List (List Int)} {C B r : Nat} (h : Good f zss C B r) : ∃ sl, M.lst (M.nd f.m C B r zss) (B * C) f.p sl ∧ -21 < sl ∧ sl ≤ 16 := by
  have hn := M.nd_bd (m := f.m) (C := C) (r := r) h.sca
  have hp := h.np
  have mb := M.mx_bd (M.nd f.m C B r zss) (B * C) (fun j _ => (hn j).2)
  have ht := M.mx_top (M.nd f.m C B r zss) (B * C) (M.mx (M.nd f.m C B r zss) (B * C) + 1) (by omega)
  obtain ⟨s, h1, h2, h3⟩ := M.lst_is (fun j _ => (hn j).1) (by omega) hp.2.1 _ (by rw [ht]; omega)
  exact ⟨s, h1, h2, by omega⟩

end Alloc
end Go.Proofs.YtcaifpjbjghhaaaGreatDoor

/-
  Contracts of package alloc: Share of scales that are some of a format. Conditions: as told at each; the offsets stand as their initialisers lay them.
-/
namespace Go.Proofs.YtcaifpjbjghhaaaGreatDoor
set_option linter.unusedVariables false
open Go.RowKit
namespace Alloc
open Bank (Blk But)
open Poly (alloc_size enc cell_keep below_drew)
open _root_.Go.Proofs.YtcaifpjbjghhaaaGreatDoor.Form (fv fc bel1 blk_below box_cells of_drew box_behind)

set_option maxHeartbeats 2000000 in
theorem Share_ok (f : M.Fmt) (vs : Value) (zss : List (List Int)) (C B r : Nat) (w : World) (hT : Tabs w) (h : Good f zss C B r) (hZ : Poly.Rows .i64 0 w.heap.size w vs zss) {sl : Int} (hl : M.lst (M.nd f.m C B r zss) (B * C) f.p sl) (hs : -21 < sl ∧ sl ≤ 16) :
    Calls Tryz.prog 109 #[fv f, vs] w fun e w' => Grids w C B (M.shr (M.nd f.m C B r zss) (B * C) f.p sl) e w' := by
  have hZ1 : Poly.Rows .i64 0 (w.alloc (.cells (fc f) 23)).heap.size (w.alloc (.cells (fc f) 23)) vs zss := by rw [alloc_size]; exact (hZ.below (bel1 w _) (Nat.le_refl _)).mono (Nat.le_refl _) (by omega)
  have hr := refuse_ok f vs zss C B r (w.alloc (.cells (fc f) 23)) h hZ1
  have hT1 : Tabs (w.alloc (.cells (fc f) 23)) := hT.below (bel1 _ _) (Nat.le_refl _)
  have hn : ∀ w2, Below (w.alloc (.cells (fc f) 23)).heap.size (w.alloc (.cells (fc f) 23)) w2 → Calls Tryz.prog 161 #[fv f, vs] w2 fun e w' => e = .returned (.slice (some ⟨w2.heap.size + 3, 0, none⟩) C C) ∧ Below w2.heap.size w2 w' ∧ Grid (w2.heap.size + 3) C B (M.nd f.m C B r zss) w' :=
    fun w2 hb => needsOf_any f vs zss C B r w2 (hT1.below hb (Nat.le_refl _)) ((hZ1.below hb (Nat.le_refl _)).mono (Nat.le_refl _) hb.size) h.len h.sca h.b8 h.hC h.hB h.hr h.r3 h.ok.2.2.2.2.2.1 h.c2.2
  have hbl := fun wx => blank_any f C B wx h.hC h.hB h.c2.2 (by have := h.b8; omega)
  have nb := M.nd_bd (m := f.m) (C := C) (r := r) h.sca
  have np := h.np
  have c2 := h.c2.2
  have b8 : B ≤ 8 := by have := h.b8; omega
  have hC := h.hC
  have hB := h.hB
  obtain ⟨ax, cx, rfl, _⟩ := hZ.form
  have HN : Hid _ := hn
  clear h hZ hn hT hT1 hZ1
  generalize M.nd f.m C B r zss = n at *
  have fb := M.fin_bd n (B * C) f.p sl
  have ft := M.fin_tot hl
  have tb := M.tot_bd n (B * C) (M.fin n (B * C) f.p sl)
  have x1b := M.sg_bd true n (M.fin n (B * C) f.p sl) f.p (M.b0 n (B * C) f.p sl) (M.x0 n (B * C) f.p sl) ⟨tb.1, ft⟩ (B * C)
  have HFall : Hid (∀ (a d g : Nat) (wx : World), Shr w g f a d C B n (fun _ => 0) 0 0 wx → Calls Tryz.prog 163 #[.pointer (some ⟨g, 0, none⟩)] wx fun e w' => e = .returned (.tuple #[]) ∧ Shr w g f a d C B n (fun _ => 0) (M.fin n (B * C) f.p sl) (M.x0 n (B * C) f.p sl) w') :=
    fun a d g wx h => fall_any wx h hC hB rfl nb c2 b8 rfl (by omega) (by omega) hl hs.1
  have HGive : Hid (∀ (a d g : Nat) (wx : World), Shr w g f a d C B n (fun _ => 0) (M.fin n (B * C) f.p sl) (M.x0 n (B * C) f.p sl) wx → Calls Tryz.prog 164 #[.pointer (some ⟨g, 0, none⟩)] wx fun e w' => e = .returned (.tuple #[]) ∧ Shr w g f a d C B n (M.b0 n (B * C) f.p sl) (M.fin n (B * C) f.p sl) (M.x0 n (B * C) f.p sl) w') :=
    fun a d g wx h => give_any wx h hC hB nb c2 b8 (by omega)
  have HF1 : Hid (∀ (a d g : Nat) (wx : World), Shr w g f a d C B n (M.b0 n (B * C) f.p sl) (M.fin n (B * C) f.p sl) (M.x0 n (B * C) f.p sl) wx → Calls Tryz.prog 165 #[.pointer (some ⟨g, 0, none⟩), .bool true] wx fun e w' => e = .returned (.tuple #[]) ∧ Shr w g f a d C B n (M.b1 n (B * C) f.p sl) (M.fin n (B * C) f.p sl) (M.x1 n (B * C) f.p sl) w') :=
    fun a d g wx h => fill_any wx true h hC hB nb (M.b0_bd _ _ _ _) ⟨tb.1, ft⟩ (by omega) c2 b8 (by omega)
  have HF2 : Hid (∀ (a d g : Nat) (wx : World), Shr w g f a d C B n (M.b1 n (B * C) f.p sl) (M.fin n (B * C) f.p sl) (M.x1 n (B * C) f.p sl) wx → Calls Tryz.prog 165 #[.pointer (some ⟨g, 0, none⟩), .bool false] wx fun e w' => e = .returned (.tuple #[]) ∧ Grid d C B (M.shr n (B * C) f.p sl) w' ∧ Below w.heap.size w w' ∧ w'.cell? ⟨g, 11, none⟩ = some (.slice (some ⟨d, 0, none⟩) C C)) :=
    fun a d g wx h => (fill_any wx false h hC hB nb (M.b1_bd _ _ _ _) x1b (by omega) c2 b8 (by omega)).mono fun e w' h => ⟨h.1, h.2.bts, h.2.bel, h.2.obj.cell rfl⟩
  clear fb ft tb x1b nb np c2 b8 hl hs
  generalize M.fin n (B * C) f.p sl = F0 at *
  generalize M.x0 n (B * C) f.p sl = X0 at *
  generalize M.x1 n (B * C) f.p sl = X1 at *
  generalize M.b0 n (B * C) f.p sl = B0 at *
  generalize M.b1 n (B * C) f.p sl = B1 at *
  generalize M.shr n (B * C) f.p sl = B2 at *
  have HShr : Hid (∀ (w2 w3 w4 : World), Below w.heap.size w w2 → Below w2.heap.size w2 w3 → Grid (w2.heap.size + 3) C B n w3 → Below w3.heap.size w3 w4 → Grid (w3.heap.size + 1) C B (fun _ => 0) w4 → w4.heap.size = w3.heap.size + 2 + C →
      Shr w w4.heap.size f (w2.heap.size + 3) (w3.heap.size + 1) C B n (fun _ => 0) 0 0 (w4.alloc (.cells (sc f (w2.heap.size + 3) (w3.heap.size + 1) C 0 0) 269))) := by
    intro w2 w3 w4 b2 b3 g3 b4 g4 s4
    have s2 := b2.size
    have l3 := g3.lt
    have b24 : Below w.heap.size w w4 := (b2.trans (b3.mono s2)).trans (b4.mono (by have := b3.size; omega))
    exact ⟨b24.alloc b24.size _, Blk.new w4 _ _, (g3.grow b4).grow (bel1 _ _), g4.grow (bel1 _ _), by omega, by omega, by omega⟩
  clear hC hB
  obtain ⟨c_, r_, h_, b_, k_, m_, j_, p_, l_, y_⟩ := f
  unfold fv at hr HN hbl ⊢
  unfold fc at hr HN
  unfold sc at HShr
  dsimp only at hr HN hbl HShr ⊢
  have HBl : Hid _ := hbl
  clear hbl
  go_enter Tryz.func109, Tryz.ntmps109
  go_wp2_with (go_at_call 160; refine hr.mono ?_; clear hr; rintro e w2 ⟨rfl, b2⟩; have bx := box_behind (f := ⟨c_, r_, h_, b_, k_, m_, j_, p_, l_, y_⟩) b2; have xs := box_cells bx.1; dsimp only at xs; have HXs : Hid _ := xs; obtain ⟨x0, x1, x2, x3, x4, x5, x6, x7, x8, x9⟩ := xs; have BX : Hid _ := bx; clear bx; have HBw : Hid _ := b2; clear b2)
  go_region_held3 (fun wx => wx.cell? ⟨w.heap.size, 0, none⟩ = some (.int .i64 c_) ∧ wx.cell? ⟨w.heap.size, 1, none⟩ = some (.int .i64 r_) ∧ wx.cell? ⟨w.heap.size, 2, none⟩ = some (.int .i64 h_) ∧ wx.cell? ⟨w.heap.size, 3, none⟩ = some (.int .i64 b_) ∧ wx.cell? ⟨w.heap.size, 4, none⟩ = some (.int .i64 k_) ∧ wx.cell? ⟨w.heap.size, 5, none⟩ = some (.int .i64 m_) ∧ wx.cell? ⟨w.heap.size, 6, none⟩ = some (.int .i64 j_) ∧ wx.cell? ⟨w.heap.size, 7, none⟩ = some (.int .i64 p_) ∧ wx.cell? ⟨w.heap.size, 8, none⟩ = some (.int .i64 l_) ∧ wx.cell? ⟨w.heap.size, 9, none⟩ = some (.int .i64 y_))
    (first | exact HXs.out | exact HYs.out | exact HYs2.out | exact box_cells (f := ⟨c_, r_, h_, b_, k_, m_, j_, p_, l_, y_⟩) (Bank.Blk.alloc HBk.out _))
    (first
      | (go_at_call 161; refine (HN.out w2.drew HBw.out.drew).mono ?_; clear HN; rintro e w3 ⟨rfl, b3, g3⟩; have G3 : Hid (Grid (w2.heap.size + 3) C B n w3) := g3; have C3 : Hid (Below w2.heap.size w2 w3) := of_drew b3; clear b3 g3; have ys := box_cells (blk_below C3.out BX.out.1 BX.out.1.lt); dsimp only at ys; have HYs : Hid _ := ys; clear ys)
      | (go_at_call 162; refine (HBl.out _).mono ?_; clear HBl; rintro e w4 ⟨rfl, b4, g4, s4⟩; have G4 : Hid _ := g4; have C4 : Hid (Below w3.heap.size w3 w4) := b4; have S4 : Hid (w4.heap.size = w3.heap.size + 2 + C) := s4; clear b4 g4 s4; have ys := box_cells (blk_below C4.out (blk_below C3.out BX.out.1 BX.out.1.lt) (Nat.lt_of_lt_of_le BX.out.1.lt C3.out.size)); dsimp only at ys; have HYs2 : Hid _ := ys; clear ys; have HBk : Hid (Blk w4 w.heap.size (fc ⟨c_, r_, h_, b_, k_, m_, j_, p_, l_, y_⟩) 23) := blk_below C4.out (blk_below C3.out BX.out.1 BX.out.1.lt) (Nat.lt_of_lt_of_le BX.out.1.lt C3.out.size)))
  all_goals (

    go_wp2_with (first
      | (go_at_call 163; refine (HFall.out _ _ _ _ (HShr.out w2 w3 w4 BX.out.2 C3.out G3.out C4.out G4.out S4.out)).mono ?_; clear HFall; rintro e w5 ⟨rfl, h5⟩; have H5 : Hid _ := h5; clear h5)
      | (go_at_call 164; refine (HGive.out _ _ _ _ H5.out).mono ?_; clear HGive; rintro e w6 ⟨rfl, h6⟩; have H6 : Hid _ := h6; clear h6)
      | (go_at_call 165; refine (HF1.out _ _ _ _ H6.out).mono ?_; clear HF1; rintro e w7 ⟨rfl, h7⟩; have H7 : Hid _ := h7; clear h7)
      | (go_at_call 165; refine (HF2.out _ _ _ _ H7.out).mono ?_; clear HF2; rintro e w8 ⟨rfl, h8, q8, k8⟩; have H8 : Hid _ := h8; have Q8 : Hid (Below w.heap.size w w8) := q8; clear h8 q8))
    go_ret2
    exact ⟨w3.heap.size + 1, by have := BX.out.2.size; have := C3.out.size; omega, rfl, Q8.out, H8.out⟩)

end Alloc
end Go.Proofs.YtcaifpjbjghhaaaGreatDoor

