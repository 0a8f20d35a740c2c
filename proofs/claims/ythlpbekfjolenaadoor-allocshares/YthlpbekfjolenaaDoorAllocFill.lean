/-
  Contracts of package alloc: what is left of the pool is filled in, once through the bands. Conditions: as told at each.
-/
import Derived.Test.YthlpbekfjolenaaDoorAllocGive
namespace Go.Proofs.YthlpbekfjolenaaDoor
set_option linter.unusedVariables false
open Go.RowKit
namespace Alloc
open Bank (Blk But)
open Poly (alloc_size enc cell_keep below_drew)
open _root_.Go.Proofs.YthlpbekfjolenaaDoor.Form (fv fc bel1 blk_below box_cells of_drew)
variable {W : World} {g : Nat} {f : M.Fmt} {a d C B : Nat} {n β : Nat → Int} {s x : Int} {w w' : World}

/-- a sharing whose bits turn, and the box that tells whether bands may begin -/
structure Fil (W : World) (g : Nat) (f : M.Fmt) (a d C B : Nat) (n : Nat → Int) (s : Int) (H : Nat) (bg : Bool) (β : Nat → Nat → Int) (X : Nat → Int) (k : Nat) (wr : World) : Prop where
  giv : Giv W g f a d C B n s H β X k wr
  beg : Blk wr (H + 1) #[.bool bg] 4
theorem Fil.grow {H k : Nat} {bg : Bool} {β : Nat → Nat → Int} {X : Nat → Int} (h : Fil W g f a d C B n s H bg β X k w) (hb : Below w.heap.size w w') : Fil W g f a d C B n s H bg β X k w' := ⟨h.giv.grow hb, blk_below hb h.beg h.beg.lt⟩
theorem Fil.drewN {H k : Nat} {bg : Bool} {β : Nat → Nat → Int} {X : Nat → Int} (h : Fil W g f a d C B n s H bg β X k w) (m : Nat) : Fil W g f a d C B n s H bg β X k (w.drewN m) := ⟨h.giv.drewN m, h.beg.drewN m⟩
theorem Fil.both {H : Nat} {bg : Bool} {β : Nat → Nat → Int} {X : Nat → Int} {c b : Nat} (h : Fil W g f a d C B n s H bg β X (b * C + c) w) (hc : c < C) (hb : b < B) {y : Int} (hX : y = X (b * C + c + 1)) {z : Int} (hz : z = β (b * C + c + 1) (b * C + c)) (ho : ∀ j, j ≠ b * C + c → β (b * C + c + 1) j = β (b * C + c) j) :
    Fil W g f a d C B n s H bg β X (b * C + c + 1) ((w.setCell ⟨d + 1 + c, b, none⟩ (.int .i64 z)).setCell ⟨g, 13, none⟩ (.int .i64 y)) := by
  have := h.giv.shr.p2; have := h.giv.box.2
  exact ⟨h.giv.both hc hb hX hz ho, (h.beg.set_ne (by show H + 1 ≠ d + 1 + c; omega) _).set_ne (by show H + 1 ≠ g; omega) _⟩
theorem Fil.none {H : Nat} {bg : Bool} {β : Nat → Nat → Int} {X : Nat → Int} {k : Nat} (h : Fil W g f a d C B n s H bg β X k w) (hX : X (k + 1) = X k) (ho : ∀ j, β (k + 1) j = β k j) : Fil W g f a d C B n s H bg β X (k + 1) w := ⟨h.giv.none hX ho, h.beg⟩

set_option maxHeartbeats 4000000 in
theorem fill_told (H N : Nat) (hN : H < N) (bg : Bool) (hn : ∀ j, -5 ≤ n j ∧ n j ≤ 15) (hβ : ∀ j, 0 ≤ β j ∧ β j ≤ 16) (hx : 0 ≤ x ∧ x ≤ f.p) (hp : f.p ≤ 10000) (c2 : C ≤ 2) (b8 : B ≤ 8) (s0 : -100 ≤ s ∧ s ≤ 100) :
    Told C B N 29 #[.pointer (some ⟨H, 0, none⟩), .pointer (some ⟨H + 1, 0, none⟩)] (Fil W g f a d C B n s H bg (fun k => M.bts bg n s f.p β x k) (fun k => M.sg bg n s f.p β x k)) := by
  intro c b w hc hb hNw hI
  have k0 : w.cell? ⟨H, 0, none⟩ = some (.pointer (some ⟨g, 0, none⟩)) := hI.giv.box.1.cell rfl
  have k1 : w.cell? ⟨H + 1, 0, none⟩ = some (.bool bg) := hI.beg.cell rfl
  have k2 : w.cell? ⟨g, 10, none⟩ = some (.slice (some ⟨a, 0, none⟩) C C) := hI.giv.shr.obj.cell rfl
  have k6 : w.cell? ⟨g, 12, none⟩ = some (.int .i64 s) := hI.giv.shr.obj.cell rfl
  have k7 : w.cell? ⟨g, 11, none⟩ = some (.slice (some ⟨d, 0, none⟩) C C) := hI.giv.shr.obj.cell rfl
  have k11 : w.cell? ⟨g, 7, none⟩ = some (.int .i64 f.p) := hI.giv.shr.obj.cell rfl
  have k12 : w.cell? ⟨g, 13, none⟩ = some (.int .i64 (M.sg bg n s f.p β x (b * C + c))) := hI.giv.shr.obj.cell rfl
  have k13 := hI.giv.shr.obj.free 13
  have k3 := hI.giv.shr.nds.at_head hc
  have k4 := hI.giv.shr.nds.at hc hb
  have k8 := hI.giv.shr.bts.at_head hc
  have k9 := hI.giv.shr.bts.at hc hb
  have k10 := hI.giv.shr.bts.free hc b
  have hy := hn (b * C + c)
  have hz := hβ (b * C + c)
  have hv := M.sg_bd bg n s f.p β x hx (b * C + c)
  have hne : ¬ d + 1 + c = g := by have := hI.giv.shr.p2; omega
  have hne2 : ¬ d + 1 + c = H := by have := hI.giv.shr.p2; have := hI.giv.box.2; omega
  have HI : Hid _ := hI
  have hc' : (c : Int) < C := by omega
  have hb' : (b : Int) < B := by omega
  have hC' : (C : Int) ≤ 2 := by omega
  have hB' : (B : Int) ≤ 8 := by omega
  have HS : Hid (∀ (m : Nat) (u v : Value), Stay N w (((w.drewN m).setCell ⟨d + 1 + c, b, none⟩ u).setCell ⟨g, 13, none⟩ v)) := by
    intro m u v
    have := hI.giv.shr.p2; have := hI.giv.box.2
    exact (((Stay.refl _ _).drewN _).set (by show d + 1 + c < N; omega) _).set (by show g < N; omega) _
  have HO : Hid (∀ (m : Nat) (u y' : Int), M.bt1 bg (n (b * C + c)) s f.p (M.sg bg n s f.p β x (b * C + c)) (β (b * C + c)) = u → M.sg1 bg (n (b * C + c)) s f.p (M.sg bg n s f.p β x (b * C + c)) (β (b * C + c)) = y' →
      Fil W g f a d C B n s H bg (fun k => M.bts bg n s f.p β x k) (fun k => M.sg bg n s f.p β x k) (b * C + c + 1) (((w.drewN m).setCell ⟨d + 1 + c, b, none⟩ (.int .i64 u)).setCell ⟨g, 13, none⟩ (.int .i64 y'))) := by
    intro m u y' h1 h2
    exact (hI.drewN m).both hc hb h2.symm (by show u = M.bts _ _ _ _ _ _ _ _; rw [M.bts_new, h1]) fun j hj => M.bts_old bg n s f.p β x hj
  have HZ : Hid (∀ (m : Nat), M.bt1 bg (n (b * C + c)) s f.p (M.sg bg n s f.p β x (b * C + c)) (β (b * C + c)) = β (b * C + c) → M.sg1 bg (n (b * C + c)) s f.p (M.sg bg n s f.p β x (b * C + c)) (β (b * C + c)) = M.sg bg n s f.p β x (b * C + c) →
      Fil W g f a d C B n s H bg (fun k => M.bts bg n s f.p β x k) (fun k => M.sg bg n s f.p β x k) (b * C + c + 1) (w.drewN m)) := by
    intro m h1 h2
    refine (hI.drewN m).none h2 fun j => ?_
    show M.bts _ _ _ _ _ _ _ _ = M.bts _ _ _ _ _ _ _ _
    by_cases hj : j = b * C + c
    · subst hj; rw [M.bts_new, M.bts_self, h1]
    · exact M.bts_old bg n s f.p β x hj
  have HZ2 : Hid (∀ (m m' : Nat), M.bt1 bg (n (b * C + c)) s f.p (M.sg bg n s f.p β x (b * C + c)) (β (b * C + c)) = β (b * C + c) → M.sg1 bg (n (b * C + c)) s f.p (M.sg bg n s f.p β x (b * C + c)) (β (b * C + c)) = M.sg bg n s f.p β x (b * C + c) →
      Fil W g f a d C B n s H bg (fun k => M.bts bg n s f.p β x k) (fun k => M.sg bg n s f.p β x k) (b * C + c + 1) ((w.drewN m).drewN m')) := fun m m' h1 h2 => (HZ.out m h1 h2).drewN m'
  rw [M.bts_self] at k9
  clear hI hN hNw hn hc hb hβ hx HI
  obtain ⟨I, hI⟩ : ∃ I, Fil W g f a d C B n s H bg (fun k => M.bts bg n s f.p β x k) (fun k => M.sg bg n s f.p β x k) (b * C + c + 1) = I := ⟨_, rfl⟩
  rw [hI] at HO HZ HZ2 ⊢
  clear hI
  generalize M.sg bg n s f.p β x (b * C + c) = v at *
  generalize n (b * C + c) = y at *
  generalize β (b * C + c) = z at *
  generalize f.p = p at *
  obtain ⟨s0, s1⟩ := s0
  obtain ⟨y0, y1⟩ := hy
  obtain ⟨z0, z1⟩ := hz
  obtain ⟨v0, v1⟩ := hv
  show Calls _ _ #[_, _, _, _] _ _
  rcases (by omega : p - v ≤ 0 ∨ (¬ p - v ≤ 0 ∧ 2 ≤ z ∧ z < 16) ∨ ¬ p - v ≤ 0 ∧ ¬ (2 ≤ z ∧ z < 16)) with h1 | ⟨h1, h2, h3⟩ | ⟨h1, h2⟩
  · have HE : Hid (M.bt1 bg y s p v z = z ∧ M.sg1 bg y s p v z = v) := ⟨if_pos h1, if_pos h1⟩
    go_enter Tryd.func29, Tryd.ntmps29
    go_wp2
    go_quiet (fail)
    go_wp2
    go_end0
    exact ⟨rfl, HZ.out _ HE.out.1 HE.out.2, (Stay.refl _ _).drewN _⟩
  · have HE : Hid (M.bt1 bg y s p v z = z + 1 ∧ M.sg1 bg y s p v z = v + 1) := by
      show _ ∧ _
      unfold M.bt1 M.sg1
      rw [if_neg h1, if_pos ⟨h2, h3⟩, if_neg h1, if_pos ⟨h2, h3⟩]; exact ⟨rfl, rfl⟩
    go_enter Tryd.func29, Tryd.ntmps29
    go_wp2
    go_quiet (fail)
    go_wp2
    go_end0
    exact ⟨rfl, HO.out _ _ _ HE.out.1 HE.out.2, HS.out _ _ _⟩
  · rcases (by omega : (y = s + 1 ∧ 2 ≤ p - v) ∨ (y = s + 1 ∧ ¬ 2 ≤ p - v) ∨ ¬ y = s + 1) with ⟨h3, h4⟩ | ⟨h3, h4⟩ | h3
    · cases bg
      · have HE : Hid (M.bt1 false y s p v z = z ∧ M.sg1 false y s p v z = v) := by
          show _ ∧ _
          unfold M.bt1 M.sg1
          rw [if_neg h1, if_neg h2, if_neg (by simp), if_neg h1, if_neg h2, if_neg (by simp)]; exact ⟨rfl, rfl⟩
        clear h3 h4
        rcases (by omega : (2 ≤ z ∧ ¬ z < 16) ∨ ¬ 2 ≤ z) with ⟨h5, h6⟩ | h5
        all_goals (
          clear h2
          go_enter Tryd.func29, Tryd.ntmps29
          go_wp2
          go_quiet (fail)
          go_wp2
          go_quiet (fail)
          go_wp2
          go_end0
          first | exact ⟨rfl, HZ2.out _ _ HE.out.1 HE.out.2, ((Stay.refl _ _).drewN _).drewN _⟩ | exact ⟨rfl, HZ.out _ HE.out.1 HE.out.2, (Stay.refl _ _).drewN _⟩)
      · have HE : Hid (M.bt1 true y s p v z = 2 ∧ M.sg1 true y s p v z = v + 2) := by
          show _ ∧ _
          unfold M.bt1 M.sg1
          rw [if_neg h1, if_neg h2, if_pos ⟨rfl, h3, h4⟩, if_neg h1, if_neg h2, if_pos ⟨rfl, h3, h4⟩]; exact ⟨rfl, rfl⟩
        have h7 : (y == s + 1) = true := by simp [h3]
        clear h3
        rcases (by omega : (2 ≤ z ∧ ¬ z < 16) ∨ ¬ 2 ≤ z) with ⟨h5, h6⟩ | h5
        all_goals (
          clear h2
          go_enter Tryd.func29, Tryd.ntmps29
          go_wp2
          go_quiet (fail)
          go_wp2
          go_quiet (fail)
          go_wp2
          go_end0
          exact ⟨rfl, HO.out _ _ _ HE.out.1 HE.out.2, HS.out _ _ _⟩)
    · have HE : Hid (M.bt1 bg y s p v z = z ∧ M.sg1 bg y s p v z = v) := by
        show _ ∧ _
        unfold M.bt1 M.sg1
        rw [if_neg h1, if_neg h2, if_neg (by omega), if_neg h1, if_neg h2, if_neg (by omega)]; exact ⟨rfl, rfl⟩
      have h7 : (y == s + 1) = true := by simp [h3]
      clear h3
      rcases (by omega : (2 ≤ z ∧ ¬ z < 16) ∨ ¬ 2 ≤ z) with ⟨h5, h6⟩ | h5
      all_goals (
        clear h2
        cases bg
        all_goals (
          go_enter Tryd.func29, Tryd.ntmps29
          go_wp2
          go_quiet (fail)
          go_wp2
          go_quiet (fail)
          go_wp2
          go_end0
          first | exact ⟨rfl, HZ2.out _ _ HE.out.1 HE.out.2, ((Stay.refl _ _).drewN _).drewN _⟩ | exact ⟨rfl, HZ.out _ HE.out.1 HE.out.2, (Stay.refl _ _).drewN _⟩))
    · have HE : Hid (M.bt1 bg y s p v z = z ∧ M.sg1 bg y s p v z = v) := by
        show _ ∧ _
        unfold M.bt1 M.sg1
        rw [if_neg h1, if_neg h2, if_neg (by omega), if_neg h1, if_neg h2, if_neg (by omega)]; exact ⟨rfl, rfl⟩
      have h7 : (y == s + 1) = false := by simp [h3]
      rcases (by omega : (2 ≤ z ∧ ¬ z < 16) ∨ ¬ 2 ≤ z) with ⟨h5, h6⟩ | h5
      all_goals (
        clear h2
        cases bg
        all_goals (
          go_enter Tryd.func29, Tryd.ntmps29
          go_wp2
          go_quiet (fail)
          go_wp2
          go_quiet (fail)
          go_wp2
          go_end0
          first | exact ⟨rfl, HZ2.out _ _ HE.out.1 HE.out.2, ((Stay.refl _ _).drewN _).drewN _⟩ | exact ⟨rfl, HZ.out _ HE.out.1 HE.out.2, (Stay.refl _ _).drewN _⟩))

end Alloc
end Go.Proofs.YthlpbekfjolenaaDoor
