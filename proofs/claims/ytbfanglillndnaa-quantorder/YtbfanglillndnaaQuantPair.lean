/-
  Contracts of package quant: what is done to each pair of two planes, whole, and its error. Conditions: as told at each.
-/
import Derived.Test.YtbfanglillndnaaQuantMixed
import Derived.Deep.RegionHeld3
namespace Go.Proofs.Ytbfanglillndnaa
set_option linter.unusedVariables false
open Go.RowKit
namespace Qnt
open Bank (Blk But)
open Poly (cell_keep alloc_size)

theorem cell_set_ne {w : World} {p q : Addr} (v : Value) (h : q.block ≠ p.block) : (w.setCell p v).cell? q = w.cell? q := by
  simp [World.cell?, Below.heap_setCell _ _ _ _ h]

def Fits (x : Int) : Prop := -2147483648 ≤ x ∧ x ≤ 2147483647
/-- what is done to a pair -/
def Mix (K : FuncId) (f g : Int → Int → Int) : Prop := ∀ x y w, Fits x → Fits y → Calls Try.prog K #[.int .i32 x, .int .i32 y] w fun e w' => e = .returned (.tuple #[.int .i32 (f x y), .int .i32 (g x y)]) ∧ w' = w
theorem mix_halves : Mix 38 M.hs M.hd := fun x y w hx hy => halves_any x y w hx hy
theorem mix_sums : Mix 39 (fun x y => M.sat32 (x + y)) (fun x y => M.sat32 (x - y)) := fun x y w hx hy => sums_any x y w hx hy

/-- two planes that are being filled side by side -/
structure Two (A B n C k : Nat) (P Q : Nat → Nat → Int) (w0 w : World) : Prop where
  one : Pln A n C k P w
  two : Pln B n C k Q w
  bel : Below A w0 w
  size : w.heap.size = B + 1 + n
theorem Two.drewN {A B n C k : Nat} {P Q : Nat → Nat → Int} {w0 w : World} (h : Two A B n C k P Q w0 w) (m : Nat) : Two A B n C k P Q w0 (w.drewN m) := ⟨h.one.drewN m, h.two.drewN m, ⟨h.bel.os, h.bel.tape, h.bel.output, h.bel.size, h.bel.block⟩, h.size⟩
theorem Two.ext {A B n C k k' : Nat} {P Q : Nat → Nat → Int} {w0 w : World} (h : Two A B n C k P Q w0 w) (e : k = k') : Two A B n C k' P Q w0 w := e ▸ h
theorem Two.step {A B n C : Nat} {P Q : Nat → Nat → Int} {w0 w : World} {i b : Nat} (h : Two A B n C (i * C + b) P Q w0 w) (hAB : A + n < B) (hi : i < n) (hb : b < C) {x y : Int} (hx : x = P i b) (hy : y = Q i b) :
    Two A B n C (i * C + (b + 1)) P Q w0 ((w.setCell ⟨A + 1 + i, b, none⟩ (.int .i32 x)).setCell ⟨B + 1 + i, b, none⟩ (.int .i32 y)) :=
  ⟨(h.one.step hi hb hx).set_ne (.inr (by show A + n < B + 1 + i; omega)) _, (h.two.set_ne (.inl (by show A + 1 + i < B; omega)) _).step hi hb hy,
   (h.bel.setCell (by show A ≤ A + 1 + i; omega) _).setCell (by show A ≤ B + 1 + i; omega) _, by have := h.size; simpa [World.setCell] using this⟩
theorem Two.step' {A B n C : Nat} {P Q : Nat → Nat → Int} {w0 w : World} {i b : Nat} (h : Two A B n C (i * C + b) P Q w0 w) (hAB : A + n < B) (hi : i < n) (hb : b < C) {x y : Int} (hx : x = P i b) (hy : y = Q i b) :
    Two A B n C (i * C + (b + 1)) P Q w0 ((w.setCell ⟨B + 1 + i, b, none⟩ (.int .i32 y)).setCell ⟨A + 1 + i, b, none⟩ (.int .i32 x)) :=
  ⟨(h.one.set_ne (.inr (by show A + n < B + 1 + i; omega)) _).step hi hb hx, (h.two.step hi hb hy).set_ne (.inl (by show A + 1 + i < B; omega)) _,
   (h.bel.setCell (by show A ≤ B + 1 + i; omega) _).setCell (by show A ≤ A + 1 + i; omega) _, by have := h.size; simpa [World.setCell] using this⟩

set_option maxHeartbeats 8000000 in
set_option maxRecDepth 100000 in
theorem mixed_ok (K : FuncId) (f g : Int → Int → Int) (hK : K = 38 ∨ K = 39) (hM : Mix K f g) (hi : Nat) (va vb : Value) (n C : Nat) (F G : Nat → Nat → Int) (w : World)
    (ha : Vw hi va n C F w) (hb : Vw hi vb n C G w) (hF : F32 F) (hG : F32 G) (n1 : 1 ≤ n) (n40 : n ≤ 40) (c1 : 1 ≤ C) (c8 : C ≤ 8) (hh : hi ≤ w.heap.size) :
    Calls Try.prog 37 #[va, vb, .func (.func K) #[] #[]] w fun e w' => e = .returned (.tuple #[.slice (some ⟨w.heap.size, 0, none⟩) n n, .slice (some ⟨w.heap.size + 1 + n, 0, none⟩) n n, .int .i64 0]) ∧
      Two w.heap.size (w.heap.size + 1 + n) n C (n * C) (fun i b => f (F i b) (G i b)) (fun i b => g (F i b) (G i b)) w w' := by
  have hpl : ∀ v wx, (v = va ∨ v = vb) → wx.heap = w.heap → Calls Try.prog 35 #[v] wx fun e w' => e = .returned (.bool true) ∧ w' = wx := fun v wx hv he => by
    rcases hv with rfl | rfl
    · exact (isPlane_any hi v n (fun _ => C) wx (ha.hd.same he) (not_far n40 c8)).mono fun e w' h => h.yes ⟨n1, c1, c8, fun _ _ => rfl⟩
    · exact (isPlane_any hi v n (fun _ => C) wx (hb.hd.same he) (not_far n40 c8)).mono fun e w' h => h.yes ⟨n1, c1, c8, fun _ _ => rfl⟩
  have hbl : ∀ wx, Below w.heap.size w wx → Calls Try.prog 43 #[va] wx fun e w' => e = .returned (.slice (some ⟨wx.heap.size, 0, none⟩) n n) ∧ Below wx.heap.size wx w' ∧ (∀ G, Pln wx.heap.size n C 0 G w') ∧ w'.heap.size = wx.heap.size + 1 + n :=
    fun wx hbw => blank_any hi va n C F wx (ha.below hbw hh) n40 c8 (by have := hbw.size; omega)
  have hHA := ha.hd
  have hHB := hb.hd
  have HP : Hid _ := hpl
  have HBl : Hid _ := hbl
  obtain ⟨ba0, oa0, ca, rfl⟩ := ha.form
  obtain ⟨bb0, ob0, cb, rfl⟩ := hb.form
  have HA : Hid _ := ha.all hh
  have HB : Hid _ := hb.all hh
  obtain ⟨a1, p1, q1, _, hu1⟩ := HA.out 0 (by omega)
  obtain ⟨a2, p2, q2, _, hu2⟩ := HB.out 0 (by omega)
  replace hu1 := (hu1 w (Below.refl _ _)).1
  replace hu2 := (hu2 w (Below.refl _ _)).1
  rw [Nat.add_zero] at hu1 hu2
  have n0' : (0 : Int) < n := by omega
  have n40' : (n : Int) ≤ 40 := by omega
  have c8' : (C : Int) ≤ 8 := by omega
  have HFf : Hid (F32 F) := hF
  have HGf : Hid (F32 G) := hG
  have HM : Hid (Mix K f g) := hM
  obtain ⟨B, hB⟩ : ∃ B, w.heap.size + 1 + n = B := ⟨_, rfl⟩
  rw [hB]
  have HE : Hid (w.heap.size + 1 + n = B) := hB
  have HLt : Hid (ba0 < w.heap.size ∧ bb0 < w.heap.size) := by
    obtain ⟨_, _, e1, _, l1, _⟩ := ha.at
    obtain ⟨_, _, e2, _, l2, _⟩ := hb.at
    cases e1; cases e2
    exact ⟨by omega, by omega⟩
  clear ha hb hF hG hM hpl hbl hHA hHB hB
  go_enter Try.func37, Try.ntmps37
  go_wp2
  go_quiet (first | (go_at_call 35; exact Calls.quiet_of_same (HP.out _ _ (by first | exact .inl rfl | exact .inr rfl) rfl)))
  go_wp2_with (first
    | (go_at_call 43; refine hbl3.mono ?_; rintro e w4 ⟨rfl, b4, p4, s4⟩; have T4 : Hid (Two w.heap.size B n C 0 (fun i b => f (F i b) (G i b)) (fun i b => g (F i b) (G i b)) w w4) := ⟨(P3.out _).below b4 (by have := HE.out; omega), p4 _, BW3.out.trans (b4.mono (by have := HE.out; omega)), s4⟩; clear b4 p4 s4 hbl3)
    | (go_at_call 43; refine (HBl.out _ (bel_drewN w _)).mono ?_; rintro e w3 ⟨rfl, b3, p3, s3⟩; have BW3 : Hid (Below w.heap.size w w3) := (bel_drewN w _).trans b3; have P3 : Hid (∀ G, Pln w.heap.size n C 0 G w3) := p3; have hbl3 := HBl.out w3 BW3.out; rw [show w3.heap.size = B from s3.trans HE.out] at hbl3; clear b3 p3 s3))
  go_loopw [45] (fun i wr => ∃ k : Nat, k ≤ n ∧ i = .int .i64 k ∧ Two w.heap.size B n C (k * C) (fun i b => f (F i b) (G i b)) (fun i b => g (F i b) (G i b)) w wr) (fun i _ => n - (intOf i).toNat)
  case atStart => exact ⟨0, by omega, rfl, T4.out.ext (Nat.zero_mul C).symm⟩
  case round =>
    clear T4 hu1 hu2
    obtain ⟨i, hi', rfl, hT⟩ := hrel
    by_cases hlt : i < n
    · have hlt' : (i : Int) < n := by omega
      obtain ⟨ba1, oa1, ca1, la1, hrow⟩ := HA.out i hlt
      have hu := (hrow wr hT.bel).1
      have HRow : Hid (∀ wx, Below w.heap.size w wx → ∀ k, k < C → wx.cell? ⟨ba1, oa1 + k, none⟩ = some (.int .i32 (F i k))) := fun wx hbx => (hrow wx hbx).2
      have HT : Hid (Two w.heap.size B n C (i * C) (fun i b => f (F i b) (G i b)) (fun i b => g (F i b) (G i b)) w wr) := hT
      clear hrow hT
      go_wp2
      go_loopw [52] (fun j wx => ∃ k : Nat, k ≤ C ∧ j = .int .i64 k ∧ Two w.heap.size B n C (i * C + k) (fun i b => f (F i b) (G i b)) (fun i b => g (F i b) (G i b)) w wx) (fun j _ => C - (intOf j).toNat)
      case atStart => exact ⟨0, by omega, rfl, HT.out⟩
      case round =>
        clear HT hu
        obtain ⟨k, hk, rfl, hT⟩ := hrel
        by_cases hkl : k < C
        · have hkl' : (k : Int) < C := by omega
          have hx := HRow.out wr hT.bel k hkl
          obtain ⟨bb1, ob1, cb1, lb1, hrow⟩ := HB.out i hlt
          obtain ⟨y1, y2⟩ := hrow wr hT.bel
          replace y2 := y2 k hkl
          have z1 := hT.one.at_head hlt
          have z2 := hT.two.at_head hlt
          obtain ⟨⟨u1, hP⟩, hPf⟩ := hT.one.free hlt hkl
          obtain ⟨⟨u2, hQ⟩, hQf⟩ := hT.two.free hlt hkl
          have hm := fun wx => HM.out (F i k) (G i k) wx (HFf.out i k) (HGf.out i k)
          obtain ⟨fx, hfx⟩ : ∃ fx, f (F i k) (G i k) = fx := ⟨_, rfl⟩
          obtain ⟨gx, hgx⟩ : ∃ gx, g (F i k) (G i k) = gx := ⟨_, rfl⟩
          rw [hfx, hgx] at hm
          have HS1 : Hid (∀ m, Two w.heap.size B n C (i * C + (k + 1)) (fun i b => f (F i b) (G i b)) (fun i b => g (F i b) (G i b)) w (((wr.drewN m).setCell ⟨w.heap.size + 1 + i, k, none⟩ (.int .i32 fx)).setCell ⟨B + 1 + i, k, none⟩ (.int .i32 gx))) := fun m => (hT.drewN m).step (by have := HE.out; omega) hlt hkl hfx.symm hgx.symm
          have HS2 : Hid (∀ m, Two w.heap.size B n C (i * C + (k + 1)) (fun i b => f (F i b) (G i b)) (fun i b => g (F i b) (G i b)) w (((wr.drewN m).setCell ⟨B + 1 + i, k, none⟩ (.int .i32 gx)).setCell ⟨w.heap.size + 1 + i, k, none⟩ (.int .i32 fx))) := fun m => (hT.drewN m).step' (by have := HE.out; omega) hlt hkl hfx.symm hgx.symm
          have xs : wr.cell? ⟨w.heap.size, i, none⟩ = some (.slice (some ⟨w.heap.size + 1 + i, 0, none⟩) C C) ∧ wr.cell? ⟨B, i, none⟩ = some (.slice (some ⟨B + 1 + i, 0, none⟩) C C) ∧ wr.cell? ⟨bb0, ob0 + i, none⟩ = some (.slice (some ⟨bb1, ob1, none⟩) C cb1) ∧ wr.cell? ⟨bb1, ob1 + k, none⟩ = some (.int .i32 (G i k)) := ⟨z1, z2, y1, y2⟩
          have HXs : Hid _ := xs
          have HSetP : Hid (∀ (wx : World) (v : Value), (wx.cell? ⟨w.heap.size, i, none⟩ = some (.slice (some ⟨w.heap.size + 1 + i, 0, none⟩) C C) ∧ wx.cell? ⟨B, i, none⟩ = some (.slice (some ⟨B + 1 + i, 0, none⟩) C C) ∧ wx.cell? ⟨bb0, ob0 + i, none⟩ = some (.slice (some ⟨bb1, ob1, none⟩) C cb1) ∧ wx.cell? ⟨bb1, ob1 + k, none⟩ = some (.int .i32 (G i k))) →
              ((wx.setCell ⟨w.heap.size + 1 + i, k, none⟩ v).cell? ⟨w.heap.size, i, none⟩ = some (.slice (some ⟨w.heap.size + 1 + i, 0, none⟩) C C) ∧ (wx.setCell ⟨w.heap.size + 1 + i, k, none⟩ v).cell? ⟨B, i, none⟩ = some (.slice (some ⟨B + 1 + i, 0, none⟩) C C) ∧ (wx.setCell ⟨w.heap.size + 1 + i, k, none⟩ v).cell? ⟨bb0, ob0 + i, none⟩ = some (.slice (some ⟨bb1, ob1, none⟩) C cb1) ∧ (wx.setCell ⟨w.heap.size + 1 + i, k, none⟩ v).cell? ⟨bb1, ob1 + k, none⟩ = some (.int .i32 (G i k)))) := by
            intro wx v h
            have l1 := HE.out
            obtain ⟨_, l2⟩ := HLt.out
            rw [cell_set_ne v (by show w.heap.size ≠ w.heap.size + 1 + i; omega), cell_set_ne v (by show B ≠ w.heap.size + 1 + i; omega), cell_set_ne v (by show bb0 ≠ w.heap.size + 1 + i; omega), cell_set_ne v (by show bb1 ≠ w.heap.size + 1 + i; omega)]
            exact h
          have HSetQ : Hid (∀ (wx : World) (v : Value), (wx.cell? ⟨w.heap.size, i, none⟩ = some (.slice (some ⟨w.heap.size + 1 + i, 0, none⟩) C C) ∧ wx.cell? ⟨B, i, none⟩ = some (.slice (some ⟨B + 1 + i, 0, none⟩) C C) ∧ wx.cell? ⟨bb0, ob0 + i, none⟩ = some (.slice (some ⟨bb1, ob1, none⟩) C cb1) ∧ wx.cell? ⟨bb1, ob1 + k, none⟩ = some (.int .i32 (G i k))) →
              ((wx.setCell ⟨B + 1 + i, k, none⟩ v).cell? ⟨w.heap.size, i, none⟩ = some (.slice (some ⟨w.heap.size + 1 + i, 0, none⟩) C C) ∧ (wx.setCell ⟨B + 1 + i, k, none⟩ v).cell? ⟨B, i, none⟩ = some (.slice (some ⟨B + 1 + i, 0, none⟩) C C) ∧ (wx.setCell ⟨B + 1 + i, k, none⟩ v).cell? ⟨bb0, ob0 + i, none⟩ = some (.slice (some ⟨bb1, ob1, none⟩) C cb1) ∧ (wx.setCell ⟨B + 1 + i, k, none⟩ v).cell? ⟨bb1, ob1 + k, none⟩ = some (.int .i32 (G i k)))) := by
            intro wx v h
            have l1 := HE.out
            obtain ⟨_, l2⟩ := HLt.out
            rw [cell_set_ne v (by show w.heap.size ≠ B + 1 + i; omega), cell_set_ne v (by show B ≠ B + 1 + i; omega), cell_set_ne v (by show bb0 ≠ B + 1 + i; omega), cell_set_ne v (by show bb1 ≠ B + 1 + i; omega)]
            exact h
          have hPQ : ∀ (wx : World) (v u : Value), wx.cell? ⟨B + 1 + i, k, none⟩ = some u → (wx.setCell ⟨w.heap.size + 1 + i, k, none⟩ v).cell? ⟨B + 1 + i, k, none⟩ = some u := fun wx v u h => by rw [cell_set_ne v (by show B + 1 + i ≠ w.heap.size + 1 + i; have := HE.out; omega)]; exact h
          have hQP : ∀ (wx : World) (v u : Value), wx.cell? ⟨w.heap.size + 1 + i, k, none⟩ = some u → (wx.setCell ⟨B + 1 + i, k, none⟩ v).cell? ⟨w.heap.size + 1 + i, k, none⟩ = some u := fun wx v u h => by rw [cell_set_ne v (by show w.heap.size + 1 + i ≠ B + 1 + i; have := HE.out; omega)]; exact h
          clear hT hrow z1 z2 y1 y2 xs hfx hgx la1 lb1
          rcases hK with rfl | rfl
          · go_wp2
            go_region_held3 (fun wx => wx.cell? ⟨w.heap.size, i, none⟩ = some (.slice (some ⟨w.heap.size + 1 + i, 0, none⟩) C C) ∧ wx.cell? ⟨B, i, none⟩ = some (.slice (some ⟨B + 1 + i, 0, none⟩) C C) ∧ wx.cell? ⟨bb0, ob0 + i, none⟩ = some (.slice (some ⟨bb1, ob1, none⟩) C cb1) ∧ wx.cell? ⟨bb1, ob1 + k, none⟩ = some (.int .i32 (G i k)))
              (first | exact HXs.out | exact HSetP.out _ _ HXs.out | exact HSetQ.out _ _ HXs.out | exact HSetQ.out _ _ (HSetP.out _ _ HXs.out) | exact HSetP.out _ _ (HSetQ.out _ _ HXs.out))
              (first
                | (go_at_call 38; refine (hm _).mono ?_; rintro e w' ⟨rfl, rfl⟩))
            all_goals (
              go_wp2
              go_roundw
              case rel => exact ⟨k + 1, by omega, by go_num, by first | exact HS1.out _ | exact HS2.out _⟩
              case measure => simp [intOf]; omega)
          · go_wp2
            go_region_held3 (fun wx => wx.cell? ⟨w.heap.size, i, none⟩ = some (.slice (some ⟨w.heap.size + 1 + i, 0, none⟩) C C) ∧ wx.cell? ⟨B, i, none⟩ = some (.slice (some ⟨B + 1 + i, 0, none⟩) C C) ∧ wx.cell? ⟨bb0, ob0 + i, none⟩ = some (.slice (some ⟨bb1, ob1, none⟩) C cb1) ∧ wx.cell? ⟨bb1, ob1 + k, none⟩ = some (.int .i32 (G i k)))
              (first | exact HXs.out | exact HSetP.out _ _ HXs.out | exact HSetQ.out _ _ HXs.out | exact HSetQ.out _ _ (HSetP.out _ _ HXs.out) | exact HSetP.out _ _ (HSetQ.out _ _ HXs.out))
              (first
                | (go_at_call 39; refine (hm _).mono ?_; rintro e w' ⟨rfl, rfl⟩))
            all_goals (
              go_wp2
              go_roundw
              case rel => exact ⟨k + 1, by omega, by go_num, by first | exact HS1.out _ | exact HS2.out _⟩
              case measure => simp [intOf]; omega)
        · obtain rfl : k = C := by omega
          have HT : Hid (Two w.heap.size B n k ((i + 1) * k) (fun i b => f (F i b) (G i b)) (fun i b => g (F i b) (G i b)) w wr) := hT.ext (by rw [Nat.succ_mul])
          clear hT
          go_wp2
          go_roundw
          case rel => exact ⟨i + 1, by omega, by go_num, HT.out⟩
          case measure => simp [intOf]; omega
    · obtain rfl : i = n := by omega
      have HT : Hid (Two w.heap.size B i C (i * C) (fun i b => f (F i b) (G i b)) (fun i b => g (F i b) (G i b)) w wr) := hT
      clear hT
      go_wp2
      go_ret3
      exact ⟨rfl, HT.out⟩

/-- two planes that fit -/
def Fit (na nb : Nat) (la lb : Nat → Nat) : Prop := PlL na la ∧ PlL nb lb ∧ na = nb ∧ la 0 = lb 0

set_option maxHeartbeats 8000000 in
set_option maxRecDepth 100000 in
theorem mixed_no (K : FuncId) (hi : Nat) (va vb : Value) (na nb : Nat) (la lb : Nat → Nat) (w : World)
    (ha : Hd hi va na la w) (hb : Hd hi vb nb lb w) (fa : ¬ FarL na la) (fb : ¬ FarL nb lb) (hno : ¬ Fit na nb la lb) :
    Calls Try.prog 37 #[va, vb, .func (.func K) #[] #[]] w fun e w' => e = .returned (.tuple #[.slice none 0 0, .slice none 0 0, .int .i64 1]) ∧ ∃ m, w' = w.drewN m := by
  have ga : ∀ wx, wx.heap = w.heap → Calls Try.prog 35 #[va] wx fun e w' => Yes (PlL na la) wx e w' := fun wx he => isPlane_any hi va na la wx (ha.same he) fa
  have gb : ∀ wx, wx.heap = w.heap → Calls Try.prog 35 #[vb] wx fun e w' => Yes (PlL nb lb) wx e w' := fun wx he => isPlane_any hi vb nb lb wx (hb.same he) fb
  by_cases pa : PlL na la
  · have ya : ∀ wx, wx.heap = w.heap → Calls Try.prog 35 #[va] wx fun e w' => e = .returned (.bool true) ∧ w' = wx := fun wx he => (ga wx he).mono fun e w' h => h.yes pa
    by_cases pb : PlL nb lb
    · have yb : ∀ wx, wx.heap = w.heap → Calls Try.prog 35 #[vb] wx fun e w' => e = .returned (.bool true) ∧ w' = wx := fun wx he => (gb wx he).mono fun e w' h => h.yes pb
      obtain ⟨a1, a2, a3, _⟩ := pa
      obtain ⟨b1, b2, b3, _⟩ := pb
      have na40 : na ≤ 40 := by
        rcases Nat.lt_or_ge 40 na with h | h
        · exact absurd (.inl h) fa
        · exact h
      have nb40 : nb ≤ 40 := by
        rcases Nat.lt_or_ge 40 nb with h | h
        · exact absurd (.inl h) fb
        · exact h
      by_cases hn : na = nb
      · subst hn
        have hc : ¬ la 0 = lb 0 := fun h => hno ⟨⟨a1, a2, a3, by assumption⟩, ⟨b1, b2, b3, by assumption⟩, rfl, h⟩
        obtain ⟨ax, ca, rfl⟩ := ha.form
        obtain ⟨bx, cb, rfl⟩ := hb.form
        obtain ⟨p0, q0, rfl, _, hx⟩ := ha.at (by omega)
        obtain ⟨p1, q1, rfl, _, hy⟩ := hb.at (by omega)
        obtain ⟨u1, c1, hu1⟩ := hx 0 (by omega)
        obtain ⟨u2, c2, hu2⟩ := hy 0 (by omega)
        rw [Nat.add_zero] at hu1 hu2
        have n0 : (0 : Int) < na := by omega
        obtain ⟨C, hC⟩ : ∃ C, la 0 = C := ⟨_, rfl⟩
        obtain ⟨D, hD⟩ : ∃ D, lb 0 = D := ⟨_, rfl⟩
        rw [hC] at hu1 hc a2 a3
        rw [hD] at hu2 hc b2 b3
        have hne : ((C : Int) == (D : Int)) = false := by simp; omega
        have hne2 : ((C : Int) != (D : Int)) = true := by simp; omega
        have HYa : Hid _ := ya
        have HYb : Hid _ := yb
        clear ha hb fa fb hno ga gb hx hy hC hD ya yb
        go_enter Try.func37, Try.ntmps37
        go_wp2
        go_quiet (first
          | (go_at_call_of 35 ca; exact Calls.quiet_of_same (HYa.out _ rfl))
          | (go_at_call_of 35 cb; exact Calls.quiet_of_same (HYb.out _ rfl)))
        go_wp2
        go_ret3
        exact ⟨rfl, _, rfl⟩
      · obtain ⟨ax, ca, rfl⟩ := ha.form
        obtain ⟨bx, cb, rfl⟩ := hb.form
        have hne : ((na : Int) == (nb : Int)) = false := by simp; omega
        have hne2 : ((na : Int) != (nb : Int)) = true := by simp; omega
        have n0 : (na : Int) ≤ 40 := by omega
        have n1 : (nb : Int) ≤ 40 := by omega
        have HYa : Hid _ := ya
        have HYb : Hid _ := yb
        clear ha hb fa fb hno ga gb ya yb
        go_enter Try.func37, Try.ntmps37
        go_wp2
        go_quiet (first
          | (go_at_call_of 35 ca; exact Calls.quiet_of_same (HYa.out _ rfl))
          | (go_at_call_of 35 cb; exact Calls.quiet_of_same (HYb.out _ rfl)))
        go_wp2
        go_ret3
        exact ⟨rfl, _, rfl⟩
    · have yb : ∀ wx, wx.heap = w.heap → Calls Try.prog 35 #[vb] wx fun e w' => e = .returned (.bool false) ∧ w' = wx := fun wx he => (gb wx he).mono fun e w' h => h.no pb
      obtain ⟨ax, ca, rfl⟩ := ha.form
      obtain ⟨bx, cb, rfl⟩ := hb.form
      have HYa : Hid _ := ya
      have HYb : Hid _ := yb
      clear ha hb fa fb hno ga gb pa pb ya yb
      go_enter Try.func37, Try.ntmps37
      go_wp2
      go_quiet (first
        | (go_at_call_of 35 ca; exact Calls.quiet_of_same (HYa.out _ rfl))
        | (go_at_call_of 35 cb; exact Calls.quiet_of_same (HYb.out _ rfl)))
      go_wp2
      go_ret3
      exact ⟨rfl, _, rfl⟩
  · have ya : ∀ wx, wx.heap = w.heap → Calls Try.prog 35 #[va] wx fun e w' => e = .returned (.bool false) ∧ w' = wx := fun wx he => (ga wx he).mono fun e w' h => h.no pa
    obtain ⟨ax, ca, rfl⟩ := ha.form
    obtain ⟨bx, cb, rfl⟩ := hb.form
    have HYa : Hid _ := ya
    clear ha hb fa fb hno ga gb pa ya
    go_enter Try.func37, Try.ntmps37
    go_wp2
    go_quiet (first
      | (go_at_call_of 35 ca; exact Calls.quiet_of_same (HYa.out _ rfl)))
    go_wp2
    go_ret3
    exact ⟨rfl, _, rfl⟩

theorem Middle_ok (hi : Nat) (va vb : Value) (n C : Nat) (F G : Nat → Nat → Int) (w : World)
    (ha : Vw hi va n C F w) (hb : Vw hi vb n C G w) (hF : F32 F) (hG : F32 G) (n1 : 1 ≤ n) (n40 : n ≤ 40) (c1 : 1 ≤ C) (c8 : C ≤ 8) (hh : hi ≤ w.heap.size) :
    Calls Try.prog 19 #[va, vb] w fun e w' => e = .returned (.tuple #[.slice (some ⟨w.heap.size, 0, none⟩) n n, .slice (some ⟨w.heap.size + 1 + n, 0, none⟩) n n, .int .i64 0]) ∧
      Two w.heap.size (w.heap.size + 1 + n) n C (n * C) (fun i b => M.hs (F i b) (G i b)) (fun i b => M.hd (F i b) (G i b)) w w' := by
  have h1 := mixed_ok _ _ _ (.inl rfl) mix_halves hi va vb n C F G w ha hb hF hG n1 n40 c1 c8 hh
  obtain ⟨ba0, oa0, ca, rfl⟩ := ha.form
  obtain ⟨bb0, ob0, cb, rfl⟩ := hb.form
  clear ha hb hF hG
  go_enter Try.func19, Try.ntmps19
  go_wp2_with (go_at_call 37; refine h1.mono ?_; rintro e w2 ⟨rfl, h2⟩; have H2 : Hid _ := h2; clear h2)
  go_ret3
  exact ⟨rfl, H2.out⟩

theorem Sides_ok (hi : Nat) (va vb : Value) (n C : Nat) (F G : Nat → Nat → Int) (w : World)
    (ha : Vw hi va n C F w) (hb : Vw hi vb n C G w) (hF : F32 F) (hG : F32 G) (n1 : 1 ≤ n) (n40 : n ≤ 40) (c1 : 1 ≤ C) (c8 : C ≤ 8) (hh : hi ≤ w.heap.size) :
    Calls Try.prog 20 #[va, vb] w fun e w' => e = .returned (.tuple #[.slice (some ⟨w.heap.size, 0, none⟩) n n, .slice (some ⟨w.heap.size + 1 + n, 0, none⟩) n n, .int .i64 0]) ∧
      Two w.heap.size (w.heap.size + 1 + n) n C (n * C) (fun i b => M.sat32 (F i b + G i b)) (fun i b => M.sat32 (F i b - G i b)) w w' := by
  have h1 := mixed_ok _ _ _ (.inr rfl) mix_sums hi va vb n C F G w ha hb hF hG n1 n40 c1 c8 hh
  obtain ⟨ba0, oa0, ca, rfl⟩ := ha.form
  obtain ⟨bb0, ob0, cb, rfl⟩ := hb.form
  clear ha hb hF hG
  go_enter Try.func20, Try.ntmps20
  go_wp2_with (go_at_call 37; refine h1.mono ?_; rintro e w2 ⟨rfl, h2⟩; have H2 : Hid _ := h2; clear h2)
  go_ret3
  exact ⟨rfl, H2.out⟩

theorem Middle_no (hi : Nat) (va vb : Value) (na nb : Nat) (la lb : Nat → Nat) (w : World)
    (ha : Hd hi va na la w) (hb : Hd hi vb nb lb w) (fa : ¬ FarL na la) (fb : ¬ FarL nb lb) (hno : ¬ Fit na nb la lb) :
    Calls Try.prog 19 #[va, vb] w fun e w' => e = .returned (.tuple #[.slice none 0 0, .slice none 0 0, .int .i64 1]) ∧ ∃ m, w' = w.drewN m := by
  have h1 := mixed_no 38 hi va vb na nb la lb w ha hb fa fb hno
  obtain ⟨ax, ca, rfl⟩ := ha.form
  obtain ⟨bx, cb, rfl⟩ := hb.form
  clear ha hb fa fb hno
  go_enter Try.func19, Try.ntmps19
  go_wp2_with (go_at_call 37; refine h1.mono ?_; rintro e w2 ⟨rfl, m, rfl⟩)
  go_ret3
  exact ⟨rfl, m, rfl⟩

theorem Sides_no (hi : Nat) (va vb : Value) (na nb : Nat) (la lb : Nat → Nat) (w : World)
    (ha : Hd hi va na la w) (hb : Hd hi vb nb lb w) (fa : ¬ FarL na la) (fb : ¬ FarL nb lb) (hno : ¬ Fit na nb la lb) :
    Calls Try.prog 20 #[va, vb] w fun e w' => e = .returned (.tuple #[.slice none 0 0, .slice none 0 0, .int .i64 1]) ∧ ∃ m, w' = w.drewN m := by
  have h1 := mixed_no 39 hi va vb na nb la lb w ha hb fa fb hno
  obtain ⟨ax, ca, rfl⟩ := ha.form
  obtain ⟨bx, cb, rfl⟩ := hb.form
  clear ha hb fa fb hno
  go_enter Try.func20, Try.ntmps20
  go_wp2_with (go_at_call 37; refine h1.mono ?_; rintro e w2 ⟨rfl, m, rfl⟩)
  go_ret3
  exact ⟨rfl, m, rfl⟩

end Qnt
end Go.Proofs.Ytbfanglillndnaa
