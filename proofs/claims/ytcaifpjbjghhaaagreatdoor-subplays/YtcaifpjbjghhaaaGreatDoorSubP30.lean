import Derived.Deep.DeepCutAuto
import Derived.Deep.CutRange
import Derived.BigQuiet
import Derived.Test.YtcaifpjbjghhaaaGreatDoorSubP23
import Derived.Deep.RegionHeld3
/-
  Contracts of package quant: what is done to each pair of two planes. Conditions: as told at each.
-/
namespace Go.Proofs.YtcaifpjbjghhaaaGreatDoor
set_option linter.unusedVariables false
open Go.RowKit
namespace Qnt
open Bank (Blk But)
open Poly (cell_keep alloc_size enc enc_get enc_rep madeCells_rep)

theorem Hd.same {hi : Nat} {v : Value} {n : Nat} {l : Nat → Nat} {w wx : World} (h : Hd hi v n l w) (e : wx.heap = w.heap) : Hd hi v n l wx := by
  obtain ⟨a, cp, rfl, h⟩ := h
  refine ⟨a, cp, rfl, ?_⟩
  rcases h with h | ⟨b0, o0, rfl, h0, hx⟩
  · exact .inl h
  · refine .inr ⟨b0, o0, rfl, h0, fun i hi => ?_⟩
    obtain ⟨a1, c1, h⟩ := hx i hi
    exact ⟨a1, c1, by rw [← h]; simp [World.cell?, e]⟩

theorem halves_any (x y : Int) (w : World) (hx : -2147483648 ≤ x ∧ x ≤ 2147483647) (hy : -2147483648 ≤ y ∧ y ≤ 2147483647) :
    Calls Tryz.prog 106 #[.int .i32 x, .int .i32 y] w fun e w' => e = .returned (.tuple #[.int .i32 (M.hs x y), .int .i32 (M.hd x y)]) ∧ w' = w := by
  obtain ⟨x1, x2⟩ := hx
  obtain ⟨y1, y2⟩ := hy
  have H1 : Hid (M.hs x y = (x + y) / 2) := rfl
  have H2 : Hid (M.hd x y = (x - y) / 2) := rfl
  go_enter Tryz.func106, Tryz.ntmps106
  go_wp2
  go_ret2
  exact ⟨by rw [H1.out, H2.out]; rfl, rfl⟩

theorem sums_any (x y : Int) (w : World) (hx : -2147483648 ≤ x ∧ x ≤ 2147483647) (hy : -2147483648 ≤ y ∧ y ≤ 2147483647) :
    Calls Tryz.prog 120 #[.int .i32 x, .int .i32 y] w fun e w' => e = .returned (.tuple #[.int .i32 (M.sat32 (x + y)), .int .i32 (M.sat32 (x - y))]) ∧ w' = w := by
  have h1 := fun w => Add_any x y w hx hy
  have h2 := fun w => Sub_any x y w hx hy
  clear hx hy
  go_enter Tryz.func120, Tryz.ntmps120
  go_wp2_with (first
    | (go_at_call 168; refine (h1 _).mono ?_; rintro e w' ⟨rfl, rfl⟩)
    | (go_at_call 169; refine (h2 _).mono ?_; rintro e w' ⟨rfl, rfl⟩))
  go_ret2
  exact ⟨rfl, rfl⟩

structure Laid (a n C k : Nat) (w : World) : Prop where
  head : ∃ hd : Array Value, Blk w a hd 97 ∧ hd.size = n ∧ ∀ c, c < k → hd[c]? = some (.slice (some ⟨a + 1 + c, 0, none⟩) C C)
  row : ∀ c, c < k → Blk w (a + 1 + c) (enc .i32 (List.replicate C 0)).toArray 21
  size : w.heap.size = a + 1 + k
theorem Laid.step {a n C k : Nat} {w : World} (h : Laid a n C k w) (hk : k < n) : Laid a n C (k + 1) ((w.alloc (.cells (enc .i32 (List.replicate C 0)).toArray 21)).setCell ⟨a, k, none⟩ (.slice (some ⟨a + 1 + k, 0, none⟩) C C)) := by
  obtain ⟨⟨hd, h1, h2, h3⟩, h4, h5⟩ := h
  refine ⟨⟨_, (h1.alloc _).set _ _, by simpa using h2, fun r hr => ?_⟩, fun r hr => ?_, ?_⟩
  · rw [Array.getElem?_setIfInBounds]
    split
    · rename_i e; subst e; rw [if_pos (by omega)]
    · exact h3 r (by omega)
  · rcases (by omega : r < k ∨ r = k) with h' | rfl
    · exact ((h4 r h').alloc _).set_ne (by show a + 1 + r ≠ a; omega) _
    · refine Blk.set_ne ?_ (by show a + 1 + r ≠ a; omega) _
      rw [← h5]; exact Blk.new w _ _
  · simp [World.setCell, h5]; omega
theorem Laid.cell {a n C k : Nat} {w : World} (h : Laid a n C k w) {i : Nat} (hi : i < n) (o : Obj) : (∃ u, (w.alloc o).cell? ⟨a, i, none⟩ = some u) ∧ (w.alloc o).frozen? ⟨a, i, none⟩ = false := by
  obtain ⟨⟨hd, h1, h2, _⟩, _, _⟩ := h
  exact ⟨⟨hd[i]'(by omega), (h1.alloc _).cell (by simp [h2, hi])⟩, (h1.alloc _).free i⟩
theorem Laid.pln {a n C : Nat} {w : World} (h : Laid a n C n w) (F : Nat → Nat → Int) : Pln a n C 0 F w := by
  obtain ⟨⟨hd, h1, h2, h3⟩, h4, h5⟩ := h
  exact ⟨⟨hd, h1, h2, h3⟩, fun i hi => ⟨_, h4 i hi, by simp [Poly.enc_length], fun b hb hk => absurd hk (by omega)⟩⟩

set_option maxHeartbeats 4000000 in
set_option maxRecDepth 100000 in
theorem blank_any (hi : Nat) (v : Value) (n C : Nat) (F : Nat → Nat → Int) (w : World) (h : Vw hi v n C F w) (n40 : n ≤ 40) (c8 : C ≤ 8) (hh : hi ≤ w.heap.size) :
    Calls Tryz.prog 158 #[v] w fun e w' => e = .returned (.slice (some ⟨w.heap.size, 0, none⟩) n n) ∧ Below w.heap.size w w' ∧ (∀ G, Pln w.heap.size n C 0 G w') ∧ w'.heap.size = w.heap.size + 1 + n := by
  obtain ⟨b0, o0, cp, rfl⟩ := h.form
  have HA : Hid _ := h.all hh
  have n40' : (n : Int) ≤ 40 := by omega
  have c8' : (C : Int) ≤ 8 := by omega
  have hmk := makeQS w n (by omega)
  have HS : Hid (Laid w.heap.size n C 0 (w.alloc (.cells (List.replicate n (.slice none 0 0)).toArray 97))) :=
    ⟨⟨_, Blk.new _ _ _, by simp, fun c hc => absurd hc (by omega)⟩, fun c hc => absurd hc (by omega), by simp⟩
  have HL : Hid (Below w.heap.size w (w.alloc (.cells (List.replicate n (.slice none 0 0)).toArray 97))) := (Below.refl _ _).alloc (Nat.le_refl _) _
  clear h
  generalize (List.replicate n (Value.slice none 0 0)).toArray = cs at *
  go_enter Tryz.func158, Tryz.ntmps158
  go_wp2
  go_loopw [11] (fun i wr => ∃ k : Nat, k ≤ n ∧ i = .int .i64 k ∧ Laid w.heap.size n C k wr ∧ Below w.heap.size w wr) (fun i _ => n - (intOf i).toNat)
  case atStart => exact ⟨0, by omega, rfl, HS.out, HL.out⟩
  case round =>
    clear HS HL hmk
    obtain ⟨k, hk, rfl, hl, hbw⟩ := hrel
    by_cases hlt : k < n
    · have hlt' : (k : Int) < n := by omega
      obtain ⟨b1, o1, cp1, _, hrow⟩ := HA.out k hlt
      have hu := (hrow wr hbw).1
      have hmk := makeQ32 wr C (by omega)
      rw [hl.size] at hmk
      obtain ⟨⟨u, hu2⟩, hfz⟩ := hl.cell hlt (.cells (enc .i32 (List.replicate C 0)).toArray 21)
      have HS : Hid (Laid w.heap.size n C (k + 1) _) := hl.step hlt
      have HL : Hid (Below w.heap.size w ((wr.alloc (.cells (enc .i32 (List.replicate C 0)).toArray 21)).setCell ⟨w.heap.size, k, none⟩ (.slice (some ⟨w.heap.size + 1 + k, 0, none⟩) C C))) := (hbw.alloc hbw.size _).setCell (Nat.le_refl _) _
      clear hl hbw hrow
      generalize (enc .i32 (List.replicate C 0)).toArray = cs2 at *
      go_wp2
      go_roundw
      case rel => exact ⟨k + 1, by omega, by go_num, HS.out, HL.out⟩
      case measure => simp [intOf]; omega
    · obtain rfl : k = n := by omega
      have HS : Hid (Laid w.heap.size k C k wr) := hl
      have HL : Hid _ := hbw
      clear hl hbw
      go_wp2
      go_ret
      exact ⟨rfl, HL.out, fun G => HS.out.pln G, HS.out.size⟩

end Qnt
end Go.Proofs.YtcaifpjbjghhaaaGreatDoor

/-
  Contracts of package quant: what is done to each pair of two planes, whole, and its error. Conditions: as told at each.
-/
namespace Go.Proofs.YtcaifpjbjghhaaaGreatDoor
set_option linter.unusedVariables false
open Go.RowKit
namespace Qnt
open Bank (Blk But)
open Poly (cell_keep alloc_size)

theorem cell_set_ne {w : World} {p q : Addr} (v : Value) (h : q.block ≠ p.block) : (w.setCell p v).cell? q = w.cell? q := by
  simp [World.cell?, Below.heap_setCell _ _ _ _ h]

def Fits (x : Int) : Prop := -2147483648 ≤ x ∧ x ≤ 2147483647
def Mix (K : FuncId) (f g : Int → Int → Int) : Prop := ∀ x y w, Fits x → Fits y → Calls Tryz.prog K #[.int .i32 x, .int .i32 y] w fun e w' => e = .returned (.tuple #[.int .i32 (f x y), .int .i32 (g x y)]) ∧ w' = w
theorem mix_halves : Mix 106 M.hs M.hd := fun x y w hx hy => halves_any x y w hx hy
structure Two (A B n C k : Nat) (P Q : Nat → Nat → Int) (w0 w : World) : Prop where
  one : Pln A n C k P w
  two : Pln B n C k Q w
  bel : Below A w0 w
  size : w.heap.size = B + 1 + n
theorem Two.drewN {A B n C k : Nat} {P Q : Nat → Nat → Int} {w0 w : World} (h : Two A B n C k P Q w0 w) (m : Nat) : Two A B n C k P Q w0 (w.drewN m) := ⟨h.one.drewN m, h.two.drewN m, ⟨h.bel.os, h.bel.tape, h.bel.output, h.bel.size, h.bel.block⟩, h.size⟩
theorem Two.ext {A B n C k k' : Nat} {P Q : Nat → Nat → Int} {w0 w : World} (h : Two A B n C k P Q w0 w) (e : k = k') : Two A B n C k' P Q w0 w := e ▸ h
theorem Two.step {A B n C : Nat} {P Q : Nat → Nat → Int} {w0 w : World} {i b : Nat} (h : Two A B n C (i * C + b) P Q w0 w) (hAB : A + n < B) (hi : i < n) (hb : b < C) {x y : Int} (hx : x = P i b) (hy : y = Q i b) :
    Two A B n C (i * C + (b + 1)) P Q w0 ((w.setCell ⟨A + 1 + i, b, none⟩ (.int .i32 x)).setCell ⟨B + 1 + i, b, none⟩ (.int .i32 y)) :=
  ⟨(h.one.step hi hb hx).set_ne (.inr (by show A + n < B + 1 + i; omega)) _, (h.two.set_ne (.inl (by show A + 1 + i < B; omega)) _).step hi hb hy,
   (h.bel.setCell (by show A ≤ A + 1 + i; omega) _).setCell (by show A ≤ B + 1 + i; omega) _, by have := h.size; simpa [World.setCell] using this⟩
theorem Two.step' {A B n C : Nat} {P Q : Nat → Nat → Int} {w0 w : World} {i b : Nat} (h : Two A B n C (i * C + b) P Q w0 w) (hAB : A + n < B) (hi : i < n) (hb : b < C) {x y : Int} (hx : x = P i b) (hy : y = Q i b) :
    Two A B n C (i * C + (b + 1)) P Q w0 ((w.setCell ⟨B + 1 + i, b, none⟩ (.int .i32 y)).setCell ⟨A + 1 + i, b, none⟩ (.int .i32 x)) :=
  ⟨(h.one.set_ne (.inr (by show A + n < B + 1 + i; omega)) _).step hi hb hx, (h.two.step hi hb hy).set_ne (.inl (by show A + 1 + i < B; omega)) _,
   (h.bel.setCell (by show A ≤ B + 1 + i; omega) _).setCell (by show A ≤ A + 1 + i; omega) _, by have := h.size; simpa [World.setCell] using this⟩

set_option maxHeartbeats 8000000 in
set_option maxRecDepth 100000 in
theorem mixed_ok (K : FuncId) (f g : Int → Int → Int) (hK : K = 106 ∨ K = 120) (hM : Mix K f g) (hi : Nat) (va vb : Value) (n C : Nat) (F G : Nat → Nat → Int) (w : World)
    (ha : Vw hi va n C F w) (hb : Vw hi vb n C G w) (hF : F32 F) (hG : F32 G) (n1 : 1 ≤ n) (n40 : n ≤ 40) (c1 : 1 ≤ C) (c8 : C ≤ 8) (hh : hi ≤ w.heap.size) :
    Calls Tryz.prog 105 #[va, vb, .func (.func K) #[] #[]] w fun e w' => e = .returned (.tuple #[.slice (some ⟨w.heap.size, 0, none⟩) n n, .slice (some ⟨w.heap.size + 1 + n, 0, none⟩) n n, .int .i64 0]) ∧
      Two w.heap.size (w.heap.size + 1 + n) n C (n * C) (fun i b => f (F i b) (G i b)) (fun i b => g (F i b) (G i b)) w w' := by
  have hpl : ∀ v wx, (v = va ∨ v = vb) → wx.heap = w.heap → Calls Tryz.prog 107 #[v] wx fun e w' => e = .returned (.bool true) ∧ w' = wx := fun v wx hv he => by
    rcases hv with rfl | rfl
    · exact (isPlane_any hi v n (fun _ => C) wx (ha.hd.same he) (not_far n40 c8)).mono fun e w' h => h.yes ⟨n1, c1, c8, fun _ _ => rfl⟩
    · exact (isPlane_any hi v n (fun _ => C) wx (hb.hd.same he) (not_far n40 c8)).mono fun e w' h => h.yes ⟨n1, c1, c8, fun _ _ => rfl⟩
  have hbl : ∀ wx, Below w.heap.size w wx → Calls Tryz.prog 158 #[va] wx fun e w' => e = .returned (.slice (some ⟨wx.heap.size, 0, none⟩) n n) ∧ Below wx.heap.size wx w' ∧ (∀ G, Pln wx.heap.size n C 0 G w') ∧ w'.heap.size = wx.heap.size + 1 + n :=
    fun wx hbw => blank_any hi va n C F wx (ha.below hbw hh) n40 c8 (by have := hbw.size; omega)
  have hHA := ha.hd
  have hHB := hb.hd
  have HP : Hid _ := hpl
  have HBl : Hid _ := hbl
  obtain ⟨ba0, oa0, ca, rfl⟩ := ha.form
  obtain ⟨bb0, ob0, cb, rfl⟩ := hb.form
  have HA : Hid _ := ha.all hh
  have HB : Hid _ := hb.all hh
  obtain ⟨a1, p1, q1, _, hu1⟩ := HA.out 0 (by omega)
  obtain ⟨a2, p2, q2, _, hu2⟩ := HB.out 0 (by omega)
  replace hu1 := (hu1 w (Below.refl _ _)).1
  replace hu2 := (hu2 w (Below.refl _ _)).1
  rw [Nat.add_zero] at hu1 hu2
  have n0' : (0 : Int) < n := by omega
  have n40' : (n : Int) ≤ 40 := by omega
  have c8' : (C : Int) ≤ 8 := by omega
  have HFf : Hid (F32 F) := hF
  have HGf : Hid (F32 G) := hG
  have HM : Hid (Mix K f g) := hM
  obtain ⟨B, hB⟩ : ∃ B, w.heap.size + 1 + n = B := ⟨_, rfl⟩
  rw [hB]
  have HE : Hid (w.heap.size + 1 + n = B) := hB
  have HLt : Hid (ba0 < w.heap.size ∧ bb0 < w.heap.size) := by
    obtain ⟨_, _, e1, _, l1, _⟩ := ha.at
    obtain ⟨_, _, e2, _, l2, _⟩ := hb.at
    cases e1; cases e2
    exact ⟨by omega, by omega⟩
  clear ha hb hF hG hM hpl hbl hHA hHB hB
  go_enter Tryz.func105, Tryz.ntmps105
  go_wp2
  go_quiet (first | (go_at_call 107; exact Calls.quiet_of_same (HP.out _ _ (by first | exact .inl rfl | exact .inr rfl) rfl)))
  go_wp2_with (first
    | (go_at_call 158; refine hbl3.mono ?_; rintro e w4 ⟨rfl, b4, p4, s4⟩; have T4 : Hid (Two w.heap.size B n C 0 (fun i b => f (F i b) (G i b)) (fun i b => g (F i b) (G i b)) w w4) := ⟨(P3.out _).below b4 (by have := HE.out; omega), p4 _, BW3.out.trans (b4.mono (by have := HE.out; omega)), s4⟩; clear b4 p4 s4 hbl3)
    | (go_at_call 158; refine (HBl.out _ (bel_drewN w _)).mono ?_; rintro e w3 ⟨rfl, b3, p3, s3⟩; have BW3 : Hid (Below w.heap.size w w3) := (bel_drewN w _).trans b3; have P3 : Hid (∀ G, Pln w.heap.size n C 0 G w3) := p3; have hbl3 := HBl.out w3 BW3.out; rw [show w3.heap.size = B from s3.trans HE.out] at hbl3; clear b3 p3 s3))
  go_loopw [45] (fun i wr => ∃ k : Nat, k ≤ n ∧ i = .int .i64 k ∧ Two w.heap.size B n C (k * C) (fun i b => f (F i b) (G i b)) (fun i b => g (F i b) (G i b)) w wr) (fun i _ => n - (intOf i).toNat)
  case atStart => exact ⟨0, by omega, rfl, T4.out.ext (Nat.zero_mul C).symm⟩
  case round =>
    clear T4 hu1 hu2
    obtain ⟨i, hi', rfl, hT⟩ := hrel
    by_cases hlt : i < n
    · have hlt' : (i : Int) < n := by omega
      obtain ⟨ba1, oa1, ca1, la1, hrow⟩ := HA.out i hlt
      have hu := (hrow wr hT.bel).1
      have HRow : Hid (∀ wx, Below w.heap.size w wx → ∀ k, k < C → wx.cell? ⟨ba1, oa1 + k, none⟩ = some (.int .i32 (F i k))) := fun wx hbx => (hrow wx hbx).2
      have HT : Hid (Two w.heap.size B n C (i * C) (fun i b => f (F i b) (G i b)) (fun i b => g (F i b) (G i b)) w wr) := hT
      clear hrow hT
      go_wp2
      go_loopw [52] (fun j wx => ∃ k : Nat, k ≤ C ∧ j = .int .i64 k ∧ Two w.heap.size B n C (i * C + k) (fun i b => f (F i b) (G i b)) (fun i b => g (F i b) (G i b)) w wx) (fun j _ => C - (intOf j).toNat)
      case atStart => exact ⟨0, by omega, rfl, HT.out⟩
      case round =>
        clear HT hu
        obtain ⟨k, hk, rfl, hT⟩ := hrel
        by_cases hkl : k < C
        · have hkl' : (k : Int) < C := by omega
          have hx := HRow.out wr hT.bel k hkl
          obtain ⟨bb1, ob1, cb1, lb1, hrow⟩ := HB.out i hlt
          obtain ⟨y1, y2⟩ := hrow wr hT.bel
          replace y2 := y2 k hkl
          have z1 := hT.one.at_head hlt
          have z2 := hT.two.at_head hlt
          obtain ⟨⟨u1, hP⟩, hPf⟩ := hT.one.free hlt hkl
          obtain ⟨⟨u2, hQ⟩, hQf⟩ := hT.two.free hlt hkl
          have hm := fun wx => HM.out (F i k) (G i k) wx (HFf.out i k) (HGf.out i k)
          obtain ⟨fx, hfx⟩ : ∃ fx, f (F i k) (G i k) = fx := ⟨_, rfl⟩
          obtain ⟨gx, hgx⟩ : ∃ gx, g (F i k) (G i k) = gx := ⟨_, rfl⟩
          rw [hfx, hgx] at hm
          have HS1 : Hid (∀ m, Two w.heap.size B n C (i * C + (k + 1)) (fun i b => f (F i b) (G i b)) (fun i b => g (F i b) (G i b)) w (((wr.drewN m).setCell ⟨w.heap.size + 1 + i, k, none⟩ (.int .i32 fx)).setCell ⟨B + 1 + i, k, none⟩ (.int .i32 gx))) := fun m => (hT.drewN m).step (by have := HE.out; omega) hlt hkl hfx.symm hgx.symm
          have HS2 : Hid (∀ m, Two w.heap.size B n C (i * C + (k + 1)) (fun i b => f (F i b) (G i b)) (fun i b => g (F i b) (G i b)) w (((wr.drewN m).setCell ⟨B + 1 + i, k, none⟩ (.int .i32 gx)).setCell ⟨w.heap.size + 1 + i, k, none⟩ (.int .i32 fx))) := fun m => (hT.drewN m).step' (by have := HE.out; omega) hlt hkl hfx.symm hgx.symm
          have xs : wr.cell? ⟨w.heap.size, i, none⟩ = some (.slice (some ⟨w.heap.size + 1 + i, 0, none⟩) C C) ∧ wr.cell? ⟨B, i, none⟩ = some (.slice (some ⟨B + 1 + i, 0, none⟩) C C) ∧ wr.cell? ⟨bb0, ob0 + i, none⟩ = some (.slice (some ⟨bb1, ob1, none⟩) C cb1) ∧ wr.cell? ⟨bb1, ob1 + k, none⟩ = some (.int .i32 (G i k)) := ⟨z1, z2, y1, y2⟩
          have HXs : Hid _ := xs
          have HSetP : Hid (∀ (wx : World) (v : Value), (wx.cell? ⟨w.heap.size, i, none⟩ = some (.slice (some ⟨w.heap.size + 1 + i, 0, none⟩) C C) ∧ wx.cell? ⟨B, i, none⟩ = some (.slice (some ⟨B + 1 + i, 0, none⟩) C C) ∧ wx.cell? ⟨bb0, ob0 + i, none⟩ = some (.slice (some ⟨bb1, ob1, none⟩) C cb1) ∧ wx.cell? ⟨bb1, ob1 + k, none⟩ = some (.int .i32 (G i k))) →
              ((wx.setCell ⟨w.heap.size + 1 + i, k, none⟩ v).cell? ⟨w.heap.size, i, none⟩ = some (.slice (some ⟨w.heap.size + 1 + i, 0, none⟩) C C) ∧ (wx.setCell ⟨w.heap.size + 1 + i, k, none⟩ v).cell? ⟨B, i, none⟩ = some (.slice (some ⟨B + 1 + i, 0, none⟩) C C) ∧ (wx.setCell ⟨w.heap.size + 1 + i, k, none⟩ v).cell? ⟨bb0, ob0 + i, none⟩ = some (.slice (some ⟨bb1, ob1, none⟩) C cb1) ∧ (wx.setCell ⟨w.heap.size + 1 + i, k, none⟩ v).cell? ⟨bb1, ob1 + k, none⟩ = some (.int .i32 (G i k)))) := by
            intro wx v h
            have l1 := HE.out
            obtain ⟨_, l2⟩ := HLt.out
            rw [cell_set_ne v (by show w.heap.size ≠ w.heap.size + 1 + i; omega), cell_set_ne v (by show B ≠ w.heap.size + 1 + i; omega), cell_set_ne v (by show bb0 ≠ w.heap.size + 1 + i; omega), cell_set_ne v (by show bb1 ≠ w.heap.size + 1 + i; omega)]
            exact h
          have HSetQ : Hid (∀ (wx : World) (v : Value), (wx.cell? ⟨w.heap.size, i, none⟩ = some (.slice (some ⟨w.heap.size + 1 + i, 0, none⟩) C C) ∧ wx.cell? ⟨B, i, none⟩ = some (.slice (some ⟨B + 1 + i, 0, none⟩) C C) ∧ wx.cell? ⟨bb0, ob0 + i, none⟩ = some (.slice (some ⟨bb1, ob1, none⟩) C cb1) ∧ wx.cell? ⟨bb1, ob1 + k, none⟩ = some (.int .i32 (G i k))) →
              ((wx.setCell ⟨B + 1 + i, k, none⟩ v).cell? ⟨w.heap.size, i, none⟩ = some (.slice (some ⟨w.heap.size + 1 + i, 0, none⟩) C C) ∧ (wx.setCell ⟨B + 1 + i, k, none⟩ v).cell? ⟨B, i, none⟩ = some (.slice (some ⟨B + 1 + i, 0, none⟩) C C) ∧ (wx.setCell ⟨B + 1 + i, k, none⟩ v).cell? ⟨bb0, ob0 + i, none⟩ = some (.slice (some ⟨bb1, ob1, none⟩) C cb1) ∧ (wx.setCell ⟨B + 1 + i, k, none⟩ v).cell? ⟨bb1, ob1 + k, none⟩ = some (.int .i32 (G i k)))) := by
            intro wx v h
            have l1 := HE.out
            obtain ⟨_, l2⟩ := HLt.out
            rw [cell_set_ne v (by show w.heap.size ≠ B + 1 + i; omega), cell_set_ne v (by show B ≠ B + 1 + i; omega), cell_set_ne v (by show bb0 ≠ B + 1 + i; omega), cell_set_ne v (by show bb1 ≠ B + 1 + i; omega)]
            exact h
          have hPQ : ∀ (wx : World) (v u : Value), wx.cell? ⟨B + 1 + i, k, none⟩ = some u → (wx.setCell ⟨w.heap.size + 1 + i, k, none⟩ v).cell? ⟨B + 1 + i, k, none⟩ = some u := fun wx v u h => by rw [cell_set_ne v (by show B + 1 + i ≠ w.heap.size + 1 + i; have := HE.out; omega)]; exact h
          have hQP : ∀ (wx : World) (v u : Value), wx.cell? ⟨w.heap.size + 1 + i, k, none⟩ = some u → (wx.setCell ⟨B + 1 + i, k, none⟩ v).cell? ⟨w.heap.size + 1 + i, k, none⟩ = some u := fun wx v u h => by rw [cell_set_ne v (by show w.heap.size + 1 + i ≠ B + 1 + i; have := HE.out; omega)]; exact h
          clear hT hrow z1 z2 y1 y2 xs hfx hgx la1 lb1
          rcases hK with rfl | rfl
          · go_wp2
            go_region_held3 (fun wx => wx.cell? ⟨w.heap.size, i, none⟩ = some (.slice (some ⟨w.heap.size + 1 + i, 0, none⟩) C C) ∧ wx.cell? ⟨B, i, none⟩ = some (.slice (some ⟨B + 1 + i, 0, none⟩) C C) ∧ wx.cell? ⟨bb0, ob0 + i, none⟩ = some (.slice (some ⟨bb1, ob1, none⟩) C cb1) ∧ wx.cell? ⟨bb1, ob1 + k, none⟩ = some (.int .i32 (G i k)))
              (first | exact HXs.out | exact HSetP.out _ _ HXs.out | exact HSetQ.out _ _ HXs.out | exact HSetQ.out _ _ (HSetP.out _ _ HXs.out) | exact HSetP.out _ _ (HSetQ.out _ _ HXs.out))
              (first
                | (go_at_call 106; refine (hm _).mono ?_; rintro e w' ⟨rfl, rfl⟩))
            all_goals (
              go_wp2
              go_roundw
              case rel => exact ⟨k + 1, by omega, by go_num, by first | exact HS1.out _ | exact HS2.out _⟩
              case measure => simp [intOf]; omega)
          · go_wp2
            go_region_held3 (fun wx => wx.cell? ⟨w.heap.size, i, none⟩ = some (.slice (some ⟨w.heap.size + 1 + i, 0, none⟩) C C) ∧ wx.cell? ⟨B, i, none⟩ = some (.slice (some ⟨B + 1 + i, 0, none⟩) C C) ∧ wx.cell? ⟨bb0, ob0 + i, none⟩ = some (.slice (some ⟨bb1, ob1, none⟩) C cb1) ∧ wx.cell? ⟨bb1, ob1 + k, none⟩ = some (.int .i32 (G i k)))
              (first | exact HXs.out | exact HSetP.out _ _ HXs.out | exact HSetQ.out _ _ HXs.out | exact HSetQ.out _ _ (HSetP.out _ _ HXs.out) | exact HSetP.out _ _ (HSetQ.out _ _ HXs.out))
              (first
                | (go_at_call 120; refine (hm _).mono ?_; rintro e w' ⟨rfl, rfl⟩))
            all_goals (
              go_wp2
              go_roundw
              case rel => exact ⟨k + 1, by omega, by go_num, by first | exact HS1.out _ | exact HS2.out _⟩
              case measure => simp [intOf]; omega)
        · obtain rfl : k = C := by omega
          have HT : Hid (Two w.heap.size B n k ((i + 1) * k) (fun i b => f (F i b) (G i b)) (fun i b => g (F i b) (G i b)) w wr) := hT.ext (by rw [Nat.succ_mul])
          clear hT
          go_wp2
          go_roundw
          case rel => exact ⟨i + 1, by omega, by go_num, HT.out⟩
          case measure => simp [intOf]; omega
    · obtain rfl : i = n := by omega
      have HT : Hid (Two w.heap.size B i C (i * C) (fun i b => f (F i b) (G i b)) (fun i b => g (F i b) (G i b)) w wr) := hT
      clear hT
      go_wp2
      go_ret3
      exact ⟨rfl, HT.out⟩

theorem Middle_ok (hi : Nat) (va vb : Value) (n C : Nat) (F G : Nat → Nat → Int) (w : World)
    (ha : Vw hi va n C F w) (hb : Vw hi vb n C G w) (hF : F32 F) (hG : F32 G) (n1 : 1 ≤ n) (n40 : n ≤ 40) (c1 : 1 ≤ C) (c8 : C ≤ 8) (hh : hi ≤ w.heap.size) :
    Calls Tryz.prog 47 #[va, vb] w fun e w' => e = .returned (.tuple #[.slice (some ⟨w.heap.size, 0, none⟩) n n, .slice (some ⟨w.heap.size + 1 + n, 0, none⟩) n n, .int .i64 0]) ∧
      Two w.heap.size (w.heap.size + 1 + n) n C (n * C) (fun i b => M.hs (F i b) (G i b)) (fun i b => M.hd (F i b) (G i b)) w w' := by
  have h1 := mixed_ok _ _ _ (.inl rfl) mix_halves hi va vb n C F G w ha hb hF hG n1 n40 c1 c8 hh
  obtain ⟨ba0, oa0, ca, rfl⟩ := ha.form
  obtain ⟨bb0, ob0, cb, rfl⟩ := hb.form
  clear ha hb hF hG
  go_enter Tryz.func47, Tryz.ntmps47
  go_wp2_with (go_at_call 105; refine h1.mono ?_; rintro e w2 ⟨rfl, h2⟩; have H2 : Hid _ := h2; clear h2)
  go_ret3
  exact ⟨rfl, H2.out⟩

end Qnt
end Go.Proofs.YtcaifpjbjghhaaaGreatDoor

/-
  Contracts of package quant: which bands are better joined. Conditions: as told at each.
-/
namespace Go.Proofs.YtcaifpjbjghhaaaGreatDoor
set_option linter.unusedVariables false
open Go.RowKit
namespace M
def jb (A B : Nat → Int) (C b : Nat) : Bool := decide (b + 1 < C) && decide (B b < A b)
def tg (F G : Nat → Nat → Int) (n b : Nat) : Int := scl F n b + scl G n b
theorem tg_bd (F G : Nat → Nat → Int) (n b : Nat) : 0 ≤ tg F G n b ∧ tg F G n b ≤ 30 := by
  unfold tg; have := scl_bd F n b; have := scl_bd G n b; omega
end M
namespace Qnt
open Bank (Blk But)
open Poly (cell_keep alloc_size)

def TbV (g : Nat) (t : TypeId) (C : Nat) (V : Nat → Value) (w : World) : Prop := ∃ tab : Array Value, Blk w g tab t ∧ tab.size = C ∧ ∀ j, j < C → tab[j]? = some (V j)
theorem TbV.cell {g : Nat} {t : TypeId} {C : Nat} {V : Nat → Value} {w : World} (h : TbV g t C V w) {j : Nat} (hj : j < C) : w.cell? ⟨g, j, none⟩ = some (V j) := by
  obtain ⟨tab, h1, _, h2⟩ := h; exact h1.cell (h2 j hj)
theorem TbV.free {g : Nat} {t : TypeId} {C : Nat} {V : Nat → Value} {w : World} (h : TbV g t C V w) (j : Nat) : w.frozen? ⟨g, j, none⟩ = false := by
  obtain ⟨tab, h1, _⟩ := h; exact h1.free j
theorem TbV.lt {g : Nat} {t : TypeId} {C : Nat} {V : Nat → Value} {w : World} (h : TbV g t C V w) : g < w.heap.size := by
  obtain ⟨tab, h1, _⟩ := h; exact h1.lt
theorem TbV.below {g B : Nat} {t : TypeId} {C : Nat} {V : Nat → Value} {w w' : World} (h : TbV g t C V w) (hb : Below B w w') (hB : g < B) : TbV g t C V w' := by
  obtain ⟨tab, h1, h2⟩ := h; exact ⟨tab, (hb.block g hB).trans h1, h2⟩
theorem TbV.drewN {g : Nat} {t : TypeId} {C : Nat} {V : Nat → Value} {w : World} (h : TbV g t C V w) (m : Nat) : TbV g t C V (w.drewN m) := h
theorem TbV.set {g : Nat} {t : TypeId} {C : Nat} {V V' : Nat → Value} {w : World} (h : TbV g t C V w) {b : Nat} (hb : b < C) {x : Value} (hx : x = V' b) (ho : ∀ j, j ≠ b → V' j = V j) : TbV g t C V' (w.setCell ⟨g, b, none⟩ x) := by
  obtain ⟨tab, h1, h2, h3⟩ := h
  refine ⟨_, h1.set b _, by simpa using h2, fun j hj => ?_⟩
  rw [Array.getElem?_setIfInBounds]
  split
  · rename_i e; subst e; rw [if_pos (by omega), hx]
  · rename_i e; rw [h3 j hj, ho j (fun e' => e e'.symm)]
theorem TbV.ext {g : Nat} {t : TypeId} {C : Nat} {V V' : Nat → Value} {w : World} (h : TbV g t C V w) (ho : ∀ j, j < C → V' j = V j) : TbV g t C V' w := by
  obtain ⟨tab, h1, h2, h3⟩ := h
  exact ⟨tab, h1, h2, fun j hj => by rw [h3 j hj, ho j hj]⟩

set_option maxHeartbeats 4000000 in
set_option maxRecDepth 100000 in
theorem together_any (hi : Nat) (va vb : Value) (n C : Nat) (F G : Nat → Nat → Int) (w : World) (ha : Vw hi va n C F w) (hb : Vw hi vb n C G w) (hF : F32 F) (hG : F32 G) (n1 : 1 ≤ n) (n40 : n ≤ 40) (c1 : 1 ≤ C) (c8 : C ≤ 8) (hh : hi ≤ w.heap.size) :
    Calls Tryz.prog 157 #[va, vb] w fun e w' => e = .returned (.slice (some ⟨w.heap.size + 1, 0, none⟩) C C) ∧ Below w.heap.size w w' ∧ Tb (w.heap.size + 1) 3 .i64 C (M.tg F G n) w' ∧ w'.heap.size = w.heap.size + 4 := by
  have h1 := scalesOf_any hi va n C F w ha hF n1 n40 c1 c8 hh
  have h2 : ∀ wx, Below w.heap.size w wx → wx.heap.size = w.heap.size + 2 → Calls Tryz.prog 108 #[vb] wx fun e w' => e = .returned (.slice (some ⟨w.heap.size + 3, 0, none⟩) C C) ∧ Below (w.heap.size + 2) wx w' ∧ Tb (w.heap.size + 3) 3 .i64 C (M.scl G n) w' ∧ w'.heap.size = w.heap.size + 4 := fun wx hb' hs => by
    have := scalesOf_any hi vb n C G wx (hb.below hb' hh) hG n1 n40 c1 c8 (by omega)
    rw [hs] at this
    exact this
  obtain ⟨ba0, oa0, ca, rfl⟩ := ha.form
  obtain ⟨bb0, ob0, cb, rfl⟩ := hb.form
  have c1' : (1 : Int) ≤ C := by omega
  have c8' : (C : Int) ≤ 8 := by omega
  have HF : Hid (∀ b, 0 ≤ M.scl F n b ∧ M.scl F n b ≤ 15) := M.scl_bd F n
  have HG : Hid (∀ b, 0 ≤ M.scl G n b ∧ M.scl G n b ≤ 15) := M.scl_bd G n
  have HT : Hid (∀ b, M.tg F G n b = M.scl F n b + M.scl G n b) := fun b => rfl
  have H2 : Hid _ := h2
  clear ha hb hF hG h2
  generalize M.tg F G n = T at *
  generalize M.scl F n = P at *
  generalize M.scl G n = Q at *
  go_enter Tryz.func157, Tryz.ntmps157
  go_wp2_with (first
    | (go_at_call_of 108 ca; refine h1.mono ?_; rintro e w3 ⟨rfl, b3, t3, s3⟩; have B3 : Hid (Below w.heap.size w w3) := b3; have T3 : Hid (Tb (w.heap.size + 1) 3 .i64 C P w3) := t3; have S3 : Hid (w3.heap.size = w.heap.size + 2) := s3; clear b3 t3 s3 h1)
    | (go_at_call_of 108 cb; refine (H2.out _ B3.out S3.out).mono ?_; rintro e w4 ⟨rfl, b4, t4, s4⟩; have B4 : Hid (Below w.heap.size w w4) := B3.out.trans (b4.mono (by omega)); have T4 : Hid (Tb (w.heap.size + 3) 3 .i64 C Q w4) := t4; have S4 : Hid (w4.heap.size = w.heap.size + 4) := s4; have U4 : Hid (Tb (w.heap.size + 1) 3 .i64 C P w4) := T3.out.below b4 (by omega); clear b4 t4 s4))
  go_loopw [13] (fun i wr => ∃ k : Nat, k ≤ C ∧ i = .int .i64 k ∧ Tb (w.heap.size + 1) 3 .i64 C (fun j => if j < k then T j else P j) wr ∧ Tb (w.heap.size + 3) 3 .i64 C Q wr ∧ Below w.heap.size w wr ∧ wr.heap.size = w.heap.size + 4) (fun i _ => C - (intOf i).toNat)
  case atStart => exact ⟨0, by omega, rfl, U4.out.ext fun j _ => if_neg (by omega), T4.out, B4.out, S4.out⟩
  case round =>
    clear U4 T4 B4 S4 T3 B3 S3
    obtain ⟨k, hk, rfl, ht, hq, hb, hs⟩ := hrel
    by_cases hkl : k < C
    · have hkl' : (k : Int) < C := by omega
      have x1 := ht.cell hkl
      have xf := ht.free k
      rw [if_neg (by omega)] at x1
      have x2 := hq.cell hkl
      have HSt : Hid (Tb (w.heap.size + 1) 3 .i64 C (fun j => if j < k + 1 then T j else P j) (wr.setCell ⟨w.heap.size + 1, k, none⟩ (.int .i64 (P k + Q k)))) :=
        ht.set hkl (by rw [if_pos (by omega), HT.out]) fun j hj => by
          by_cases hjk : j < k
          · rw [if_pos (by omega), if_pos hjk]
          · rw [if_neg (by omega), if_neg hjk]
      have HQ : Hid (∀ x, Tb (w.heap.size + 3) 3 .i64 C Q (wr.setCell ⟨w.heap.size + 1, k, none⟩ x)) := fun x => hq.set_ne (by show w.heap.size + 3 ≠ w.heap.size + 1; omega) x
      have HB : Hid (∀ x, Below w.heap.size w (wr.setCell ⟨w.heap.size + 1, k, none⟩ x)) := fun x => hb.setCell (Nat.le_succ _) _
      have HS : Hid (∀ x, (wr.setCell ⟨w.heap.size + 1, k, none⟩ x).heap.size = w.heap.size + 4) := fun x => by simpa [World.setCell] using hs
      obtain ⟨p1, p2⟩ := HF.out k
      obtain ⟨q1, q2⟩ := HG.out k
      clear ht hq hb hs
      generalize P k = p at *
      generalize Q k = q at *
      go_wp2
      go_roundw
      case rel => exact ⟨k + 1, by omega, by go_num, HSt.out, HQ.out _, HB.out _, HS.out _⟩
      case measure => simp [intOf]; omega
    · obtain rfl : k = C := by omega
      have HTt : Hid (Tb (w.heap.size + 1) 3 .i64 k T wr) := ht.ext fun j hj => (if_pos hj).symm
      have HB : Hid (Below w.heap.size w wr) := hb
      have HS : Hid (wr.heap.size = w.heap.size + 4) := hs
      clear ht hq hb hs
      go_wp2
      go_ret
      exact ⟨rfl, HB.out, HTt.out, HS.out⟩

set_option maxHeartbeats 4000000 in
set_option maxRecDepth 100000 in
theorem Joins_ok (hi : Nat) (va vb : Value) (n C : Nat) (F G : Nat → Nat → Int) (w : World) (ha : Vw hi va n C F w) (hb : Vw hi vb n C G w) (hF : F32 F) (hG : F32 G) (n1 : 1 ≤ n) (n40 : n ≤ 40) (c1 : 1 ≤ C) (c8 : C ≤ 8) (hh : hi ≤ w.heap.size) :
    Calls Tryz.prog 104 #[va, vb] w fun e w' => ∃ g, e = .returned (.tuple #[.slice (some ⟨g, 0, none⟩) C C, .int .i64 0]) ∧ Below w.heap.size w w' ∧ w.heap.size ≤ g ∧
      TbV g 4 C (fun b => .bool (M.jb (M.tg F G n) (M.tg (fun i b => M.hs (F i b) (G i b)) (fun i b => M.hd (F i b) (G i b)) n) C b)) w' := by
  have h1 := Middle_ok hi va vb n C F G w ha hb hF hG n1 n40 c1 c8 hh
  obtain ⟨N1, hN1⟩ : ∃ N1, w.heap.size + 1 + n + 1 + n = N1 := ⟨_, rfl⟩
  have hsz : ∀ wx, Two w.heap.size (w.heap.size + 1 + n) n C (n * C) (fun i b => M.hs (F i b) (G i b)) (fun i b => M.hd (F i b) (G i b)) w wx → wx.heap.size = N1 := fun wx h => h.size.trans hN1
  have h2 : ∀ wx, Two w.heap.size (w.heap.size + 1 + n) n C (n * C) (fun i b => M.hs (F i b) (G i b)) (fun i b => M.hd (F i b) (G i b)) w wx → Calls Tryz.prog 157 #[va, vb] wx fun e w' => e = .returned (.slice (some ⟨N1 + 1, 0, none⟩) C C) ∧ Below N1 wx w' ∧ Tb (N1 + 1) 3 .i64 C (M.tg F G n) w' ∧ w'.heap.size = N1 + 4 := fun wx h => by
    have := together_any hi va vb n C F G wx (ha.below h.bel hh) (hb.below h.bel hh) hF hG n1 n40 c1 c8 (by have := h.bel.size; omega)
    rw [hsz wx h] at this
    exact this
  have h3 : ∀ wx wy, Two w.heap.size (w.heap.size + 1 + n) n C (n * C) (fun i b => M.hs (F i b) (G i b)) (fun i b => M.hd (F i b) (G i b)) w wx → Below N1 wx wy → wy.heap.size = N1 + 4 → Calls Tryz.prog 157 #[.slice (some ⟨w.heap.size, 0, none⟩) n n, .slice (some ⟨w.heap.size + 1 + n, 0, none⟩) n n] wy fun e w' => e = .returned (.slice (some ⟨N1 + 5, 0, none⟩) C C) ∧ Below (N1 + 4) wy w' ∧ Tb (N1 + 5) 3 .i64 C (M.tg (fun i b => M.hs (F i b) (G i b)) (fun i b => M.hd (F i b) (G i b)) n) w' ∧ w'.heap.size = N1 + 8 := fun wx wy h hb' hs => by
    have v1 := (h.one.whole).below hb' (by omega)
    have v2 := (h.two.whole).below hb' (by omega)
    have := together_any N1 _ _ n C _ _ wy (v1.mono (by omega)) (v2.mono (by omega)) (fun i b => M.hs_bd (hF i b) (hG i b)) (fun i b => M.hd_bd (hF i b) (hG i b)) n1 n40 c1 c8 (by omega)
    rw [hs] at this
    exact this
  have HT1 : Hid (∀ b, 0 ≤ M.tg F G n b ∧ M.tg F G n b ≤ 30) := M.tg_bd F G n
  have HT2 : Hid (∀ b, 0 ≤ M.tg (fun i b => M.hs (F i b) (G i b)) (fun i b => M.hd (F i b) (G i b)) n b ∧ M.tg (fun i b => M.hs (F i b) (G i b)) (fun i b => M.hd (F i b) (G i b)) n b ≤ 30) := M.tg_bd _ _ n
  obtain ⟨ba0, oa0, ca, rfl⟩ := ha.form
  obtain ⟨bb0, ob0, cb, rfl⟩ := hb.form
  have c1' : (1 : Int) ≤ C := by omega
  have c8' : (C : Int) ≤ 8 := by omega
  have H2 : Hid _ := h2
  have H3 : Hid _ := h3
  have HW : Hid (w.heap.size ≤ N1) := by show _ ≤ _; omega
  clear ha hb hF hG h2 h3 hsz hN1
  generalize M.tg F G n = P at *
  generalize M.tg (fun i b => M.hs (F i b) (G i b)) (fun i b => M.hd (F i b) (G i b)) n = Q at *
  go_enter Tryz.func104, Tryz.ntmps104
  go_upto_region 5 with (first
    | (go_at_call 47; refine h1.mono ?_; rintro e w2 ⟨rfl, t2⟩; have T2 : Hid (Two w.heap.size (w.heap.size + 1 + n) n C (n * C) (fun i b => M.hs (F i b) (G i b)) (fun i b => M.hd (F i b) (G i b)) w w2) := t2; clear t2 h1)
    | (go_at_call_of 157 ca; refine (H2.out _ T2.out).mono ?_; rintro e w3 ⟨rfl, b3, t3, s3⟩; have B3 : Hid (Below N1 w2 w3) := b3; have T3 : Hid (Tb (N1 + 1) 3 .i64 C P w3) := t3; have S3 : Hid (w3.heap.size = N1 + 4) := s3; clear b3 t3 s3)
    | (go_at_call 157; refine (H3.out _ _ T2.out B3.out S3.out).mono ?_; rintro e w4 ⟨rfl, b4, t4, s4⟩; have B4 : Hid (Below w.heap.size w w4) := T2.out.bel.trans ((B3.out.mono HW.out).trans (b4.mono (by have := HW.out; omega))); have T4 : Hid (Tb (N1 + 5) 3 .i64 C Q w4) := t4; have S4 : Hid (w4.heap.size = N1 + 8) := s4; have U4 : Hid (Tb (N1 + 1) 3 .i64 C P w4) := T3.out.below b4 (by omega); clear b4 t4 s4))
  obtain ⟨g, hg⟩ : ∃ g, w4.heap.size = g := ⟨_, rfl⟩
  have hmk := makeQB w4 C (by omega)
  rw [hg] at hmk
  have HG : Hid (N1 + 5 < g ∧ w.heap.size ≤ g) := by
    have h1 := S4.out
    have h2 := HW.out
    exact ⟨by omega, by omega⟩
  have H0 : Hid (TbV g 4 C (fun j => if j < 0 then .bool (M.jb P Q C j) else .bool false) (w4.alloc (.cells (List.replicate C (.bool false)).toArray 4))) := by
    refine ⟨_, by rw [← hg]; exact Blk.new _ _ _, by simp, fun j hj => ?_⟩
    rw [List.getElem?_toArray, List.getElem?_replicate, if_pos hj]
    show _ = some (if j < 0 then Value.bool (M.jb P Q C j) else Value.bool false)
    rw [if_neg (by omega)]
  have H1 : Hid (Tb (N1 + 1) 3 .i64 C P (w4.alloc (.cells (List.replicate C (.bool false)).toArray 4))) := U4.out.alloc _
  have H5 : Hid (Tb (N1 + 5) 3 .i64 C Q (w4.alloc (.cells (List.replicate C (.bool false)).toArray 4))) := T4.out.alloc _
  have HB : Hid (Below w.heap.size w (w4.alloc (.cells (List.replicate C (.bool false)).toArray 4))) := B4.out.alloc B4.out.size _
  clear hg
  generalize (List.replicate C (Value.bool false)).toArray = cs at *
  go_wp2
  go_loopw [35] (fun i wr => ∃ k : Nat, k + 1 ≤ C ∧ i = .int .i64 k ∧ TbV g 4 C (fun j => if j < k then .bool (M.jb P Q C j) else .bool false) wr ∧ Tb (N1 + 1) 3 .i64 C P wr ∧ Tb (N1 + 5) 3 .i64 C Q wr ∧ Below w.heap.size w wr) (fun i _ => C - (intOf i).toNat)
  case atStart => exact ⟨0, by omega, rfl, H0.out, H1.out, H5.out, HB.out⟩
  case round =>
    clear H0 H1 H5 HB hmk T2 B3 T3 S3 B4 T4 S4 U4
    obtain ⟨k, hk, rfl, ht, h1, h5, hb⟩ := hrel
    by_cases hkl : k + 1 < C
    · have hkl' : (k : Int) < (C : Int) - 1 := by omega
      have hkl2 : (k : Int) < (C : Int) := by omega
      have x1 := h1.cell (j := k) (by omega)
      have x5 := h5.cell (j := k) (by omega)
      have xt := ht.cell (j := k) (by omega)
      rw [if_neg (by omega)] at xt
      have xf := ht.free k
      have HE : Hid (M.jb P Q C k = decide (Q k < P k)) := by
        show _ = _
        unfold M.jb
        rw [decide_eq_true hkl, Bool.true_and]
      have HSt : Hid (∀ m x, x = .bool (M.jb P Q C k) → TbV g 4 C (fun j => if j < k + 1 then .bool (M.jb P Q C j) else .bool false) ((wr.drewN m).setCell ⟨g, k, none⟩ x)) := fun m x hx =>
        (ht.drewN m).set (by omega) (by rw [if_pos (by omega)]; exact hx) fun j hj => by
          by_cases hjk : j < k
          · rw [if_pos (by omega), if_pos hjk]
          · rw [if_neg (by omega), if_neg hjk]
      have H1 : Hid (∀ m x, Tb (N1 + 1) 3 .i64 C P ((wr.drewN m).setCell ⟨g, k, none⟩ x)) := fun m x => (h1.drewN m).set_ne (by show N1 + 1 ≠ g; have := HG.out; omega) x
      have H5 : Hid (∀ m x, Tb (N1 + 5) 3 .i64 C Q ((wr.drewN m).setCell ⟨g, k, none⟩ x)) := fun m x => (h5.drewN m).set_ne (by show N1 + 5 ≠ g; have := HG.out; omega) x
      have HB : Hid (∀ m x, Below w.heap.size w ((wr.drewN m).setCell ⟨g, k, none⟩ x)) := fun m x => (show Below w.heap.size w (wr.drewN m) from ⟨hb.os, hb.tape, hb.output, hb.size, hb.block⟩).setCell HG.out.2 x
      have HSet : Hid (∀ (wx : World) (v : Value), (wx.cell? ⟨N1 + 1, k, none⟩ = some (.int .i64 (P k)) ∧ wx.cell? ⟨N1 + 5, k, none⟩ = some (.int .i64 (Q k))) → ((wx.setCell ⟨g, k, none⟩ v).cell? ⟨N1 + 1, k, none⟩ = some (.int .i64 (P k)) ∧ (wx.setCell ⟨g, k, none⟩ v).cell? ⟨N1 + 5, k, none⟩ = some (.int .i64 (Q k)))) := by
        intro wx v h
        have := HG.out
        rw [cell_set_ne v (by show N1 + 1 ≠ g; omega), cell_set_ne v (by show N1 + 5 ≠ g; omega)]
        exact h
      clear ht h1 h5 hb
      generalize P k = p at *
      generalize Q k = q at *
      go_wp2
      go_region_held3 (fun wx => wx.cell? ⟨N1 + 1, k, none⟩ = some (.int .i64 p) ∧ wx.cell? ⟨N1 + 5, k, none⟩ = some (.int .i64 q))
        (first | exact ⟨x1, x5⟩ | exact HSet.out _ _ ⟨x1, x5⟩)
        (first | fail)
      all_goals (
        go_wp2
        go_roundw
        case rel => exact ⟨k + 1, by omega, by go_num, HSt.out _ _ (by rw [HE.out]), H1.out _ _, H5.out _ _, HB.out _ _⟩
        case measure => simp [intOf]; omega)
    · have HTt : Hid (TbV g 4 C (fun b => .bool (M.jb P Q C b)) wr) := ht.ext fun j hj => by
        by_cases hjk : j < k
        · rw [if_pos hjk]
        · rw [if_neg hjk]
          unfold M.jb
          rw [decide_eq_false (by omega), Bool.false_and]
      have HB : Hid (Below w.heap.size w wr) := hb
      have hkl' : ¬ (k : Int) < (C : Int) - 1 := by omega
      clear ht h1 h5 hb
      go_wp2
      go_ret2
      exact ⟨g, rfl, HB.out, HG.out.2, HTt.out⟩

end Qnt
end Go.Proofs.YtcaifpjbjghhaaaGreatDoor

