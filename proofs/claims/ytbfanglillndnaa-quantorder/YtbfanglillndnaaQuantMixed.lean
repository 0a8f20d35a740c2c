/-
  Contracts of package quant: what is done to each pair of two planes. Conditions: as told at each.
-/
import Derived.Test.YtbfanglillndnaaQuantScal
import Derived.Deep.DeepCutAuto
import Derived.Deep.CutRange
import Derived.BigQuiet
namespace Go.Proofs.Ytbfanglillndnaa
set_option linter.unusedVariables false
open Go.RowKit
namespace Qnt
open Bank (Blk But)
open Poly (cell_keep alloc_size enc enc_get enc_rep madeCells_rep)

theorem Hd.same {hi : Nat} {v : Value} {n : Nat} {l : Nat → Nat} {w wx : World} (h : Hd hi v n l w) (e : wx.heap = w.heap) : Hd hi v n l wx := by
  obtain ⟨a, cp, rfl, h⟩ := h
  refine ⟨a, cp, rfl, ?_⟩
  rcases h with h | ⟨b0, o0, rfl, h0, hx⟩
  · exact .inl h
  · refine .inr ⟨b0, o0, rfl, h0, fun i hi => ?_⟩
    obtain ⟨a1, c1, h⟩ := hx i hi
    exact ⟨a1, c1, by rw [← h]; simp [World.cell?, e]⟩

theorem halves_any (x y : Int) (w : World) (hx : -2147483648 ≤ x ∧ x ≤ 2147483647) (hy : -2147483648 ≤ y ∧ y ≤ 2147483647) :
    Calls Try.prog 38 #[.int .i32 x, .int .i32 y] w fun e w' => e = .returned (.tuple #[.int .i32 (M.hs x y), .int .i32 (M.hd x y)]) ∧ w' = w := by
  obtain ⟨x1, x2⟩ := hx
  obtain ⟨y1, y2⟩ := hy
  have H1 : Hid (M.hs x y = (x + y) / 2) := rfl
  have H2 : Hid (M.hd x y = (x - y) / 2) := rfl
  go_enter Try.func38, Try.ntmps38
  go_wp2
  go_ret2
  exact ⟨by rw [H1.out, H2.out]; rfl, rfl⟩

theorem sums_any (x y : Int) (w : World) (hx : -2147483648 ≤ x ∧ x ≤ 2147483647) (hy : -2147483648 ≤ y ∧ y ≤ 2147483647) :
    Calls Try.prog 39 #[.int .i32 x, .int .i32 y] w fun e w' => e = .returned (.tuple #[.int .i32 (M.sat32 (x + y)), .int .i32 (M.sat32 (x - y))]) ∧ w' = w := by
  have h1 := fun w => Add_any x y w hx hy
  have h2 := fun w => Sub_any x y w hx hy
  clear hx hy
  go_enter Try.func39, Try.ntmps39
  go_wp2_with (first
    | (go_at_call 44; refine (h1 _).mono ?_; rintro e w' ⟨rfl, rfl⟩)
    | (go_at_call 45; refine (h2 _).mono ?_; rintro e w' ⟨rfl, rfl⟩))
  go_ret2
  exact ⟨rfl, rfl⟩

/-- rows that are being made: k of n are laid -/
structure Laid (a n C k : Nat) (w : World) : Prop where
  head : ∃ hd : Array Value, Blk w a hd 52 ∧ hd.size = n ∧ ∀ c, c < k → hd[c]? = some (.slice (some ⟨a + 1 + c, 0, none⟩) C C)
  row : ∀ c, c < k → Blk w (a + 1 + c) (enc .i32 (List.replicate C 0)).toArray 21
  size : w.heap.size = a + 1 + k
theorem Laid.step {a n C k : Nat} {w : World} (h : Laid a n C k w) (hk : k < n) : Laid a n C (k + 1) ((w.alloc (.cells (enc .i32 (List.replicate C 0)).toArray 21)).setCell ⟨a, k, none⟩ (.slice (some ⟨a + 1 + k, 0, none⟩) C C)) := by
  obtain ⟨⟨hd, h1, h2, h3⟩, h4, h5⟩ := h
  refine ⟨⟨_, (h1.alloc _).set _ _, by simpa using h2, fun r hr => ?_⟩, fun r hr => ?_, ?_⟩
  · rw [Array.getElem?_setIfInBounds]
    split
    · rename_i e; subst e; rw [if_pos (by omega)]
    · exact h3 r (by omega)
  · rcases (by omega : r < k ∨ r = k) with h' | rfl
    · exact ((h4 r h').alloc _).set_ne (by show a + 1 + r ≠ a; omega) _
    · refine Blk.set_ne ?_ (by show a + 1 + r ≠ a; omega) _
      rw [← h5]; exact Blk.new w _ _
  · simp [World.setCell, h5]; omega
theorem Laid.cell {a n C k : Nat} {w : World} (h : Laid a n C k w) {i : Nat} (hi : i < n) (o : Obj) : (∃ u, (w.alloc o).cell? ⟨a, i, none⟩ = some u) ∧ (w.alloc o).frozen? ⟨a, i, none⟩ = false := by
  obtain ⟨⟨hd, h1, h2, _⟩, _, _⟩ := h
  exact ⟨⟨hd[i]'(by omega), (h1.alloc _).cell (by simp [h2, hi])⟩, (h1.alloc _).free i⟩
theorem Laid.pln {a n C : Nat} {w : World} (h : Laid a n C n w) (F : Nat → Nat → Int) : Pln a n C 0 F w := by
  obtain ⟨⟨hd, h1, h2, h3⟩, h4, h5⟩ := h
  exact ⟨⟨hd, h1, h2, h3⟩, fun i hi => ⟨_, h4 i hi, by simp [Poly.enc_length], fun b hb hk => absurd hk (by omega)⟩⟩

set_option maxHeartbeats 4000000 in
set_option maxRecDepth 100000 in
theorem blank_any (hi : Nat) (v : Value) (n C : Nat) (F : Nat → Nat → Int) (w : World) (h : Vw hi v n C F w) (n40 : n ≤ 40) (c8 : C ≤ 8) (hh : hi ≤ w.heap.size) :
    Calls Try.prog 43 #[v] w fun e w' => e = .returned (.slice (some ⟨w.heap.size, 0, none⟩) n n) ∧ Below w.heap.size w w' ∧ (∀ G, Pln w.heap.size n C 0 G w') ∧ w'.heap.size = w.heap.size + 1 + n := by
  obtain ⟨b0, o0, cp, rfl⟩ := h.form
  have HA : Hid _ := h.all hh
  have n40' : (n : Int) ≤ 40 := by omega
  have c8' : (C : Int) ≤ 8 := by omega
  have hmk := makeQS w n (by omega)
  have HS : Hid (Laid w.heap.size n C 0 (w.alloc (.cells (List.replicate n (.slice none 0 0)).toArray 52))) :=
    ⟨⟨_, Blk.new _ _ _, by simp, fun c hc => absurd hc (by omega)⟩, fun c hc => absurd hc (by omega), by simp⟩
  have HL : Hid (Below w.heap.size w (w.alloc (.cells (List.replicate n (.slice none 0 0)).toArray 52))) := (Below.refl _ _).alloc (Nat.le_refl _) _
  clear h
  generalize (List.replicate n (Value.slice none 0 0)).toArray = cs at *
  go_enter Try.func43, Try.ntmps43
  go_wp2
  go_loopw [11] (fun i wr => ∃ k : Nat, k ≤ n ∧ i = .int .i64 k ∧ Laid w.heap.size n C k wr ∧ Below w.heap.size w wr) (fun i _ => n - (intOf i).toNat)
  case atStart => exact ⟨0, by omega, rfl, HS.out, HL.out⟩
  case round =>
    clear HS HL hmk
    obtain ⟨k, hk, rfl, hl, hbw⟩ := hrel
    by_cases hlt : k < n
    · have hlt' : (k : Int) < n := by omega
      obtain ⟨b1, o1, cp1, _, hrow⟩ := HA.out k hlt
      have hu := (hrow wr hbw).1
      have hmk := makeQ32 wr C (by omega)
      rw [hl.size] at hmk
      obtain ⟨⟨u, hu2⟩, hfz⟩ := hl.cell hlt (.cells (enc .i32 (List.replicate C 0)).toArray 21)
      have HS : Hid (Laid w.heap.size n C (k + 1) _) := hl.step hlt
      have HL : Hid (Below w.heap.size w ((wr.alloc (.cells (enc .i32 (List.replicate C 0)).toArray 21)).setCell ⟨w.heap.size, k, none⟩ (.slice (some ⟨w.heap.size + 1 + k, 0, none⟩) C C))) := (hbw.alloc hbw.size _).setCell (Nat.le_refl _) _
      clear hl hbw hrow
      generalize (enc .i32 (List.replicate C 0)).toArray = cs2 at *
      go_wp2
      go_roundw
      case rel => exact ⟨k + 1, by omega, by go_num, HS.out, HL.out⟩
      case measure => simp [intOf]; omega
    · obtain rfl : k = n := by omega
      have HS : Hid (Laid w.heap.size k C k wr) := hl
      have HL : Hid _ := hbw
      clear hl hbw
      go_wp2
      go_ret
      exact ⟨rfl, HL.out, fun G => HS.out.pln G, HS.out.size⟩

end Qnt
end Go.Proofs.Ytbfanglillndnaa
