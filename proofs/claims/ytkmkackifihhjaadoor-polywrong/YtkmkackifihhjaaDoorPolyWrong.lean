/-
  The walk of PolyWrong. Conditions: as the law has them; the polynomial stands.
-/
import Derived.Test.YtkmkackifihhjaaDoorPolyTwo
namespace Go.Proofs.YtkmkackifihhjaaDoor
set_option linter.unusedVariables false
open Go.RowKit
namespace Poly
open Bank (Blk But)

/-- blocks that are no blocks -/
theorem two_wrong {m n slo sgl jlo jgl : Nat} {xs l : List Int} {w wr : World} (hn : n ≠ m) (h : Two m slo sgl jlo jgl xs l w wr) (C16 C32 : Array Value) :
    Calls Tryd.prog 12 #[.pointer (some ⟨sgl + 1, 0, none⟩), .slice (some ⟨wr.heap.size, 0, none⟩) n n] (wr.alloc (.cells C16 32)) fun e w4 => e = .returned (.tuple #[.slice none 0 0, .int .i64 1]) ∧
      Calls Tryd.prog 17 #[.pointer (some ⟨jgl + 1, 0, none⟩), .slice (some ⟨w4.heap.size, 0, none⟩) n n] (w4.alloc (.cells C32 21)) fun e w5 => e = .returned (.tuple #[.slice none 0 0, .int .i64 1]) ∧ Below w.heap.size w w5 := by
  have h4 := h.alloc (.cells C16 32)
  refine (splitFeed_err slo sgl m xs _ n n _ h4.1 hn).mono ?_
  rintro e w4 ⟨rfl, rfl⟩
  have h5 := h4.alloc (.cells C32 21)
  refine ⟨rfl, (joinFeed_err jlo jgl m l _ n n _ h5.2.1 hn).mono ?_⟩
  rintro e w5 ⟨rfl, rfl⟩
  exact ⟨rfl, h5.2.2.2.2⟩
theorem wrong_end {w w7 w9 : World} {c16 c32 : Array Value} {t16 t32 : TypeId} (hB : Below w.heap.size w w7) (b9 : Below ((w7.alloc (.cells c16 t16)).alloc (.cells c32 t32)).heap.size ((w7.alloc (.cells c16 t16)).alloc (.cells c32 t32)) w9) : Below w.heap.size w w9 := by
  have h1 := hB.alloc hB.size (.cells c16 t16)
  have h2 := h1.alloc h1.size (.cells c32 t32)
  exact h2.trans (b9.mono h2.size)

set_option maxRecDepth 100000 in
set_option maxHeartbeats 2000000 in
theorem wrongN_4 (n : Int) (w : World) (hT : Wave.Tab w) (hn : n < 0 ∨ 100 < n) :
    Calls Tryd.prog 6 #[.int .i64 4, .int .i64 n] w fun e w' => e = .returned (.bool true) ∧ Below w.heap.size w w' := by
  have HSet : Hid (∀ wa, Below w.heap.size w wa → _) := fun wa (bela : Below w.heap.size w wa) => setup2 (m := 4) (by omega) hT bela
  have HT : Hid (Wave.Tab w) := hT
  have hnot : ∀ (x : Bool) (w : World), (Op.unary .not (.bool x)).run Tryd.prog w = .ok (.bool (!x)) w := fun _ _ => rfl
  clear hT
  rcases (by omega : n < 0 ∨ (¬ n < 0 ∧ 100 < n)) with h | ⟨h, h'⟩
  · go_enter Tryd.func6, Tryd.ntmps6
    go_wp2_with (first
      | (go_at_call 8; refine (alive_any _ HT.out).mono ?_; rintro e wa ⟨rfl, bela⟩; have h1 := HSet.out wa bela; clear bela HSet HT)
      | (go_at_call 10; refine h1.mono ?_; clear h1; rintro e w1 ⟨bp, rfl, h2⟩)
      | (go_at_call 9; refine h2.mono ?_; clear h2; rintro e w2 ⟨sgl, rfl, h1⟩)
      | (go_at_call 15; refine h2.mono ?_; clear h2; rintro e w5 ⟨jgl, rfl, slo, jlo, hTw⟩; have HB : Hid (Below w.heap.size w w5) := hTw.2.2.2.2; clear hTw))
    go_ret
    exact ⟨rfl, HB.out⟩
  · go_enter Tryd.func6, Tryd.ntmps6
    go_wp2_with (first
      | (go_at_call 8; refine (alive_any _ HT.out).mono ?_; rintro e wa ⟨rfl, bela⟩; have h1 := HSet.out wa bela; clear bela HSet HT)
      | (go_at_call 10; refine h1.mono ?_; clear h1; rintro e w1 ⟨bp, rfl, h2⟩)
      | (go_at_call 9; refine h2.mono ?_; clear h2; rintro e w2 ⟨sgl, rfl, h1⟩)
      | (go_at_call 15; refine h2.mono ?_; clear h2; rintro e w5 ⟨jgl, rfl, slo, jlo, hTw⟩; have HB : Hid (Below w.heap.size w w5) := hTw.2.2.2.2; clear hTw))
    go_ret
    exact ⟨rfl, HB.out⟩

set_option maxRecDepth 100000 in
set_option maxHeartbeats 2000000 in
theorem wrongN_8 (n : Int) (w : World) (hT : Wave.Tab w) (hn : n < 0 ∨ 100 < n) :
    Calls Tryd.prog 6 #[.int .i64 8, .int .i64 n] w fun e w' => e = .returned (.bool true) ∧ Below w.heap.size w w' := by
  have HSet : Hid (∀ wa, Below w.heap.size w wa → _) := fun wa (bela : Below w.heap.size w wa) => setup2 (m := 8) (by omega) hT bela
  have HT : Hid (Wave.Tab w) := hT
  have hnot : ∀ (x : Bool) (w : World), (Op.unary .not (.bool x)).run Tryd.prog w = .ok (.bool (!x)) w := fun _ _ => rfl
  clear hT
  rcases (by omega : n < 0 ∨ (¬ n < 0 ∧ 100 < n)) with h | ⟨h, h'⟩
  · go_enter Tryd.func6, Tryd.ntmps6
    go_wp2_with (first
      | (go_at_call 8; refine (alive_any _ HT.out).mono ?_; rintro e wa ⟨rfl, bela⟩; have h1 := HSet.out wa bela; clear bela HSet HT)
      | (go_at_call 10; refine h1.mono ?_; clear h1; rintro e w1 ⟨bp, rfl, h2⟩)
      | (go_at_call 9; refine h2.mono ?_; clear h2; rintro e w2 ⟨sgl, rfl, h1⟩)
      | (go_at_call 15; refine h2.mono ?_; clear h2; rintro e w5 ⟨jgl, rfl, slo, jlo, hTw⟩; have HB : Hid (Below w.heap.size w w5) := hTw.2.2.2.2; clear hTw))
    go_ret
    exact ⟨rfl, HB.out⟩
  · go_enter Tryd.func6, Tryd.ntmps6
    go_wp2_with (first
      | (go_at_call 8; refine (alive_any _ HT.out).mono ?_; rintro e wa ⟨rfl, bela⟩; have h1 := HSet.out wa bela; clear bela HSet HT)
      | (go_at_call 10; refine h1.mono ?_; clear h1; rintro e w1 ⟨bp, rfl, h2⟩)
      | (go_at_call 9; refine h2.mono ?_; clear h2; rintro e w2 ⟨sgl, rfl, h1⟩)
      | (go_at_call 15; refine h2.mono ?_; clear h2; rintro e w5 ⟨jgl, rfl, slo, jlo, hTw⟩; have HB : Hid (Below w.heap.size w w5) := hTw.2.2.2.2; clear hTw))
    go_ret
    exact ⟨rfl, HB.out⟩

set_option maxRecDepth 100000 in
set_option maxHeartbeats 2000000 in
theorem wrongM_4 (w : World) (hT : Wave.Tab w) :
    Calls Tryd.prog 6 #[.int .i64 4, .int .i64 4] w fun e w' => e = .returned (.bool true) ∧ Below w.heap.size w w' := by
  have HSet : Hid (∀ wa, Below w.heap.size w wa → _) := fun wa (bela : Below w.heap.size w wa) => setup2 (m := 4) (by omega) hT bela
  have HZ : Hid (∀ (slo sgl jlo jgl : Nat) (xs q : List Int) (wr : World), Two 4 slo sgl jlo jgl xs q w wr → _) := fun slo sgl jlo jgl xs q wr (h : Two 4 slo sgl jlo jgl xs q w wr) => two_zero (m := 4) (by omega) h
  have hm16 : ∀ wx : World, (Instr.makeSlice 22 (.int .i64 4) (.int .i64 4)).run Tryd.prog wx = .ok (.slice (some ⟨wx.heap.size, 0, none⟩) 4 4) (wx.alloc (.cells (enc .i16 (List.replicate 4 0)).toArray 32)) := fun wx => make16 wx 4 (by omega)
  have hm32 : ∀ wx : World, (Instr.makeSlice 33 (.int .i64 4) (.int .i64 4)).run Tryd.prog wx = .ok (.slice (some ⟨wx.heap.size, 0, none⟩) 4 4) (wx.alloc (.cells (enc .i32 (List.replicate 4 0)).toArray 21)) := fun wx => make32 wx 4 (by omega)
  generalize (enc .i16 (List.replicate 4 0)).toArray = C16 at *
  generalize (enc .i32 (List.replicate 4 0)).toArray = C32 at *
  have HT : Hid (Wave.Tab w) := hT
  have hnot : ∀ (x : Bool) (w : World), (Op.unary .not (.bool x)).run Tryd.prog w = .ok (.bool (!x)) w := fun _ _ => rfl
  clear hT
  go_enter Tryd.func6, Tryd.ntmps6
  go_wp2_with (first
    | (go_at_call 8; refine (alive_any _ HT.out).mono ?_; rintro e wa ⟨rfl, bela⟩; have h1 := HSet.out wa bela; clear bela HSet HT)
    | (go_at_call 10; refine h1.mono ?_; clear h1; rintro e w1 ⟨bp, rfl, h2⟩)
    | (go_at_call 9; refine h2.mono ?_; clear h2; rintro e w2 ⟨sgl, rfl, h1⟩)
    | (go_at_call 15; refine h2.mono ?_; clear h2; rintro e w5 ⟨jgl, rfl, slo, jlo, hTw⟩; have h3 := HZ.out _ _ _ _ _ _ _ hTw; clear hTw HZ)
    | (go_at_call 12; refine h3.mono ?_; clear h3; rintro e w6 ⟨xa, xc, rfl, h5⟩)
    | (go_at_call 17; refine h5.mono ?_; clear h5; rintro e w7 ⟨ya, yc, rfl, hI, -, -⟩; have HB : Hid (Below w.heap.size w w7) := hI.2.2.2.2; clear hI)
    | (go_at_call 20; refine (splitReset_nil _).mono ?_; rintro e w' ⟨rfl, hw⟩; rw [hw]; clear hw w')
    | (go_at_call 21; refine (joinReset_nil _).mono ?_; rintro e w' ⟨rfl, hw⟩; rw [hw]; clear hw w')
    | (go_at_call 12; refine (splitFeed_nil _ _).mono ?_; rintro e w' ⟨rfl, hw⟩; rw [hw]; clear hw w')
    | (go_at_call 17; refine (joinFeed_nil _ _).mono ?_; rintro e w' ⟨rfl, hw⟩; rw [hw]; clear hw w')
    | (go_at_call 9; refine (newSplitter_nil _ _).mono ?_; rintro e w9 ⟨rfl, b9⟩))
  go_ret
  exact ⟨rfl, wrong_end HB.out b9⟩

set_option maxRecDepth 100000 in
set_option maxHeartbeats 2000000 in
theorem wrongM_8 (w : World) (hT : Wave.Tab w) :
    Calls Tryd.prog 6 #[.int .i64 8, .int .i64 8] w fun e w' => e = .returned (.bool true) ∧ Below w.heap.size w w' := by
  have HSet : Hid (∀ wa, Below w.heap.size w wa → _) := fun wa (bela : Below w.heap.size w wa) => setup2 (m := 8) (by omega) hT bela
  have HZ : Hid (∀ (slo sgl jlo jgl : Nat) (xs q : List Int) (wr : World), Two 8 slo sgl jlo jgl xs q w wr → _) := fun slo sgl jlo jgl xs q wr (h : Two 8 slo sgl jlo jgl xs q w wr) => two_zero (m := 8) (by omega) h
  have hm16 : ∀ wx : World, (Instr.makeSlice 22 (.int .i64 8) (.int .i64 8)).run Tryd.prog wx = .ok (.slice (some ⟨wx.heap.size, 0, none⟩) 8 8) (wx.alloc (.cells (enc .i16 (List.replicate 8 0)).toArray 32)) := fun wx => make16 wx 8 (by omega)
  have hm32 : ∀ wx : World, (Instr.makeSlice 33 (.int .i64 8) (.int .i64 8)).run Tryd.prog wx = .ok (.slice (some ⟨wx.heap.size, 0, none⟩) 8 8) (wx.alloc (.cells (enc .i32 (List.replicate 8 0)).toArray 21)) := fun wx => make32 wx 8 (by omega)
  generalize (enc .i16 (List.replicate 8 0)).toArray = C16 at *
  generalize (enc .i32 (List.replicate 8 0)).toArray = C32 at *
  have HT : Hid (Wave.Tab w) := hT
  have hnot : ∀ (x : Bool) (w : World), (Op.unary .not (.bool x)).run Tryd.prog w = .ok (.bool (!x)) w := fun _ _ => rfl
  clear hT
  go_enter Tryd.func6, Tryd.ntmps6
  go_wp2_with (first
    | (go_at_call 8; refine (alive_any _ HT.out).mono ?_; rintro e wa ⟨rfl, bela⟩; have h1 := HSet.out wa bela; clear bela HSet HT)
    | (go_at_call 10; refine h1.mono ?_; clear h1; rintro e w1 ⟨bp, rfl, h2⟩)
    | (go_at_call 9; refine h2.mono ?_; clear h2; rintro e w2 ⟨sgl, rfl, h1⟩)
    | (go_at_call 15; refine h2.mono ?_; clear h2; rintro e w5 ⟨jgl, rfl, slo, jlo, hTw⟩; have h3 := HZ.out _ _ _ _ _ _ _ hTw; clear hTw HZ)
    | (go_at_call 12; refine h3.mono ?_; clear h3; rintro e w6 ⟨xa, xc, rfl, h5⟩)
    | (go_at_call 17; refine h5.mono ?_; clear h5; rintro e w7 ⟨ya, yc, rfl, hI, -, -⟩; have HB : Hid (Below w.heap.size w w7) := hI.2.2.2.2; clear hI)
    | (go_at_call 20; refine (splitReset_nil _).mono ?_; rintro e w' ⟨rfl, hw⟩; rw [hw]; clear hw w')
    | (go_at_call 21; refine (joinReset_nil _).mono ?_; rintro e w' ⟨rfl, hw⟩; rw [hw]; clear hw w')
    | (go_at_call 12; refine (splitFeed_nil _ _).mono ?_; rintro e w' ⟨rfl, hw⟩; rw [hw]; clear hw w')
    | (go_at_call 17; refine (joinFeed_nil _ _).mono ?_; rintro e w' ⟨rfl, hw⟩; rw [hw]; clear hw w')
    | (go_at_call 9; refine (newSplitter_nil _ _).mono ?_; rintro e w9 ⟨rfl, b9⟩))
  go_ret
  exact ⟨rfl, wrong_end HB.out b9⟩

set_option maxRecDepth 100000 in
set_option maxHeartbeats 2000000 in
theorem wrongE_4 (n : Nat) (w : World) (hT : Wave.Tab w) (hn : n ≤ 100) (hne : n ≠ 4) :
    Calls Tryd.prog 6 #[.int .i64 4, .int .i64 n] w fun e w' => e = .returned (.bool true) ∧ Below w.heap.size w w' := by
  have HSet : Hid (∀ wa, Below w.heap.size w wa → _) := fun wa (bela : Below w.heap.size w wa) => setup2 (m := 4) (by omega) hT bela
  have HZ : Hid (∀ (slo sgl jlo jgl : Nat) (xs q : List Int) (wr : World) (C16 C32 : Array Value), Two 4 slo sgl jlo jgl xs q w wr → _) := fun slo sgl jlo jgl xs q wr C16 C32 (h : Two 4 slo sgl jlo jgl xs q w wr) => two_wrong (m := 4) (n := n) hne h C16 C32
  have hm16 : ∀ wx : World, (Instr.makeSlice 22 (.int .i64 n) (.int .i64 n)).run Tryd.prog wx = .ok (.slice (some ⟨wx.heap.size, 0, none⟩) n n) (wx.alloc (.cells (enc .i16 (List.replicate n 0)).toArray 32)) := fun wx => make16 wx n (by omega)
  have hm32 : ∀ wx : World, (Instr.makeSlice 33 (.int .i64 n) (.int .i64 n)).run Tryd.prog wx = .ok (.slice (some ⟨wx.heap.size, 0, none⟩) n n) (wx.alloc (.cells (enc .i32 (List.replicate n 0)).toArray 21)) := fun wx => make32 wx n (by omega)
  generalize (enc .i16 (List.replicate n 0)).toArray = C16 at *
  generalize (enc .i32 (List.replicate n 0)).toArray = C32 at *
  have HT : Hid (Wave.Tab w) := hT
  have hnot : ∀ (x : Bool) (w : World), (Op.unary .not (.bool x)).run Tryd.prog w = .ok (.bool (!x)) w := fun _ _ => rfl
  have n0 : ¬ (n : Int) < 0 := by omega
  have n1 : ¬ (100 : Int) < n := by omega
  have n2 : ((n : Int) == 4) = false := by
    have : ¬ (n : Int) = 4 := by omega
    simpa using this
  have n3 : ¬ (n : Int) = 4 := by omega
  clear hT hne
  go_enter Tryd.func6, Tryd.ntmps6
  go_wp2_with (first
    | (go_at_call 8; refine (alive_any _ HT.out).mono ?_; rintro e wa ⟨rfl, bela⟩; have h1 := HSet.out wa bela; clear bela HSet HT)
    | (go_at_call 10; refine h1.mono ?_; clear h1; rintro e w1 ⟨bp, rfl, h2⟩)
    | (go_at_call 9; refine h2.mono ?_; clear h2; rintro e w2 ⟨sgl, rfl, h1⟩)
    | (go_at_call 15; refine h2.mono ?_; clear h2; rintro e w5 ⟨jgl, rfl, slo, jlo, hTw⟩; have h3 := HZ.out _ _ _ _ _ _ _ C16 C32 hTw; clear hTw HZ)
    | (go_at_call 12; refine h3.mono ?_; clear h3; rintro e w6 ⟨rfl, h5⟩)
    | (go_at_call 17; refine h5.mono ?_; clear h5; rintro e w7 ⟨rfl, hB⟩; have HB : Hid (Below w.heap.size w w7) := hB; clear hB)
    | (go_at_call 20; refine (splitReset_nil _).mono ?_; rintro e w' ⟨rfl, hw⟩; rw [hw]; clear hw w')
    | (go_at_call 21; refine (joinReset_nil _).mono ?_; rintro e w' ⟨rfl, hw⟩; rw [hw]; clear hw w')
    | (go_at_call 12; refine (splitFeed_nil _ _).mono ?_; rintro e w' ⟨rfl, hw⟩; rw [hw]; clear hw w')
    | (go_at_call 17; refine (joinFeed_nil _ _).mono ?_; rintro e w' ⟨rfl, hw⟩; rw [hw]; clear hw w')
    | (go_at_call 9; refine (newSplitter_nil _ _).mono ?_; rintro e w9 ⟨rfl, b9⟩))
  go_ret
  exact ⟨rfl, wrong_end HB.out b9⟩

set_option maxRecDepth 100000 in
set_option maxHeartbeats 2000000 in
theorem wrongE_8 (n : Nat) (w : World) (hT : Wave.Tab w) (hn : n ≤ 100) (hne : n ≠ 8) :
    Calls Tryd.prog 6 #[.int .i64 8, .int .i64 n] w fun e w' => e = .returned (.bool true) ∧ Below w.heap.size w w' := by
  have HSet : Hid (∀ wa, Below w.heap.size w wa → _) := fun wa (bela : Below w.heap.size w wa) => setup2 (m := 8) (by omega) hT bela
  have HZ : Hid (∀ (slo sgl jlo jgl : Nat) (xs q : List Int) (wr : World) (C16 C32 : Array Value), Two 8 slo sgl jlo jgl xs q w wr → _) := fun slo sgl jlo jgl xs q wr C16 C32 (h : Two 8 slo sgl jlo jgl xs q w wr) => two_wrong (m := 8) (n := n) hne h C16 C32
  have hm16 : ∀ wx : World, (Instr.makeSlice 22 (.int .i64 n) (.int .i64 n)).run Tryd.prog wx = .ok (.slice (some ⟨wx.heap.size, 0, none⟩) n n) (wx.alloc (.cells (enc .i16 (List.replicate n 0)).toArray 32)) := fun wx => make16 wx n (by omega)
  have hm32 : ∀ wx : World, (Instr.makeSlice 33 (.int .i64 n) (.int .i64 n)).run Tryd.prog wx = .ok (.slice (some ⟨wx.heap.size, 0, none⟩) n n) (wx.alloc (.cells (enc .i32 (List.replicate n 0)).toArray 21)) := fun wx => make32 wx n (by omega)
  generalize (enc .i16 (List.replicate n 0)).toArray = C16 at *
  generalize (enc .i32 (List.replicate n 0)).toArray = C32 at *
  have HT : Hid (Wave.Tab w) := hT
  have hnot : ∀ (x : Bool) (w : World), (Op.unary .not (.bool x)).run Tryd.prog w = .ok (.bool (!x)) w := fun _ _ => rfl
  have n0 : ¬ (n : Int) < 0 := by omega
  have n1 : ¬ (100 : Int) < n := by omega
  have n2 : ((n : Int) == 8) = false := by
    have : ¬ (n : Int) = 8 := by omega
    simpa using this
  have n3 : ¬ (n : Int) = 8 := by omega
  clear hT hne
  go_enter Tryd.func6, Tryd.ntmps6
  go_wp2_with (first
    | (go_at_call 8; refine (alive_any _ HT.out).mono ?_; rintro e wa ⟨rfl, bela⟩; have h1 := HSet.out wa bela; clear bela HSet HT)
    | (go_at_call 10; refine h1.mono ?_; clear h1; rintro e w1 ⟨bp, rfl, h2⟩)
    | (go_at_call 9; refine h2.mono ?_; clear h2; rintro e w2 ⟨sgl, rfl, h1⟩)
    | (go_at_call 15; refine h2.mono ?_; clear h2; rintro e w5 ⟨jgl, rfl, slo, jlo, hTw⟩; have h3 := HZ.out _ _ _ _ _ _ _ C16 C32 hTw; clear hTw HZ)
    | (go_at_call 12; refine h3.mono ?_; clear h3; rintro e w6 ⟨rfl, h5⟩)
    | (go_at_call 17; refine h5.mono ?_; clear h5; rintro e w7 ⟨rfl, hB⟩; have HB : Hid (Below w.heap.size w w7) := hB; clear hB)
    | (go_at_call 20; refine (splitReset_nil _).mono ?_; rintro e w' ⟨rfl, hw⟩; rw [hw]; clear hw w')
    | (go_at_call 21; refine (joinReset_nil _).mono ?_; rintro e w' ⟨rfl, hw⟩; rw [hw]; clear hw w')
    | (go_at_call 12; refine (splitFeed_nil _ _).mono ?_; rintro e w' ⟨rfl, hw⟩; rw [hw]; clear hw w')
    | (go_at_call 17; refine (joinFeed_nil _ _).mono ?_; rintro e w' ⟨rfl, hw⟩; rw [hw]; clear hw w')
    | (go_at_call 9; refine (newSplitter_nil _ _).mono ?_; rintro e w9 ⟨rfl, b9⟩))
  go_ret
  exact ⟨rfl, wrong_end HB.out b9⟩

set_option maxRecDepth 100000 in
theorem wrong_bad (m n : Int) (w : World) (hT : Wave.Tab w) (hm : ¬ (m = 4 ∨ m = 8)) :
    Calls Tryd.prog 6 #[.int .i64 m, .int .i64 n] w fun e w' => e = .returned (.bool true) ∧ Below w.heap.size w w' := by
  have HT : Hid (Wave.Tab w) := hT
  have HM : Hid (¬ (m = 4 ∨ m = 8)) := hm
  have hnot : ∀ (x : Bool) (w : World), (Op.unary .not (.bool x)).run Tryd.prog w = .ok (.bool (!x)) w := fun _ _ => rfl
  have m4 : (m != 4) = true := by simp; omega
  have m8 : (m != 8) = true := by simp; omega
  clear hT hm
  go_enter Tryd.func6, Tryd.ntmps6
  go_wp2_with (first
    | (go_at_call 8; refine (alive_any _ HT.out).mono ?_; rintro e wa ⟨rfl, B⟩)
    | (go_at_call 10; refine (Bank.new_any _).mono ?_; rintro e w1 ⟨rfl, -, -, b1⟩; replace B := B.trans (b1.mono B.size); clear b1)
    | (go_at_call 9; refine (newSplitter_err m _ _ HM.out).mono ?_; rintro e w2 ⟨rfl, b2⟩; replace B := B.trans (b2.mono B.size); clear b2)
    | (go_at_call 15; refine (newJoiner_err m _ _ HM.out).mono ?_; rintro e w3 ⟨rfl, b3⟩; replace B := B.trans (b3.mono B.size); clear b3))
  go_ret
  exact ⟨rfl, B⟩

theorem PolyWrong_walk (m n : Int) (w : World) (hT : Wave.Tab w) (_hm : (Lit.int .i64 m).wf = true) (_hn : (Lit.int .i64 n).wf = true) :
    Calls Tryd.prog 6 #[.int .i64 m, .int .i64 n] w fun e w' => e = .returned (.bool true) ∧ Below w.heap.size w w' := by
  by_cases hm : m = 4 ∨ m = 8
  · rcases (by omega : (n < 0 ∨ 100 < n) ∨ (0 ≤ n ∧ n ≤ 100)) with h | ⟨h0, h1⟩
    · rcases hm with rfl | rfl
      · exact wrongN_4 n w hT h
      · exact wrongN_8 n w hT h
    · obtain ⟨k, rfl⟩ : ∃ k : Nat, n = k := ⟨n.toNat, by omega⟩
      rcases hm with rfl | rfl
      · by_cases hk : k = 4
        · subst hk; exact wrongM_4 w hT
        · exact wrongE_4 k w hT (by omega) hk
      · by_cases hk : k = 8
        · subst hk; exact wrongM_8 w hT
        · exact wrongE_8 k w hT (by omega) hk
  · exact wrong_bad m n w hT hm

end Poly
end Go.Proofs.YtkmkackifihhjaaDoor
