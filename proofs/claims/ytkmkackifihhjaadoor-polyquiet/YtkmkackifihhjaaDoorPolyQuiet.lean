/-
  The walk of PolyQuiet. Conditions: as the law has them; the polynomial stands.
-/
import Derived.Test.YtkmkackifihhjaaDoorPolyTwo
namespace Go.Proofs.YtkmkackifihhjaaDoor
set_option linter.unusedVariables false
open Go.RowKit
namespace Poly
open Bank (Blk But)

set_option maxRecDepth 100000 in
set_option maxHeartbeats 2000000 in
theorem quiet_4 (l : List Int) (vl : Value) (w : World) (hT : Wave.Tab w) (hr : Reads .i16 0 w.heap.size w vl l) (hl : l.length ≤ 300) :
    Calls Tryd.prog 7 #[.bool false, vl] w fun e w' => e = .returned (.bool true) ∧ Below w.heap.size w w' := by
  have HSet : Hid (∀ wa, Below w.heap.size w wa → _) := fun wa (bela : Below w.heap.size w wa) => setup2 (m := 4) (by omega) hT bela
  have HCut : Hid (∀ (slo sgl jlo jgl : Nat) (xs q : List Int) (wr : World), Two 4 slo sgl jlo jgl xs q w wr → _) := fun slo sgl jlo jgl xs q wr (h : Two 4 slo sgl jlo jgl xs q w wr) => two_cut (m := 4) (by omega) h (hr.below h.2.2.2.2 (Nat.le_refl _)) h.2.2.2.2.size hl
  have HZ : Hid (∀ (slo sgl jlo jgl : Nat) (xs q : List Int) (wr : World), Two 4 slo sgl jlo jgl xs q w wr → _) := fun slo sgl jlo jgl xs q wr (h : Two 4 slo sgl jlo jgl xs q w wr) => two_zero (m := 4) (by omega) h
  have HSame : Hid (∀ (slo sgl jlo jgl vc yc : Nat) (va ya : Option Addr) (xs q : List Int) (wr : World), Two 4 slo sgl jlo jgl xs q w wr → Reads .i32 w.heap.size wr.heap.size wr (.slice va 4 vc) (List.replicate 4 0) → Reads .i16 w.heap.size wr.heap.size wr (.slice ya 4 yc) (List.replicate 4 0) → _) := fun slo sgl jlo jgl vc yc va ya xs q wr (h : Two 4 slo sgl jlo jgl xs q w wr) h1 h2 => two_same (m := 4) (by omega) h h1 h2
  have hm16 : ∀ wx : World, (Instr.makeSlice 22 (.int .i64 4) (.int .i64 4)).run Tryd.prog wx = .ok (.slice (some ⟨wx.heap.size, 0, none⟩) 4 4) (wx.alloc (.cells (enc .i16 (List.replicate 4 0)).toArray 32)) := fun wx => make16 wx 4 (by omega)
  have hm32 : ∀ wx : World, (Instr.makeSlice 33 (.int .i64 4) (.int .i64 4)).run Tryd.prog wx = .ok (.slice (some ⟨wx.heap.size, 0, none⟩) 4 4) (wx.alloc (.cells (enc .i32 (List.replicate 4 0)).toArray 21)) := fun wx => make32 wx 4 (by omega)
  generalize (enc .i16 (List.replicate 4 0)).toArray = C16 at *
  generalize (enc .i32 (List.replicate 4 0)).toArray = C32 at *
  have HT : Hid (Wave.Tab w) := hT
  obtain ⟨a, c, rfl⟩ := hr.form
  obtain ⟨n, hn⟩ : ∃ n, (M.cutL 4 l).length = n := ⟨_, rfl⟩
  have HN : Hid ((M.cutL 4 l).length = n) := hn
  have hfew : n ≤ 75 := by rw [← hn]; exact M.cutL_few (by omega) (by omega)
  have HR : Hid (∀ i, i < (M.cutL 4 l).length → ((M.cutL 4 l).getD i []).length = 4) := M.cutL_rows
  obtain ⟨L, hL⟩ : ∃ L, l.length = L := ⟨_, rfl⟩
  rw [hn, hL] at HCut
  rw [hL] at hl ⊢
  have hl' : ¬ (300 : Int) < L := by omega
  have hnot : ∀ (x : Bool) (w : World), (Op.unary .not (.bool x)).run Tryd.prog w = .ok (.bool (!x)) w := fun _ _ => rfl
  generalize M.cutL 4 l = zss at *
  clear hT hr hn hL
  go_enter Tryd.func7, Tryd.ntmps7
  go_wp2_with (first
    | (go_at_call 8; refine (alive_any _ HT.out).mono ?_; rintro e wa ⟨rfl, bela⟩; have h1 := HSet.out wa bela; clear bela HSet HT)
    | (go_at_call 10; refine h1.mono ?_; clear h1; rintro e w1 ⟨bp, rfl, h2⟩)
    | (go_at_call 9; refine h2.mono ?_; clear h2; rintro e w2 ⟨sgl, rfl, h1⟩)
    | (go_at_call 15; refine h2.mono ?_; clear h2; rintro e w4 ⟨jgl, rfl, slo, jlo, hTw⟩; have h3 := HCut.out _ _ _ _ _ _ _ hTw; clear hTw HCut)
    | (go_at_call 11; refine h3.mono ?_; clear h3; rintro e w5 ⟨va, vc, rfl, hvc, hTw, r0, r1, g0, g1, hRw⟩; have HTw : Hid _ := hTw; have HRw : Hid _ := hRw; clear hTw hRw))
  have hvc' : (n : Int) ≤ vc := by omega
  have g1' : Hid (r1 ≤ w5.heap.size) := g1
  clear g1
  go_loopw [47] (fun i wr => ∃ k : Nat, k ≤ n ∧ i = .int .i64 k ∧ ∃ xs q, Two 4 slo sgl jlo jgl xs q w wr ∧ Rows .i16 r0 r1 wr (.slice va n vc) zss ∧ r1 ≤ wr.heap.size) (fun i _ => n - (intOf i).toNat)
  case atStart => exact ⟨0, by omega, rfl, _, _, HTw.out, HRw.out, g1'.out⟩
  case round =>
    clear HTw HRw g1'
    obtain ⟨k, hk, rfl, xs, q, hTw, hRw, hs⟩ := hrel
    by_cases hlt : k < n
    · have hlt' : (k : Int) < n := by omega
      obtain ⟨b, off, rfl, _, _, _⟩ := hRw.cell (by rw [HN.out]; omega)
      obtain ⟨ua, uc, hc, hfeed⟩ := two_round (by omega) hTw hRw g0 hs (by rw [HN.out]; exact hlt) HR.out
      clear hTw hRw hs
      go_wp2_with (first
        | (go_at_call 12; refine hfeed.mono ?_; clear hfeed; rintro e w4 ⟨xa, xc, rfl, h4⟩)
        | (go_at_call 17; refine h4.mono ?_; clear h4; rintro e w5 ⟨ya, yc, rfl, hI⟩; have HI : Hid _ := hI; clear hI))
      go_roundw
      case rel => exact ⟨k + 1, by omega, by go_num, HI.out⟩
      case measure => simp [intOf] <;> omega
    · obtain rfl : k = n := by omega
      have HTw : Hid (Two 4 slo sgl jlo jgl xs q w wr) := hTw
      have HX : Hid (xs.length = 10 * 4 ∧ q.length = 20 * 4) := ⟨hTw.1.2.2.2.1, hTw.2.1.2.2.2.1⟩
      clear hTw hRw hs HR HN hvc hvc'
      go_wp2
      go_loopw [14] (fun i wr => ∃ j : Nat, j ≤ 12 ∧ i = .int .i64 j ∧ Two 4 slo sgl jlo jgl (M.zeroS 4 j xs) (M.zeroJ 4 j q) w wr) (fun i _ => 12 - (intOf i).toNat)
      case atStart => exact ⟨0, by omega, rfl, HTw.out⟩
      case round =>
        clear HTw
        obtain ⟨j, hj, rfl, hTw⟩ := hrel
        by_cases hlt : j < 12
        · have hlt' : (j : Int) < 12 := by omega
          have hz := HZ.out _ _ _ _ _ _ _ hTw
          rw [← M.zeroS_succ, ← M.zeroJ_succ] at hz
          clear hTw
          by_cases h9 : j < 9
          · have h9' : ¬ (9 : Int) ≤ j := by omega
            go_wp2_with (first
              | (go_at_call 12; refine hz.mono ?_; clear hz; rintro e w4 ⟨xa, xc, rfl, h4⟩)
              | (go_at_call 17; refine h4.mono ?_; clear h4; rintro e w5 ⟨ya, yc, rfl, hI, -, -⟩; have HI : Hid _ := hI; clear hI))
            go_roundw
            case rel => exact ⟨j + 1, by omega, by go_num, HI.out⟩
            case measure => simp [intOf] <;> omega
          · have h9' : (9 : Int) ≤ j := by omega
            rw [M.zeroS_ten HX.out.1 (by omega), M.zeroJ_ten HX.out.2 (by omega), M.spl_zero (by omega), M.jn_zero] at hz
            have HE : Hid (Two 4 slo sgl jlo jgl (List.replicate (10 * 4) 0) (List.replicate (20 * 4) 0) w = Two 4 slo sgl jlo jgl (M.zeroS 4 (j + 1) xs) (M.zeroJ 4 (j + 1) q) w) := by
              show _ = _
              rw [M.zeroS_ten HX.out.1 (by omega), M.zeroJ_ten HX.out.2 (by omega)]
            go_wp2_with (first
              | (go_at_call 12; refine hz.mono ?_; clear hz; rintro e w4 ⟨xa, xc, rfl, h4⟩)
              | (go_at_call 17; refine h4.mono ?_; clear h4; rintro e w5 ⟨ya, yc, rfl, hI, hx5, hy5⟩; have h6 := HSame.out _ _ _ _ _ _ _ _ _ _ _ hI hx5 hy5; clear hI hx5 hy5)
              | (go_at_call 13; refine h6.mono ?_; clear h6; rintro e w6 ⟨rfl, h7⟩)
              | (go_at_call 18; refine h7.mono ?_; clear h7; rintro e w7 ⟨rfl, hI⟩; have HI : Hid _ := hI; clear hI))
            go_roundw
            case rel => exact ⟨j + 1, by omega, by go_num, by rw [← HE.out]; exact HI.out⟩
            case measure => simp [intOf] <;> omega
        · obtain rfl : j = 12 := by omega
          have HB : Hid (Below w.heap.size w wr) := hTw.2.2.2.2
          clear hTw
          go_wp2
          go_ret
          exact ⟨rfl, HB.out⟩

set_option maxRecDepth 100000 in
set_option maxHeartbeats 2000000 in
theorem quiet_8 (l : List Int) (vl : Value) (w : World) (hT : Wave.Tab w) (hr : Reads .i16 0 w.heap.size w vl l) (hl : l.length ≤ 300) :
    Calls Tryd.prog 7 #[.bool true, vl] w fun e w' => e = .returned (.bool true) ∧ Below w.heap.size w w' := by
  have HSet : Hid (∀ wa, Below w.heap.size w wa → _) := fun wa (bela : Below w.heap.size w wa) => setup2 (m := 8) (by omega) hT bela
  have HCut : Hid (∀ (slo sgl jlo jgl : Nat) (xs q : List Int) (wr : World), Two 8 slo sgl jlo jgl xs q w wr → _) := fun slo sgl jlo jgl xs q wr (h : Two 8 slo sgl jlo jgl xs q w wr) => two_cut (m := 8) (by omega) h (hr.below h.2.2.2.2 (Nat.le_refl _)) h.2.2.2.2.size hl
  have HZ : Hid (∀ (slo sgl jlo jgl : Nat) (xs q : List Int) (wr : World), Two 8 slo sgl jlo jgl xs q w wr → _) := fun slo sgl jlo jgl xs q wr (h : Two 8 slo sgl jlo jgl xs q w wr) => two_zero (m := 8) (by omega) h
  have HSame : Hid (∀ (slo sgl jlo jgl vc yc : Nat) (va ya : Option Addr) (xs q : List Int) (wr : World), Two 8 slo sgl jlo jgl xs q w wr → Reads .i32 w.heap.size wr.heap.size wr (.slice va 8 vc) (List.replicate 8 0) → Reads .i16 w.heap.size wr.heap.size wr (.slice ya 8 yc) (List.replicate 8 0) → _) := fun slo sgl jlo jgl vc yc va ya xs q wr (h : Two 8 slo sgl jlo jgl xs q w wr) h1 h2 => two_same (m := 8) (by omega) h h1 h2
  have hm16 : ∀ wx : World, (Instr.makeSlice 22 (.int .i64 8) (.int .i64 8)).run Tryd.prog wx = .ok (.slice (some ⟨wx.heap.size, 0, none⟩) 8 8) (wx.alloc (.cells (enc .i16 (List.replicate 8 0)).toArray 32)) := fun wx => make16 wx 8 (by omega)
  have hm32 : ∀ wx : World, (Instr.makeSlice 33 (.int .i64 8) (.int .i64 8)).run Tryd.prog wx = .ok (.slice (some ⟨wx.heap.size, 0, none⟩) 8 8) (wx.alloc (.cells (enc .i32 (List.replicate 8 0)).toArray 21)) := fun wx => make32 wx 8 (by omega)
  generalize (enc .i16 (List.replicate 8 0)).toArray = C16 at *
  generalize (enc .i32 (List.replicate 8 0)).toArray = C32 at *
  have HT : Hid (Wave.Tab w) := hT
  obtain ⟨a, c, rfl⟩ := hr.form
  obtain ⟨n, hn⟩ : ∃ n, (M.cutL 8 l).length = n := ⟨_, rfl⟩
  have HN : Hid ((M.cutL 8 l).length = n) := hn
  have hfew : n ≤ 75 := by rw [← hn]; exact M.cutL_few (by omega) (by omega)
  have HR : Hid (∀ i, i < (M.cutL 8 l).length → ((M.cutL 8 l).getD i []).length = 8) := M.cutL_rows
  obtain ⟨L, hL⟩ : ∃ L, l.length = L := ⟨_, rfl⟩
  rw [hn, hL] at HCut
  rw [hL] at hl ⊢
  have hl' : ¬ (300 : Int) < L := by omega
  have hnot : ∀ (x : Bool) (w : World), (Op.unary .not (.bool x)).run Tryd.prog w = .ok (.bool (!x)) w := fun _ _ => rfl
  generalize M.cutL 8 l = zss at *
  clear hT hr hn hL
  go_enter Tryd.func7, Tryd.ntmps7
  go_wp2_with (first
    | (go_at_call 8; refine (alive_any _ HT.out).mono ?_; rintro e wa ⟨rfl, bela⟩; have h1 := HSet.out wa bela; clear bela HSet HT)
    | (go_at_call 10; refine h1.mono ?_; clear h1; rintro e w1 ⟨bp, rfl, h2⟩)
    | (go_at_call 9; refine h2.mono ?_; clear h2; rintro e w2 ⟨sgl, rfl, h1⟩)
    | (go_at_call 15; refine h2.mono ?_; clear h2; rintro e w4 ⟨jgl, rfl, slo, jlo, hTw⟩; have h3 := HCut.out _ _ _ _ _ _ _ hTw; clear hTw HCut)
    | (go_at_call 11; refine h3.mono ?_; clear h3; rintro e w5 ⟨va, vc, rfl, hvc, hTw, r0, r1, g0, g1, hRw⟩; have HTw : Hid _ := hTw; have HRw : Hid _ := hRw; clear hTw hRw))
  have hvc' : (n : Int) ≤ vc := by omega
  have g1' : Hid (r1 ≤ w5.heap.size) := g1
  clear g1
  go_loopw [47] (fun i wr => ∃ k : Nat, k ≤ n ∧ i = .int .i64 k ∧ ∃ xs q, Two 8 slo sgl jlo jgl xs q w wr ∧ Rows .i16 r0 r1 wr (.slice va n vc) zss ∧ r1 ≤ wr.heap.size) (fun i _ => n - (intOf i).toNat)
  case atStart => exact ⟨0, by omega, rfl, _, _, HTw.out, HRw.out, g1'.out⟩
  case round =>
    clear HTw HRw g1'
    obtain ⟨k, hk, rfl, xs, q, hTw, hRw, hs⟩ := hrel
    by_cases hlt : k < n
    · have hlt' : (k : Int) < n := by omega
      obtain ⟨b, off, rfl, _, _, _⟩ := hRw.cell (by rw [HN.out]; omega)
      obtain ⟨ua, uc, hc, hfeed⟩ := two_round (by omega) hTw hRw g0 hs (by rw [HN.out]; exact hlt) HR.out
      clear hTw hRw hs
      go_wp2_with (first
        | (go_at_call 12; refine hfeed.mono ?_; clear hfeed; rintro e w4 ⟨xa, xc, rfl, h4⟩)
        | (go_at_call 17; refine h4.mono ?_; clear h4; rintro e w5 ⟨ya, yc, rfl, hI⟩; have HI : Hid _ := hI; clear hI))
      go_roundw
      case rel => exact ⟨k + 1, by omega, by go_num, HI.out⟩
      case measure => simp [intOf] <;> omega
    · obtain rfl : k = n := by omega
      have HTw : Hid (Two 8 slo sgl jlo jgl xs q w wr) := hTw
      have HX : Hid (xs.length = 10 * 8 ∧ q.length = 20 * 8) := ⟨hTw.1.2.2.2.1, hTw.2.1.2.2.2.1⟩
      clear hTw hRw hs HR HN hvc hvc'
      go_wp2
      go_loopw [14] (fun i wr => ∃ j : Nat, j ≤ 12 ∧ i = .int .i64 j ∧ Two 8 slo sgl jlo jgl (M.zeroS 8 j xs) (M.zeroJ 8 j q) w wr) (fun i _ => 12 - (intOf i).toNat)
      case atStart => exact ⟨0, by omega, rfl, HTw.out⟩
      case round =>
        clear HTw
        obtain ⟨j, hj, rfl, hTw⟩ := hrel
        by_cases hlt : j < 12
        · have hlt' : (j : Int) < 12 := by omega
          have hz := HZ.out _ _ _ _ _ _ _ hTw
          rw [← M.zeroS_succ, ← M.zeroJ_succ] at hz
          clear hTw
          by_cases h9 : j < 9
          · have h9' : ¬ (9 : Int) ≤ j := by omega
            go_wp2_with (first
              | (go_at_call 12; refine hz.mono ?_; clear hz; rintro e w4 ⟨xa, xc, rfl, h4⟩)
              | (go_at_call 17; refine h4.mono ?_; clear h4; rintro e w5 ⟨ya, yc, rfl, hI, -, -⟩; have HI : Hid _ := hI; clear hI))
            go_roundw
            case rel => exact ⟨j + 1, by omega, by go_num, HI.out⟩
            case measure => simp [intOf] <;> omega
          · have h9' : (9 : Int) ≤ j := by omega
            rw [M.zeroS_ten HX.out.1 (by omega), M.zeroJ_ten HX.out.2 (by omega), M.spl_zero (by omega), M.jn_zero] at hz
            have HE : Hid (Two 8 slo sgl jlo jgl (List.replicate (10 * 8) 0) (List.replicate (20 * 8) 0) w = Two 8 slo sgl jlo jgl (M.zeroS 8 (j + 1) xs) (M.zeroJ 8 (j + 1) q) w) := by
              show _ = _
              rw [M.zeroS_ten HX.out.1 (by omega), M.zeroJ_ten HX.out.2 (by omega)]
            go_wp2_with (first
              | (go_at_call 12; refine hz.mono ?_; clear hz; rintro e w4 ⟨xa, xc, rfl, h4⟩)
              | (go_at_call 17; refine h4.mono ?_; clear h4; rintro e w5 ⟨ya, yc, rfl, hI, hx5, hy5⟩; have h6 := HSame.out _ _ _ _ _ _ _ _ _ _ _ hI hx5 hy5; clear hI hx5 hy5)
              | (go_at_call 13; refine h6.mono ?_; clear h6; rintro e w6 ⟨rfl, h7⟩)
              | (go_at_call 18; refine h7.mono ?_; clear h7; rintro e w7 ⟨rfl, hI⟩; have HI : Hid _ := hI; clear hI))
            go_roundw
            case rel => exact ⟨j + 1, by omega, by go_num, by rw [← HE.out]; exact HI.out⟩
            case measure => simp [intOf] <;> omega
        · obtain rfl : j = 12 := by omega
          have HB : Hid (Below w.heap.size w wr) := hTw.2.2.2.2
          clear hTw
          go_wp2
          go_ret
          exact ⟨rfl, HB.out⟩

theorem quiet_long (b0 : Bool) (l : List Int) (vl : Value) (w : World) (hT : Wave.Tab w) (hr : Reads .i16 0 w.heap.size w vl l) (hl : 300 < l.length) :
    Calls Tryd.prog 7 #[.bool b0, vl] w fun e w' => e = .returned (.bool true) ∧ Below w.heap.size w w' := by
  have HT : Hid (Wave.Tab w) := hT
  obtain ⟨a, c, rfl⟩ := hr.form
  obtain ⟨L, hL⟩ : ∃ L, l.length = L := ⟨_, rfl⟩
  rw [hL] at hl ⊢
  have hl' : (300 : Int) < L := by omega
  have hnot : ∀ (x : Bool) (w : World), (Op.unary .not (.bool x)).run Tryd.prog w = .ok (.bool (!x)) w := fun _ _ => rfl
  clear hT hr hL
  go_enter Tryd.func7, Tryd.ntmps7
  go_wp2_with (go_at_call 8; refine (alive_any _ HT.out).mono ?_; rintro e wa ⟨rfl, bela⟩)
  go_ret
  exact ⟨rfl, bela⟩

theorem PolyQuiet_walk (b0 : Bool) (l : List Int) (vl : Value) (w : World) (hT : Wave.Tab w) (hr : Reads .i16 0 w.heap.size w vl l) :
    Calls Tryd.prog 7 #[.bool b0, vl] w fun e w' => e = .returned (.bool true) ∧ Below w.heap.size w w' := by
  rcases Nat.lt_or_ge 300 l.length with h | h
  · exact quiet_long b0 l vl w hT hr h
  · cases b0
    · exact quiet_4 l vl w hT hr h
    · exact quiet_8 l vl w hT hr h

end Poly
end Go.Proofs.YtkmkackifihhjaaDoor
