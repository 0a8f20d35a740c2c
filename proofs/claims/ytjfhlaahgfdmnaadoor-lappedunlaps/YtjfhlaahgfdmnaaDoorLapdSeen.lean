/-
  Contracts of what is seen through the window, and of an unlapper's numbers. Conditions: as told at each.
-/
import Derived.Test.YtjfhlaahgfdmnaaDoorLapdSum
import Derived.Deep.DeepCutAuto
import Derived.Deep.RegionHeld3
namespace Go.Proofs.YtjfhlaahgfdmnaaDoor
set_option linter.unusedVariables false
open Go.RowKit
namespace Lapd
open Bank (Blk But)
open Poly (Reads enc enc_get enc_length enc_rep fit16 fit32 Fill make16 make32 reads_blk reads_own cell_keep below_but below_drewN below_drew alloc_size zeros16 zeros32)

theorem cell_set_ne {w : World} {g q b o : Nat} (v : Value) (h : b ≠ g) : (w.setCell ⟨g, q, none⟩ v).cell? ⟨b, o, none⟩ = w.cell? ⟨b, o, none⟩ := cell_keep (Below.heap_setCell _ _ _ _ h)
theorem wrap32_id (n : Int) (h0 : -2147483648 ≤ n) (h1 : n ≤ 2147483647) : IntKind.i32.wrap n = n := by rw [IntKind.wrap_i32]; omega

/-- a list of 2 n numbers that is being filled: of the first half i are told, of the second j -/
def Two (g n i j : Nat) (f : Nat → Int) (w : World) : Prop := ∃ tab : Array Value, Blk w g tab 21 ∧ tab.size = 2 * n ∧ (∀ q, q < i → tab[q]? = some (.int .i32 (f q))) ∧ ∀ q, q < j → tab[n + q]? = some (.int .i32 (f (n + q)))
section
variable {g n i j : Nat} {f : Nat → Int} {w : World}
theorem Two.start (h : Blk w g (enc .i32 (List.replicate (2 * n) 0)).toArray 21) : Two g n 0 0 f w := ⟨_, h, by simp [enc_length], fun q hq => absurd hq (by omega), fun q hq => absurd hq (by omega)⟩
theorem Two.drewN (h : Two g n i j f w) (m : Nat) : Two g n i j f (w.drewN m) := h
theorem Two.cell (h : Two g n i j f w) {q : Nat} (hq : q < 2 * n) : (∃ u, w.cell? ⟨g, q, none⟩ = some u) ∧ w.frozen? ⟨g, q, none⟩ = false := by
  obtain ⟨tab, h1, h2, _⟩ := h
  exact ⟨⟨tab[q]'(by omega), h1.cell (by simp [h2, hq])⟩, h1.free q⟩
theorem Two.low (h : Two g n i j f w) (hi : i < n) {y : Int} (hy : y = f i) : Two g n (i + 1) j f (w.setCell ⟨g, i, none⟩ (.int .i32 y)) := by
  obtain ⟨tab, h1, h2, h3, h4⟩ := h
  subst hy
  refine ⟨_, h1.set _ _, by simpa using h2, fun q hq => ?_, fun q hq => ?_⟩
  · rw [Array.getElem?_setIfInBounds]
    split
    · rename_i e; subst e; rw [if_pos (by omega)]
    · exact h3 q (by omega)
  · rw [Array.getElem?_setIfInBounds, if_neg (by omega)]; exact h4 q hq
theorem Two.high (h : Two g n i j f w) (hj : j < n) (hi : i ≤ n) {p : Nat} (hp : p = n + j) {y : Int} (hy : y = f (n + j)) : Two g n i (j + 1) f (w.setCell ⟨g, p, none⟩ (.int .i32 y)) := by
  obtain ⟨tab, h1, h2, h3, h4⟩ := h
  subst hy hp
  refine ⟨_, h1.set _ _, by simpa using h2, fun q hq => ?_, fun q hq => ?_⟩
  · rw [Array.getElem?_setIfInBounds, if_neg (by omega)]; exact h3 q hq
  · rw [Array.getElem?_setIfInBounds]
    split
    · have : q = j := by omega
      subst this; rw [if_pos (by omega)]
    · exact h4 q (by omega)
theorem Two.whole (h : Two g n n n f w) : Blk w g (enc .i32 ((List.range (2 * n)).map f)).toArray 21 := by
  obtain ⟨tab, h1, h2, h3, h4⟩ := h
  have e : tab = (enc .i32 ((List.range (2 * n)).map f)).toArray := by
    apply Array.ext'
    apply List.ext_getElem?
    intro q
    by_cases hq : q < 2 * n
    · rw [Array.getElem?_toList]
      have e : tab[q]? = some (.int .i32 (f q)) := by
        rcases Nat.lt_or_ge q n with h | h
        · exact h3 q h
        · have := h4 (q - n) (by omega)
          rw [show n + (q - n) = q from by omega] at this
          exact this
      rw [e]
      simp [enc, hq]
    · rw [List.getElem?_eq_none (by simp; omega), List.getElem?_eq_none (by simp [enc]; omega)]
  rw [← e]; exact h1
end

set_option maxRecDepth 100000 in
set_option maxHeartbeats 2000000 in
theorem windowed_any (n N2 lo gl lo' hi' : Nat) (o x : List Int) (vx : Value) (w : World) (h : Lap lo gl n o w) (hx : Reads .i16 lo' hi' w vx x) (hxl : x.length = n) (h1 : hi' ≤ w.heap.size) (e2 : 2 * n = N2) (n0 : 2 ≤ n) (n1 : n ≤ 120) :
    Calls Tryd.prog 31 #[.pointer (some ⟨gl + 1, 0, none⟩), vx] w fun e w' => e = .returned (.slice (some ⟨w.heap.size, 0, none⟩) N2 N2) ∧ Blk w' w.heap.size (enc .i32 (M.aws n o x)).toArray 21 ∧ Below w.heap.size w w' ∧ w'.heap.size = w.heap.size + 1 := by
  obtain ⟨g0, g1, g2, g3, g4, wa, wc', ta, tc, g5, g6, g7⟩ := h
  have hof := fit16.1 g4
  have hxf : M.fits16 x := by obtain ⟨_, _, _, _, hw, _⟩ := hx; exact fit16.1 hw
  obtain ⟨bw, ow, rfl, p0, p1, hcw⟩ := g6.cell (by rw [M.wns_length]; omega)
  rw [M.wns_length] at hcw
  obtain ⟨ax, cx, rfl⟩ := hx.form
  obtain ⟨bx, ox, rfl, q0, q1, hcx⟩ := hx.cell (by omega)
  rw [hxl] at hcx ⊢
  rw [e2] at hcw g5
  have hcells : ∀ wx, Below w.heap.size w wx → wx.cell? ⟨gl + 1, 0, none⟩ = some (.int .i64 n) ∧ wx.cell? ⟨gl + 1, 1, none⟩ = some (.slice (some ⟨bw, ow, none⟩) N2 wc') ∧ wx.cell? ⟨gl + 1, 3, none⟩ = some (.slice (some ⟨gl, 0, none⟩) n n) ∧
      (∀ i, i < n → wx.cell? ⟨gl, i, none⟩ = some (.int .i16 (o.getD i 0))) ∧ (∀ i, i < n → wx.cell? ⟨bx, ox + i, none⟩ = some (.int .i16 (x.getD i 0))) ∧ ∀ i, i < N2 → wx.cell? ⟨bw, ow + i, none⟩ = some (.int .i16 (M.wn n i)) := by
    intro wx hb
    have k := hb.block (gl + 1) (by omega)
    exact ⟨(cell_keep k).trans (g5.cell (o := 0) rfl), (cell_keep k).trans (g5.cell (o := 1) rfl), (cell_keep k).trans (g5.cell (o := 3) rfl),
      fun i hi => (cell_keep (hb.block gl (by omega))).trans (g2.cell (by rw [List.getElem?_toArray]; exact enc_get (by omega))), fun i hi => (cell_keep (hb.block bx (by omega))).trans (hcx i hi), fun i hi => (cell_keep (hb.block bw (by omega))).trans (by rw [hcw i hi, M.wns_get (by omega)])⟩
  have hmul : ∀ (a b : Int) (wx : World), -32768 ≤ a → a ≤ 32767 → -32767 ≤ b → b ≤ 32767 → Calls Tryd.prog 45 #[.int .i32 a, .int .i16 b] wx fun e w' => e = .returned (.int .i32 (M.rnd (a * b) 15)) ∧ ∃ m, w' = wx.drewN m := by
    intro a b wx a0 a1 b0 b1
    have hb := M.rnd15_small a0 a1 b0 b1
    have := Mul15_any a b wx ⟨by omega, by omega⟩ ⟨by omega, by omega⟩
    rw [M.sat32_id (by omega) (by omega)] at this
    exact this
  have hmk := make32 w N2 (by omega)
  have hst : Two w.heap.size n 0 0 (M.aw n o x) (w.alloc (.cells (enc .i32 (List.replicate N2 0)).toArray 21)) := Two.start (by rw [e2]; exact Blk.new w _ _)
  generalize (enc .i32 (List.replicate N2 0)).toArray = cs at hmk hst
  have bel0 : Below w.heap.size w (w.alloc (.cells cs 21)) := (Below.refl _ _).alloc (Nat.le_refl _) _
  have hs0 : (w.alloc (.cells cs 21)).heap.size = w.heap.size + 1 := alloc_size _ _
  have c00 := (hcells w (Below.refl _ _)).1
  have HC : Hid _ := hcells
  have HMu : Hid _ := hmul
  have HLo : Hid (∀ k, k < n → M.aw n o x k = M.rnd (o.getD k 0 * M.wn n k) 15) := fun k hk => M.aw_lo hk
  have HHi : Hid (∀ k, M.aw n o x (n + k) = M.rnd (x.getD k 0 * M.wn n (n + k)) 15) := fun k => M.aw_hi
  have HO : Hid (∀ i, -32768 ≤ o.getD i 0 ∧ o.getD i 0 ≤ 32767) := M.get_bd hof (by decide) (by decide)
  have HXb : Hid (∀ i, -32768 ≤ x.getD i 0 ∧ x.getD i 0 ≤ 32767) := M.get_bd hxf (by decide) (by decide)
  have HWb : Hid (∀ i, -32767 ≤ M.wn n i ∧ M.wn n i ≤ 32767) := fun i => M.wn_bd n i n0
  have HE2 : Hid (2 * n = N2) := e2
  have HLt : Hid (gl + 1 < w.heap.size ∧ bw < w.heap.size) := by show gl + 1 < w.heap.size ∧ bw < w.heap.size; omega
  have HLx : Hid (bx < w.heap.size) := by show bx < w.heap.size; omega
  have i2 : 2 * (n : Int) = (N2 : Int) := by omega
  have b1 : (n : Int) ≤ 120 := by omega
  have b0 : (2 : Int) ≤ n := by omega
  have b2 : (N2 : Int) ≤ 240 := by omega
  unfold M.aws
  generalize M.aw n o x = F at *
  clear hcells hmul g0 g1 g2 g3 g4 g5 g6 g7 p0 p1 q0 q1 hcw hcx hx hxl hof hxf e2 h1
  go_enter Tryd.func31, Tryd.ntmps31
  go_wp2
  go_loopw [16] (fun i wr => ∃ k : Nat, k ≤ n ∧ i = .int .i64 k ∧ Two w.heap.size n k k F wr ∧ Below w.heap.size w wr ∧ wr.heap.size = w.heap.size + 1) (fun i _ => n - (intOf i).toNat)
  case atStart => exact ⟨0, by omega, rfl, hst, bel0, hs0⟩
  case round =>
    clear hst bel0 hs0 hmk c00
    obtain ⟨k, hk, rfl, hf, hbw, hsw⟩ := hrel
    by_cases hlt : k < n
    · have hlt' : (k : Int) < n := by omega
      have hlt2 : (k : Int) < N2 := by omega
      obtain ⟨d0, d1, d3, dg, dx, dw⟩ := HC.out wr hbw
      have e2 := HE2.out
      have a1 := dg k hlt
      have a2 := dw k (by omega)
      obtain ⟨⟨u, hu⟩, hfz⟩ := hf.cell (q := k) (by omega)
      obtain ⟨oa, ob⟩ := HO.out k
      obtain ⟨va, vb⟩ := HWb.out k
      have hm1 := fun wx => HMu.out (o.getD k 0) (M.wn n k) wx oa ob va vb
      have hy1 : Hid (M.rnd (o.getD k 0 * M.wn n k) 15 = F k) := (HLo.out k hlt).symm
      generalize o.getD k 0 = ok at *
      generalize M.wn n k = wk at *
      generalize M.rnd (ok * wk) 15 = y1 at *
      have hwr := wrap32_id ok (by omega) (by omega)
      have HTwo : Hid (Two _ _ _ _ _ _) := hf
      have HBw : Hid (Below _ _ _) := hbw
      clear hf hbw dg dx dw e2
      have hset : ∀ (wx : World) (v : Value), (wx.cell? ⟨gl + 1, 3, none⟩ = some (.slice (some ⟨gl, 0, none⟩) n n) ∧ wx.cell? ⟨gl + 1, 1, none⟩ = some (.slice (some ⟨bw, ow, none⟩) N2 wc') ∧ wx.cell? ⟨gl, k, none⟩ = some (.int .i16 ok) ∧ wx.cell? ⟨bw, ow + k, none⟩ = some (.int .i16 wk)) →
          ((wx.setCell ⟨w.heap.size, k, none⟩ v).cell? ⟨gl + 1, 3, none⟩ = some (.slice (some ⟨gl, 0, none⟩) n n) ∧ (wx.setCell ⟨w.heap.size, k, none⟩ v).cell? ⟨gl + 1, 1, none⟩ = some (.slice (some ⟨bw, ow, none⟩) N2 wc') ∧ (wx.setCell ⟨w.heap.size, k, none⟩ v).cell? ⟨gl, k, none⟩ = some (.int .i16 ok) ∧ (wx.setCell ⟨w.heap.size, k, none⟩ v).cell? ⟨bw, ow + k, none⟩ = some (.int .i16 wk)) := by
        intro wx v ⟨h1, h2, h3, h4⟩
        obtain ⟨l1, l2⟩ := HLt.out
        exact ⟨by rw [cell_set_ne v (by omega)]; exact h1, by rw [cell_set_ne v (by omega)]; exact h2, by rw [cell_set_ne v (by omega)]; exact h3, by rw [cell_set_ne v (by omega)]; exact h4⟩
      have HSet : Hid _ := hset
      clear hset
      go_upto_region 5 with fail
      go_cut [] (fun wx => Two w.heap.size n (k + 1) k F wx ∧ Below w.heap.size w wx ∧ wx.heap.size = w.heap.size + 1)
      case first =>
        go_region_held3 (fun wx => wx.cell? ⟨gl + 1, 3, none⟩ = some (.slice (some ⟨gl, 0, none⟩) n n) ∧ wx.cell? ⟨gl + 1, 1, none⟩ = some (.slice (some ⟨bw, ow, none⟩) N2 wc') ∧ wx.cell? ⟨gl, k, none⟩ = some (.int .i16 ok) ∧ wx.cell? ⟨bw, ow + k, none⟩ = some (.int .i16 wk))
          (first | exact ⟨d3, d1, a1, a2⟩ | exact HSet.out _ _ ⟨d3, d1, a1, a2⟩)
          (first
            | (go_at_call 45; refine (hm1 _).mono ?_; rintro e w' ⟨rfl, m, rfl⟩))
        go_wp2
        go_meet
        exact ⟨(Two.drewN HTwo.out _).low hlt hy1.out, (below_drewN HBw.out _).setCell (Nat.le_refl _) _, by simpa [World.setCell] using hsw⟩
      case rest =>
        obtain ⟨hf, hbw, hsw⟩ := hcut
        clear HTwo HBw hm1 hy1 a1 a2 hu hfz d0 d1 d3 hwr oa ob va vb HSet
        obtain ⟨d0, d1, d3, dg, dx, dw⟩ := HC.out wc hbw
        have e2 := HE2.out
        obtain ⟨p, hp⟩ : ∃ p, p = n + k := ⟨_, rfl⟩
        have hp' : (n : Int) + (k : Int) = (p : Int) := by omega
        have hp2 : (p : Int) < N2 := by omega
        have hpw : IntKind.i64.wrap (p : Int) = (p : Int) := Bank.wrap_id _ (by omega) (by omega)
        have a1 := dx k hlt
        have a2 := dw p (by omega)
        obtain ⟨⟨u, hu⟩, hfz⟩ := hf.cell (q := p) (by omega)
        obtain ⟨oa, ob⟩ := HXb.out k
        obtain ⟨va, vb⟩ := HWb.out p
        have hm1 := fun wx => HMu.out (x.getD k 0) (M.wn n p) wx oa ob va vb
        have hy1 : Hid (M.rnd (x.getD k 0 * M.wn n p) 15 = F (n + k)) := by rw [hp]; exact (HHi.out k).symm
        generalize x.getD k 0 = ok at *
        generalize M.wn n p = wk at *
        generalize M.rnd (ok * wk) 15 = y1 at *
        have hwr := wrap32_id ok (by omega) (by omega)
        have HTwo : Hid (Two _ _ _ _ _ _) := hf
        have HBw : Hid (Below _ _ _) := hbw
        have HP : Hid (p = n + k) := hp
        clear hf hbw dg dx dw e2 hp
        have hset : ∀ (wx : World) (v : Value), (wx.cell? ⟨gl + 1, 0, none⟩ = some (.int .i64 n) ∧ wx.cell? ⟨gl + 1, 1, none⟩ = some (.slice (some ⟨bw, ow, none⟩) N2 wc') ∧ wx.cell? ⟨bx, ox + k, none⟩ = some (.int .i16 ok) ∧ wx.cell? ⟨bw, ow + p, none⟩ = some (.int .i16 wk)) →
            ((wx.setCell ⟨w.heap.size, p, none⟩ v).cell? ⟨gl + 1, 0, none⟩ = some (.int .i64 n) ∧ (wx.setCell ⟨w.heap.size, p, none⟩ v).cell? ⟨gl + 1, 1, none⟩ = some (.slice (some ⟨bw, ow, none⟩) N2 wc') ∧ (wx.setCell ⟨w.heap.size, p, none⟩ v).cell? ⟨bx, ox + k, none⟩ = some (.int .i16 ok) ∧ (wx.setCell ⟨w.heap.size, p, none⟩ v).cell? ⟨bw, ow + p, none⟩ = some (.int .i16 wk)) := by
          intro wx v ⟨h1, h2, h3, h4⟩
          obtain ⟨l1, l2⟩ := HLt.out
          have l3 := HLx.out
          exact ⟨by rw [cell_set_ne v (by omega)]; exact h1, by rw [cell_set_ne v (by omega)]; exact h2, by rw [cell_set_ne v (by omega)]; exact h3, by rw [cell_set_ne v (by omega)]; exact h4⟩
        have HSet : Hid _ := hset
        clear hset
        go_wp2
        go_region_held3 (fun wx => wx.cell? ⟨gl + 1, 0, none⟩ = some (.int .i64 n) ∧ wx.cell? ⟨gl + 1, 1, none⟩ = some (.slice (some ⟨bw, ow, none⟩) N2 wc') ∧ wx.cell? ⟨bx, ox + k, none⟩ = some (.int .i16 ok) ∧ wx.cell? ⟨bw, ow + p, none⟩ = some (.int .i16 wk))
          (first | exact ⟨d0, d1, a1, a2⟩ | exact HSet.out _ _ ⟨d0, d1, a1, a2⟩)
          (first
            | (go_at_call 45; refine (hm1 _).mono ?_; rintro e w' ⟨rfl, m, rfl⟩))
        go_wp2
        go_roundw
        case rel => exact ⟨k + 1, by omega, by go_num, (Two.drewN HTwo.out _).high hlt (by omega) HP.out hy1.out, (below_drewN HBw.out _).setCell (Nat.le_refl _) _, by simpa [World.setCell] using hsw⟩
        case measure => simp [intOf]; omega
    · obtain rfl : k = n := by omega
      go_wp2
      go_ret
      exact ⟨rfl, hf.whole, hbw, hsw⟩

end Lapd
end Go.Proofs.YtjfhlaahgfdmnaaDoor
