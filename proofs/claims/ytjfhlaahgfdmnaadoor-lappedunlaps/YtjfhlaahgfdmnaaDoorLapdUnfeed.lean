/-
  Feeding an unlapper. Conditions: as told at each.
-/
import Derived.Test.YtjfhlaahgfdmnaaDoorLapdFeed
namespace Go.Proofs.YtjfhlaahgfdmnaaDoor
set_option linter.unusedVariables false
open Go.RowKit
namespace Lapd
open Bank (Blk But)
open Poly (Reads enc enc_get enc_length enc_rep enc_one fit16 fit32 wf32 Fill make16 make32 reads_blk reads_own cell_keep below_but below_drewN below_drew alloc_size zeros16 zeros32 add_off run_clear_row)

/-- an unlapper of whose new overlap k numbers are told -/
def Some (lo gl n k : Nat) (f : Nat → Int) (w : World) : Prop := ∃ ys, Unl lo gl n ys w ∧ ∀ j, j < k → ys.getD j 0 = f j
theorem Some.drewN {lo gl n k : Nat} {f : Nat → Int} {w : World} (h : Some lo gl n k f w) (m : Nat) : Some lo gl n k f (w.drewN m) := h
theorem Some.step {lo gl n k : Nat} {f : Nat → Int} {w : World} (h : Some lo gl n k f w) (hk : k < n) {y : Int} (hy : y = f k) (hf : -2147483648 ≤ f k ∧ f k ≤ 2147483647) : Some lo gl n (k + 1) f (w.setCell ⟨gl, k, none⟩ (.int .i32 y)) := by
  obtain ⟨ys, h1, h2⟩ := h
  subst hy
  refine ⟨ys.set k (f k), ?_, fun j hj => ?_⟩
  · refine h1.relay ((Bank.But.refl gl w).set (a := ⟨gl, k, none⟩) (.inl rfl) _) ?_ (by rw [List.length_set]; exact h1.2.2.2.1) (fun z hz => ?_)
    · have := h1.2.2.1.set k (.int .i32 (f k))
      have e : (enc .i32 ys).toArray.setIfInBounds k (.int .i32 (f k)) = (enc .i32 (ys.set k (f k))).toArray := by simp [enc, List.map_set]
      rw [e] at this
      exact this
    · rcases List.mem_or_eq_of_mem_set hz with h | rfl
      · exact h1.2.2.2.2.1 z h
      · exact wf32.2 hf
  · have hl := h1.2.2.2.1
    simp only [List.getD]
    rw [List.getElem?_set]
    split
    · rename_i e; subst e; rw [if_pos (by omega)]; rfl
    · exact h2 j (by omega)
theorem Some.whole {lo gl n : Nat} {c : List Int} {w : World} (h : Some lo gl n n (fun j => M.uz n c (n + j)) w) : Unl lo gl n (M.ov n c) w := by
  obtain ⟨ys, h1, h2⟩ := h
  have e : ys = M.ov n c := by
    apply List.ext_getElem?
    intro j
    have hl := h1.2.2.2.1
    by_cases hj : j < n
    · have := h2 j hj
      rw [List.getElem?_eq_getElem (by omega), List.getElem?_eq_getElem (by rw [M.ov_length]; exact hj)]
      rw [List.getD, List.getElem?_eq_getElem (by omega)] at this
      have o := M.ov_get (c := c) hj
      rw [List.getD, List.getElem?_eq_getElem (by rw [M.ov_length]; exact hj)] at o
      simp only [Option.getD_some] at this o
      rw [this, o]
    · rw [List.getElem?_eq_none (by omega), List.getElem?_eq_none (by rw [M.ov_length]; omega)]
  rw [← e]; exact h1
theorem Some.cell {lo gl n k : Nat} {f : Nat → Int} {w : World} (h : Some lo gl n k f w) {j : Nat} (hj : j < n) : (∃ u, w.cell? ⟨gl, j, none⟩ = some u) ∧ w.frozen? ⟨gl, j, none⟩ = false := by
  obtain ⟨ys, h1, _⟩ := h
  have hl := h1.2.2.2.1
  exact ⟨⟨_, h1.2.2.1.cell (by rw [List.getElem?_toArray]; exact enc_get (by omega))⟩, h1.2.2.1.free j⟩

theorem unlFeed_err (lo gl n : Nat) (xs : List Int) (a : Option Addr) (l c : Nat) (w : World) (h : Unl lo gl n xs w) (hl : l ≠ n) :
    Calls Tryd.prog 20 #[.pointer (some ⟨gl + 1, 0, none⟩), .slice a l c] w fun e w' => e = .returned (.tuple #[.slice none 0 0, .int .i64 1]) ∧ w' = w := by
  obtain ⟨c0, c3⟩ := h.cells
  have hne : ((l : Int) != (n : Int)) = true := by rw [bne_iff_ne]; omega
  clear h
  go_enter Tryd.func20, Tryd.ntmps20
  go_wp2
  go_ret2
  exact ⟨rfl, rfl⟩

set_option maxRecDepth 100000 in
set_option maxHeartbeats 2000000 in
theorem unlFeed (n N2 N8 lo gl lo' hi' : Nat) (o c : List Int) (vc : Value) (w : World) (h : Unl lo gl n o w) (hc : Reads .i32 lo' hi' w vc c) (hcl : c.length = n) (h1 : hi' ≤ w.heap.size) (hg : gl < lo' ∨ hi' ≤ gl) (e2 : 2 * n = N2) (e8 : 8 * n = N8) (n0 : 2 ≤ n) (n1 : n ≤ 120) :
    Calls Tryd.prog 20 #[.pointer (some ⟨gl + 1, 0, none⟩), vc] w fun e w' => ∃ g, e = .returned (.tuple #[.slice (some ⟨g, 0, none⟩) n n, .int .i64 0]) ∧ Unl lo gl n (M.ov n c) w' ∧ But gl w w' ∧ w.heap.size ≤ g ∧ w'.heap.size = g + 1 ∧ Reads .i32 g (g + 1) w' (.slice (some ⟨g, 0, none⟩) n n) (M.un n o c) := by
  obtain ⟨c0, c3⟩ := h.cells
  have hg1 := h.2.1
  have hol := h.2.2.2.1
  have hof := fit32.1 h.2.2.2.2.1
  -- the first loop: nothing of the unlapper turns
  have hfst : ∀ wx, Below w.heap.size w wx → wx.cell? ⟨gl + 1, 0, none⟩ = some (.int .i64 n) ∧ wx.cell? ⟨gl + 1, 3, none⟩ = some (.slice (some ⟨gl, 0, none⟩) n n) ∧ (∀ j, j < n → wx.cell? ⟨gl, j, none⟩ = some (.int .i32 (o.getD j 0))) ∧ Unl lo gl n o wx ∧
      ∀ j : Nat, j < n → Calls Tryd.prog 38 #[.pointer (some ⟨gl + 1, 0, none⟩), vc, .int .i64 j] wx.drew fun e w' => e = .returned (.int .i32 (M.uz n c j)) ∧ ∃ m, w' = wx.drewN m := by
    intro wx hb
    have hU := h.below hb h.2.1
    refine ⟨hU.cells.1, hU.cells.2, fun j hj => hU.2.2.1.cell (by rw [List.getElem?_toArray]; exact enc_get (by omega)), hU, fun j hj => ?_⟩
    refine (number_any n N2 N8 lo gl lo' hi' j o c vc wx.drew hU.drew (Poly.Reads.below hc hb h1).drew hcl e2 e8 n0 n1 (by omega)).mono ?_
    rintro e w' ⟨rfl, m, rfl⟩
    exact ⟨rfl, 1 + m, World.drewN_drewN wx 1 m⟩
  -- the second: its overlap turns
  have hsnd : ∀ wx k, Some lo gl n k (fun j => M.uz n c (n + j)) wx → But gl w wx → wx.cell? ⟨gl + 1, 0, none⟩ = some (.int .i64 n) ∧ wx.cell? ⟨gl + 1, 3, none⟩ = some (.slice (some ⟨gl, 0, none⟩) n n) ∧
      ∀ p : Nat, p < N2 → Calls Tryd.prog 38 #[.pointer (some ⟨gl + 1, 0, none⟩), vc, .int .i64 p] wx.drew fun e w' => e = .returned (.int .i32 (M.uz n c p)) ∧ ∃ m, w' = wx.drewN m := by
    intro wx k ⟨ys, hU, _⟩ hb
    refine ⟨hU.cells.1, hU.cells.2, fun p hp => ?_⟩
    refine (number_any n N2 N8 lo gl lo' hi' p ys c vc wx.drew hU.drew (Poly.Reads.but hc hb h1 (by omega)).drew hcl e2 e8 n0 n1 hp).mono ?_
    rintro e w' ⟨rfl, m, rfl⟩
    exact ⟨rfl, 1 + m, World.drewN_drewN wx 1 m⟩
  have hadd : ∀ (j : Nat) (wx : World), Calls Tryd.prog 37 #[.int .i32 (M.uz n c j), .int .i32 (o.getD j 0)] wx fun e w' => e = .returned (.int .i32 (M.sat32 (M.uz n c j + o.getD j 0))) ∧ w' = wx := fun j wx => Add_any _ _ wx (M.uz_bd n c j) (M.get_bd hof (by decide) (by decide) j)
  obtain ⟨ac, cc, rfl⟩ := hc.form
  rw [hcl] at hfst hsnd ⊢
  have hne : ((n : Int) != (n : Int)) = false := by simp
  have hmk := make32 w n (by omega)
  have hst : Fill .i32 21 w.heap.size n 0 (fun j => M.sat32 (M.uz n c j + o.getD j 0)) (w.alloc (.cells (enc .i32 (List.replicate n 0)).toArray 21)) := Fill.start (Blk.new w _ _)
  generalize (enc .i32 (List.replicate n 0)).toArray = cs at hmk hst
  have bel0 : Below w.heap.size w (w.alloc (.cells cs 21)) := (Below.refl _ _).alloc (Nat.le_refl _) _
  have hs0 : (w.alloc (.cells cs 21)).heap.size = w.heap.size + 1 := alloc_size _ _
  have HS0 : Hid (_ = _) := hs0
  have HF1 : Hid _ := hfst
  have HF2 : Hid _ := hsnd
  have HA : Hid _ := hadd
  have HUn : Hid (M.un n o c = (List.range n).map fun j => M.sat32 (M.uz n c j + o.getD j 0)) := rfl
  have HUf : Hid (M.fits32 (M.un n o c)) := M.un_fits n o c
  have HZb : Hid (∀ j, -2147483648 ≤ M.uz n c j ∧ M.uz n c j ≤ 2147483647) := M.uz_bd n c
  have HE2 : Hid (2 * n = N2) := e2
  have HGl : Hid (gl + 2 ≤ w.heap.size) := hg1
  have b1 : (n : Int) ≤ 120 := by omega
  have b0 : (2 : Int) ≤ n := by omega
  generalize hFF : (fun j => M.sat32 (M.uz n c j + o.getD j 0)) = FF at *
  have HFF : Hid (∀ j, M.sat32 (M.uz n c j + o.getD j 0) = FF j) := fun j => congrFun hFF j
  generalize hGG : (fun j => M.uz n c (n + j)) = GG at *
  have HGG : Hid (∀ j, M.uz n c (n + j) = GG j) := fun j => congrFun hGG j
  have HWG : Hid (∀ wx, Some lo gl n n GG wx → Unl lo gl n (M.ov n c) wx) := fun wx hx => Some.whole (by rw [hGG]; exact hx)
  clear hfst hsnd hadd hc h hof h1 hg hcl hg1 hs0 hol e2 e8 hFF hGG
  go_enter Tryd.func20, Tryd.ntmps20
  go_wp2
  go_loopw [27] (fun i wr => ∃ k : Nat, k ≤ n ∧ i = .int .i64 k ∧ Fill .i32 21 w.heap.size n k FF wr ∧ Below w.heap.size w wr ∧ wr.heap.size = w.heap.size + 1) (fun i _ => n - (intOf i).toNat)
  case atStart => exact ⟨0, by omega, rfl, hst, bel0, HS0.out⟩
  case round =>
    clear hst bel0 hmk c0 c3 HS0
    obtain ⟨k, hk, rfl, hf, hbw, hsw⟩ := hrel
    obtain ⟨d0, d3, dov, hU, hnum⟩ := HF1.out wr hbw
    by_cases hlt : k < n
    · have hlt' : (k : Int) < n := by omega
      have hn1 := hnum k hlt
      have hov := dov k hlt
      have hadd := fun wx => HA.out k wx
      obtain ⟨⟨u, hu⟩, hfz⟩ := hf.cell hlt
      have HFl : Hid (Fill _ _ _ _ _ _ _) := hf
      have HBw : Hid (Below _ _ _) := hbw
      have hset : ∀ (wx : World) (v : Value), (wx.cell? ⟨gl + 1, 3, none⟩ = some (.slice (some ⟨gl, 0, none⟩) n n) ∧ wx.cell? ⟨gl, k, none⟩ = some (.int .i32 (o.getD k 0))) → ((wx.setCell ⟨w.heap.size, k, none⟩ v).cell? ⟨gl + 1, 3, none⟩ = some (.slice (some ⟨gl, 0, none⟩) n n) ∧ (wx.setCell ⟨w.heap.size, k, none⟩ v).cell? ⟨gl, k, none⟩ = some (.int .i32 (o.getD k 0))) := by
        intro wx v ⟨h1, h2⟩
        have l1 := HGl.out
        exact ⟨by rw [cell_set_ne v (by omega)]; exact h1, by rw [cell_set_ne v (by omega)]; exact h2⟩
      have HSet : Hid _ := hset
      have HY : Hid (M.sat32 (M.uz n c k + o.getD k 0) = FF k) := HFF.out k
      clear hset hf hbw hnum dov hU HF1 HF2 HA HFF HGG
      generalize o.getD k 0 = ok at *
      generalize M.uz n c k = zk at *
      generalize M.sat32 (zk + ok) = y at *
      go_wp2
      go_region_held3 (fun wx => wx.cell? ⟨gl + 1, 3, none⟩ = some (.slice (some ⟨gl, 0, none⟩) n n) ∧ wx.cell? ⟨gl, k, none⟩ = some (.int .i32 ok))
        (first | exact ⟨d3, hov⟩ | exact HSet.out _ _ ⟨d3, hov⟩)
        (first
          | (go_at_call 38; refine hn1.mono ?_; clear hn1; rintro e w' ⟨rfl, m, rfl⟩)
          | (go_at_call 37; refine (hadd _).mono ?_; clear hadd; rintro e w' ⟨rfl, hw⟩; rw [hw]; clear hw w'))
      go_wp2
      go_roundw
      case rel => exact ⟨k + 1, by omega, by go_num, (HFl.out.drewN _).step hlt HY.out, (below_drewN HBw.out _).setCell (Nat.le_refl _) _, by simpa [World.setCell] using hsw⟩
      case measure => simp [intOf]; omega
    · obtain rfl : k = n := by omega
      have hwh := hf.whole
      have HWh : Hid (Blk _ _ _ _) := hwh
      have hso : Some lo gl k 0 GG wr := ⟨o, hU, fun j hj => absurd hj (by omega)⟩
      have hbt := Bank.But.of_below (b := gl) hbw (Nat.le_refl _)
      have hblk0 := hf.whole
      clear hf hnum dov hU hwh HF1 HA hbw HFF
      go_wp2
      go_loopw [51] (fun i wx => ∃ q : Nat, q ≤ k ∧ i = .int .i64 q ∧ Some lo gl k q GG wx ∧ But gl w wx ∧ wx.heap.size = w.heap.size + 1 ∧ Blk wx w.heap.size (enc .i32 ((List.range k).map FF)).toArray 21) (fun i _ => k - (intOf i).toNat)
      case atStart => exact ⟨0, by omega, rfl, hso, hbt, hsw, hblk0⟩
      case round =>
        clear hso hbt hsw hblk0 d0 d3 HWh
        obtain ⟨q, hq, rfl, hS, hB, hsz, hbl⟩ := hrel
        obtain ⟨d0, d3, hnum⟩ := HF2.out wr q hS hB
        by_cases hlt : q < k
        · have hlt' : (q : Int) < k := by omega
          obtain ⟨p, hp⟩ : ∃ p, p = k + q := ⟨_, rfl⟩
          have hp' : (k : Int) + (q : Int) = (p : Int) := by omega
          have hpw : IntKind.i64.wrap (p : Int) = (p : Int) := Bank.wrap_id _ (by omega) (by omega)
          have hn1 := hnum p (by have := HE2.out; omega)
          obtain ⟨⟨u, hu⟩, hfz⟩ := hS.cell hlt
          have HY : Hid (M.uz k c p = GG q) := by rw [hp]; exact HGG.out q
          have HYb : Hid (-2147483648 ≤ GG q ∧ GG q ≤ 2147483647) := by rw [← HY.out]; exact HZb.out p
          have HSo : Hid (Some _ _ _ _ _ _) := hS
          have HB : Hid (But _ _ _) := hB
          have HBl : Hid (Blk _ _ _ _) := hbl
          have hset : ∀ (wx : World) (v : Value), (wx.cell? ⟨gl + 1, 0, none⟩ = some (.int .i64 k) ∧ wx.cell? ⟨gl + 1, 3, none⟩ = some (.slice (some ⟨gl, 0, none⟩) k k)) → ((wx.setCell ⟨gl, q, none⟩ v).cell? ⟨gl + 1, 0, none⟩ = some (.int .i64 k) ∧ (wx.setCell ⟨gl, q, none⟩ v).cell? ⟨gl + 1, 3, none⟩ = some (.slice (some ⟨gl, 0, none⟩) k k)) := by
            intro wx v ⟨h1, h2⟩
            exact ⟨by rw [cell_set_ne v (by omega)]; exact h1, by rw [cell_set_ne v (by omega)]; exact h2⟩
          have HSet : Hid _ := hset
          clear hset hS hB hbl hnum hp HF2 HGG HZb
          generalize M.uz k c p = y at *
          go_wp2
          go_region_held3 (fun wx => wx.cell? ⟨gl + 1, 0, none⟩ = some (.int .i64 k) ∧ wx.cell? ⟨gl + 1, 3, none⟩ = some (.slice (some ⟨gl, 0, none⟩) k k))
            (first | exact ⟨d0, d3⟩ | exact HSet.out _ _ ⟨d0, d3⟩)
            (first
              | (go_at_call 38; refine hn1.mono ?_; clear hn1; rintro e w' ⟨rfl, m, rfl⟩))
          go_wp2
          go_roundw
          case rel =>
            refine ⟨q + 1, by omega, by go_num, (Some.drewN HSo.out _).step hlt HY.out HYb.out, (HB.out.drewN _).set (.inl rfl) _, by simpa [World.setCell] using hsz, ?_⟩
            exact (HBl.out.drewN _).set_ne (by show w.heap.size ≠ gl; have := HGl.out; omega) _
          case measure => simp [intOf]; omega
        · obtain rfl : q = k := by omega
          have hfin := HWG.out wr hS
          have HFi : Hid (Unl _ _ _ _ _) := hfin
          have HB : Hid (But _ _ _) := hB
          have HBl : Hid (Blk _ _ _ _) := hbl
          clear hS hB hbl hnum hfin HF2
          go_wp2
          go_ret2
          refine ⟨_, rfl, HFi.out, HB.out, Nat.le_refl _, hsz, ?_⟩
          have e := HBl.out
          rw [← HUn.out] at e
          have hr := reads_blk e (fit32.2 HUf.out)
          rw [M.un_length] at hr
          exact hr

end Lapd
end Go.Proofs.YtjfhlaahgfdmnaaDoor
