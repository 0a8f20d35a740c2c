/-
  Contracts of the waves that a splitter and a joiner work by, and of the rows of them. Conditions: as told at each.
-/
import Derived.Test.YtkmkackifihhjaaDoorPolyWalks
import Derived.BigRegion
import Derived.Deep.RegionWith
namespace Go.Proofs.YtkmkackifihhjaaDoor
set_option linter.unusedVariables false
open Go.RowKit
namespace M
/-- the cosines of a whole turn of 8 m parts -/
def tn (m : Nat) : List Int := (List.range (8 * m)).map fun i : Nat => cosine i (8 * m : Nat)
theorem tn_length (m : Nat) : (tn m).length = 8 * m := by simp [tn]
theorem tn_get {m i : Nat} (h : i < 8 * m) : (tn m).getD i 0 = cosine i (8 * m : Nat) := by simp [tn, List.getD, h]
theorem tn_wave {m i : Nat} {a b : Int} (h : i < 8 * m) (e : (i : Int) = a * b % (8 * m : Nat)) : (tn m).getD i 0 = wv m a b := by
  rw [tn_get h, e, cosine_emod]; unfold wv; congr 1
end M
namespace Poly
open Bank (Blk But)

set_option maxRecDepth 100000 in
theorem waveOf_any (m M8 lo hi : Nat) (a b : Int) (vt : Value) (w : World) (hm : (m = 4 ∧ M8 = 32) ∨ (m = 8 ∧ M8 = 64)) (ht : Reads .i16 lo hi w vt (M.tn m)) (a0 : -100 ≤ a) (a1 : a ≤ 100) (b0 : -100 ≤ b) (b1 : b ≤ 100) :
    Calls Tryd.prog 25 #[vt, .int .i64 a, .int .i64 b] w fun e w' => e = .returned (.int .i16 (M.wv m a b)) ∧ w' = w := by
  have hab := M.mul_bd a b 100 100 (by omega) (by omega) (by omega) (by omega)
  obtain ⟨at_, c, rfl⟩ := ht.form
  obtain ⟨bt, of, rfl, _, _, hx⟩ := ht.cell (by rw [M.tn_length]; omega)
  have hM : 8 * m = M8 := by omega
  have hM' : ((8 * m : Nat) : Int) = M8 := by omega
  rw [M.tn_length, hM] at hx ⊢
  have HX : Hid (∀ i, i < M8 → w.cell? ⟨bt, of + i, none⟩ = some (.int .i16 ((M.tn m).getD i 0))) := hx
  have hwv : ∀ i : Nat, i < M8 → (i : Int) = a * b % (M8 : Int) → (M.tn m).getD i 0 = M.wv m a b := fun i h1 h2 => M.tn_wave (by omega) (by rw [hM']; exact h2)
  have HW : Hid (∀ i : Nat, i < M8 → (i : Int) = a * b % (M8 : Int) → (M.tn m).getD i 0 = M.wv m a b) := hwv
  generalize M.wv m a b = y at *
  clear hx hwv ht
  have key : ∃ t : Int, (a * b).tmod (M8 : Int) = t ∧ ((0 ≤ t ∧ t < M8 ∧ t = a * b % (M8 : Int)) ∨ (t < 0 ∧ 0 ≤ t + M8 ∧ t + M8 < M8 ∧ t + M8 = a * b % (M8 : Int))) := by
    refine ⟨_, rfl, ?_⟩
    have hpos : (0 : Int) < M8 := by omega
    have h1 := Int.emod_nonneg (a * b) (by omega : (M8 : Int) ≠ 0)
    have h2 := Int.emod_lt_of_pos (a * b) hpos
    rw [Int.tmod_eq_emod]
    split
    · left; omega
    · rename_i hn
      have hne : a * b % (M8 : Int) ≠ 0 := fun e => hn (.inr (Int.dvd_of_emod_eq_zero e))
      right
      rw [show ((M8 : Int).natAbs : Int) = M8 from by omega]
      omega
  obtain ⟨t, ht, hc⟩ := key
  have m0 : (1 : Int) ≤ M8 := by omega
  have m1 : (M8 : Int) ≤ 64 := by omega
  have m2 : (M8 : Int) ≠ 0 := by omega
  rcases hc with ⟨t0, t1, t2⟩ | ⟨t0, t1, t2, t3⟩
  · obtain ⟨ix, rfl⟩ : ∃ ix : Nat, t = ix := ⟨t.toNat, by omega⟩
    have q := HX.out ix (by omega)
    rw [HW.out ix (by omega) t2] at q
    have hb : (0 : Int) ≤ ix ∧ (ix : Int) < M8 := by omega
    clear hm hM hM' t2
    go_enter Tryd.func25, Tryd.ntmps25
    go_wp2
    go_ret
    exact ⟨rfl, rfl⟩
  · obtain ⟨ix, hix⟩ : ∃ ix : Nat, t + M8 = ix := ⟨(t + M8).toNat, by omega⟩
    have q := HX.out ix (by omega)
    rw [HW.out ix (by omega) (by omega)] at q
    have hb : (0 : Int) ≤ ix ∧ (ix : Int) < M8 := by omega
    have t4 : -64 ≤ t := by omega
    clear hm hM hM' t2 t3 t1
    go_enter Tryd.func25, Tryd.ntmps25
    go_wp2
    go_ret
    exact ⟨rfl, rfl⟩

theorem splitWave (m M8 lo hi i j pt pm : Nat) (vt : Value) (w : World) (hm : (m = 4 ∧ M8 = 32) ∨ (m = 8 ∧ M8 = 64)) (ht : Reads .i16 lo hi w vt (M.tn m)) (ct : w.cell? ⟨pt, 0, none⟩ = some vt) (cm : w.cell? ⟨pm, 0, none⟩ = some (.int .i64 m)) (hi : i < 16) (hj : j < 16) :
    Calls Tryd.prog 24 #[.int .i64 i, .int .i64 j, .pointer (some ⟨pt, 0, none⟩), .pointer (some ⟨pm, 0, none⟩)] w fun e w' => e = .returned (.int .i16 (M.wv m (2 * (i : Int) + 1) (2 * (j : Int) - m))) ∧ w' = w := by
  have hw := waveOf_any m M8 lo _ (2 * (i : Int) + 1) (2 * (j : Int) - m) vt w hm ht (by omega) (by omega) (by omega) (by omega)
  have hm1 : (m : Int) ≤ 8 := by omega
  clear ht hm
  go_enter Tryd.func24, Tryd.ntmps24
  go_wp2_with (go_at_call 25; refine hw.mono ?_; rintro e w' ⟨rfl, rfl⟩)
  go_ret
  exact ⟨rfl, rfl⟩

theorem joinWave (m M8 lo hi i j pt pm : Nat) (vt : Value) (w : World) (hm : (m = 4 ∧ M8 = 32) ∨ (m = 8 ∧ M8 = 64)) (ht : Reads .i16 lo hi w vt (M.tn m)) (ct : w.cell? ⟨pt, 0, none⟩ = some vt) (cm : w.cell? ⟨pm, 0, none⟩ = some (.int .i64 m)) (hi : i < 16) (hj : j < 16) :
    Calls Tryd.prog 32 #[.int .i64 i, .int .i64 j, .pointer (some ⟨pt, 0, none⟩), .pointer (some ⟨pm, 0, none⟩)] w fun e w' => e = .returned (.int .i16 (M.wv m (2 * (j : Int) + 1) (2 * (i : Int) + m))) ∧ w' = w := by
  have hw := waveOf_any m M8 lo _ (2 * (j : Int) + 1) (2 * (i : Int) + m) vt w hm ht (by omega) (by omega) (by omega) (by omega)
  have hm1 : (m : Int) ≤ 8 := by omega
  clear ht hm
  go_enter Tryd.func32, Tryd.ntmps32
  go_wp2_with (go_at_call 25; refine hw.mono ?_; rintro e w' ⟨rfl, rfl⟩)
  go_ret
  exact ⟨rfl, rfl⟩

/-- rows that are being made: the header of kh rows is laid, k rows are told -/
def Upto (H C L k kh : Nat) (f : Nat → Nat → Int) (w wr : World) : Prop :=
  Below H w wr ∧ (∃ hd : Array Value, Blk wr H hd 22 ∧ hd.size = C ∧ ∀ r, r < kh → hd[r]? = some (.slice (some ⟨H + 1 + r, 0, none⟩) L L)) ∧ ∀ r, r < k → Blk wr (H + 1 + r) (enc .i16 ((List.range L).map (f r))).toArray 32
theorem Upto.drewN {H C L k kh : Nat} {f : Nat → Nat → Int} {w wr : World} (h : Upto H C L k kh f w wr) (m : Nat) : Upto H C L k kh f w (wr.drewN m) := ⟨below_drewN h.1 m, h.2⟩
theorem Upto.head {H C L k kh : Nat} {f : Nat → Nat → Int} {w wr : World} (h : Upto H C L k kh f w wr) (hk : k < C) : (∃ u, wr.cell? ⟨H, k, none⟩ = some u) ∧ wr.frozen? ⟨H, k, none⟩ = false := by
  obtain ⟨_, ⟨hd, h1, h2, _⟩, _⟩ := h
  exact ⟨⟨hd[k]'(by omega), h1.cell (by simp [h2, hk])⟩, h1.free k⟩
theorem Upto.row {H C L k kh : Nat} {f : Nat → Nat → Int} {w wr : World} (h : Upto H C L k kh f w wr) {r : Nat} (hr : r < kh) : wr.cell? ⟨H, r, none⟩ = some (.slice (some ⟨H + 1 + r, 0, none⟩) L L) := by
  obtain ⟨_, ⟨hd, h1, h2, h3⟩, _⟩ := h
  exact h1.cell (h3 r hr)
/-- the next row is made and laid into the header -/
theorem Upto.open {H C L k : Nat} {f : Nat → Nat → Int} {w wr : World} (h : Upto H C L k k f w wr) (hs : wr.heap.size = H + 1 + k) (hk : k < C) (hH : w.heap.size = H) (c : Array Value) :
    Upto H C L k (k + 1) f w ((wr.alloc (.cells c 32)).setCell ⟨H, k, none⟩ (.slice (some ⟨H + 1 + k, 0, none⟩) L L)) := by
  obtain ⟨h0, ⟨hd, h1, h2, h3⟩, h4⟩ := h
  refine ⟨(h0.alloc (by omega) _).setCell (Nat.le_refl _) _, ⟨_, (h1.alloc _).set _ _, by simpa using h2, fun r hr => ?_⟩, fun r hr => ?_⟩
  · rw [Array.getElem?_setIfInBounds]
    split
    · rename_i e; subst e; rw [if_pos (by omega)]
    · exact h3 r (by omega)
  · exact ((h4 r hr).alloc _).set_ne (by show H + 1 + r ≠ H; omega) _
theorem Upto.set {H C L k kh : Nat} {f : Nat → Nat → Int} {w wr : World} (h : Upto H C L k kh f w wr) (o : Nat) (v : Value) : Upto H C L k kh f w (wr.setCell ⟨H + 1 + k, o, none⟩ v) := by
  obtain ⟨h0, ⟨hd, h1, h2, h3⟩, h4⟩ := h
  exact ⟨h0.setCell (by show H ≤ H + 1 + k; omega) _, ⟨hd, h1.set_ne (by show H ≠ H + 1 + k; omega) _, h2, h3⟩, fun r hr => (h4 r hr).set_ne (by show H + 1 + r ≠ H + 1 + k; omega) _⟩
theorem Upto.shut {H C L k : Nat} {f : Nat → Nat → Int} {w wr : World} (h : Upto H C L k (k + 1) f w wr) (hF : Fill .i16 32 (H + 1 + k) L L (f k) wr) : Upto H C L (k + 1) (k + 1) f w wr := by
  refine ⟨h.1, h.2.1, fun r hr => ?_⟩
  rcases (by omega : r < k ∨ r = k) with h' | rfl
  · exact h.2.2 r h'
  · exact hF.whole
theorem Upto.rows {H C L : Nat} {f : Nat → Nat → Int} {w wr : World} (h : Upto H C L C C f w wr) (hf : ∀ i j, i < C → j < L → -32768 ≤ f i j ∧ f i j ≤ 32767) :
    Rows .i16 H (H + 1 + C) wr (.slice (some ⟨H, 0, none⟩) C C) ((List.range C).map fun i => (List.range L).map (f i)) := by
  obtain ⟨h0, ⟨hd, h1, h2, h3⟩, h4⟩ := h
  refine ⟨some ⟨H, 0, none⟩, C, by simp, by simp, .inr ⟨H, 0, rfl, Nat.le_refl _, by omega, fun i hi => ?_⟩⟩
  have hi : i < C := by simpa using hi
  refine ⟨_, by rw [Nat.zero_add]; exact h1.cell (h3 i hi), ?_⟩
  have e : ((List.range C).map fun i => (List.range L).map (f i)).getD i [] = (List.range L).map (f i) := by simp [List.getD, hi]
  rw [e]
  have hr := reads_blk (h4 i hi) (fun z hz => by
    obtain ⟨j, hj, rfl⟩ := List.mem_map.1 hz
    exact wf16.2 (hf i j hi (List.mem_range.1 hj)))
  simp only [List.length_map, List.length_range] at hr
  exact hr.mono (by omega) (by omega)

set_option maxRecDepth 100000 in
set_option maxHeartbeats 3200000 in
theorem rows_any (C L pt pm : Nat) (K : FuncId) (f : Nat → Nat → Int) (w : World) (hK : K = 24 ∨ K = 32) (hC : C ≤ 16) (hL : L ≤ 16)
    (hnum : ∀ (wx : World) (i j : Nat), Below w.heap.size w wx → i < C → j < L → Calls Tryd.prog K #[.int .i64 (i : Int), .int .i64 (j : Int), .pointer (some ⟨pt, 0, none⟩), .pointer (some ⟨pm, 0, none⟩)] wx fun e w' => e = .returned (.int .i16 (f i j)) ∧ w' = wx) :
    Calls Tryd.prog 23 #[.int .i64 (C : Int), .int .i64 (L : Int), .func (.func K) #[] #[.pointer (some ⟨pt, 0, none⟩), .pointer (some ⟨pm, 0, none⟩)]] w fun e w' =>
      e = .returned (.slice (some ⟨w.heap.size, 0, none⟩) C C) ∧ Upto w.heap.size C L C C f w w' ∧ w'.heap.size = w.heap.size + 1 + C := by
  have hmk := makeS16 w C (by omega)
  have hst : Upto w.heap.size C L 0 0 f w (w.alloc (.cells (List.replicate C (.slice none 0 0)).toArray 22)) :=
    ⟨(Below.refl _ _).alloc (Nat.le_refl _) _, ⟨_, Blk.new w _ _, by simp, fun r hr => absurd hr (by omega)⟩, fun r hr => absurd hr (by omega)⟩
  have hsz : (w.alloc (.cells (List.replicate C (.slice none 0 0)).toArray 22)).heap.size = w.heap.size + 1 + 0 := by simp
  generalize (List.replicate C (Value.slice none 0 0)).toArray = cs at hmk hst hsz
  have HN : Hid _ := hnum
  have C1 : (C : Int) ≤ 16 := by omega
  have L1 : (L : Int) ≤ 16 := by omega
  clear hnum
  go_enter Tryd.func23, Tryd.ntmps23
  go_wp2
  go_loopw [14] (fun i wr => ∃ k : Nat, k ≤ C ∧ i = .int .i64 k ∧ Upto w.heap.size C L k k f w wr ∧ wr.heap.size = w.heap.size + 1 + k) (fun i _ => C - (intOf i).toNat)
  case atStart => exact ⟨0, by omega, rfl, hst, hsz⟩
  case round =>
    clear hst hsz hmk
    obtain ⟨k, hk, rfl, hU, hsw⟩ := hrel
    by_cases hlt : k < C
    · have hlt' : (k : Int) < C := by omega
      obtain ⟨⟨u, hu⟩, hfz⟩ := hU.head hlt
      have hmk := make16 wr L (by omega)
      have hbl : Blk (wr.alloc (.cells (enc .i16 (List.replicate L 0)).toArray 32)) (w.heap.size + 1 + k) (enc .i16 (List.replicate L 0)).toArray 32 := by rw [← hsw]; exact Blk.new wr _ _
      have hO := hU.open hsw hlt rfl (enc .i16 (List.replicate L 0)).toArray
      have hF : Fill .i16 32 (w.heap.size + 1 + k) L 0 (f k) ((wr.alloc (.cells (enc .i16 (List.replicate L 0)).toArray 32)).setCell ⟨w.heap.size, k, none⟩ (.slice (some ⟨w.heap.size + 1 + k, 0, none⟩) L L)) :=
        Fill.start (hbl.set_ne (by show w.heap.size + 1 + k ≠ w.heap.size; omega) _)
      generalize (enc .i16 (List.replicate L 0)).toArray = cs2 at hmk hO hF
      have hu2 : (wr.alloc (.cells cs2 32)).cell? ⟨w.heap.size, k, none⟩ = some u := Lib.cell?_alloc_some _ hu
      have hfz2 : (wr.alloc (.cells cs2 32)).frozen? ⟨w.heap.size, k, none⟩ = false := by
        obtain ⟨_, ⟨hd, h1, _⟩, _⟩ := hU
        exact (h1.alloc _).free k
      have hrow := hO.row (r := k) (by omega)
      have hsw2 : ((wr.alloc (.cells cs2 32)).setCell ⟨w.heap.size, k, none⟩ (.slice (some ⟨w.heap.size + 1 + k, 0, none⟩) L L)).heap.size = w.heap.size + 1 + k + 1 := by simp [World.setCell, hsw]
      have HO : Hid (Upto _ _ _ _ _ _ _ _) := hO
      have HF : Hid (Fill _ _ _ _ _ _ _) := hF
      have HS : Hid (_ = _) := hsw2
      clear hO hF hsw2 hbl hU
      go_wp2
      go_loopw [27] (fun i w2 => ∃ j : Nat, j ≤ L ∧ i = .int .i64 j ∧ Upto w.heap.size C L k (k + 1) f w w2 ∧ Fill .i16 32 (w.heap.size + 1 + k) L j (f k) w2 ∧ w2.heap.size = w.heap.size + 1 + k + 1) (fun i _ => L - (intOf i).toNat)
      case atStart =>
        refine ⟨0, by omega, rfl, ?_, ?_, ?_⟩
        · exact HO.out
        · exact HF.out
        · exact HS.out
      case round =>
        clear HO HF HS hu2 hfz2 hrow hmk hu hfz
        obtain ⟨j, hj, rfl, hU2, hF2, hs2⟩ := hrel
        by_cases hjl : j < L
        · have hjl' : (j : Int) < L := by omega
          have q1 := hU2.row (r := k) (by omega)
          obtain ⟨⟨u2, q2⟩, q3⟩ := hF2.cell hjl
          have hcall := HN.out wr.drew k j (below_drew hU2.1) hlt hjl
          rcases hK with rfl | rfl
          · go_wp2
            go_region_with (go_at_call 24; refine hcall.mono ?_; rintro e w' ⟨rfl, rfl⟩)
            all_goals
              go_wp2
              go_roundw
              case rel => exact ⟨j + 1, by omega, by go_num, (hU2.drewN 1).set _ _, hF2.drew.step hjl rfl, by simpa [World.setCell] using hs2⟩
              case measure => simp [intOf]; omega
          · go_wp2
            go_region_with (go_at_call 32; refine hcall.mono ?_; rintro e w' ⟨rfl, rfl⟩)
            all_goals
              go_wp2
              go_roundw
              case rel => exact ⟨j + 1, by omega, by go_num, (hU2.drewN 1).set _ _, hF2.drew.step hjl rfl, by simpa [World.setCell] using hs2⟩
              case measure => simp [intOf]; omega
        · obtain rfl : j = L := by omega
          go_wp2
          go_roundw
          case rel => exact ⟨k + 1, by omega, by go_num, hU2.shut hF2, by omega⟩
          case measure => simp [intOf]; omega
    · obtain rfl : k = C := by omega
      go_wp2
      go_ret
      exact ⟨rfl, hU, hsw⟩

end Poly
end Go.Proofs.YtkmkackifihhjaaDoor
