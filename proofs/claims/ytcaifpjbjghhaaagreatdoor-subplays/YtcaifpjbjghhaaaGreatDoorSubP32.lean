import Derived.BigRegion
import Derived.Deep.RegionWith
import Derived.Test.YtcaifpjbjghhaaaGreatDoorSubP31
import Derived.Lib.SliceRun
import Derived.OwnWalk
import Derived.BigQuiet
import Derived.Test.YtcaifpjbjghhaaaGreatDoorSubP12
/-
  Contracts of the waves that a splitter and a joiner work by, and of the rows of them. Conditions: as told at each.
-/
namespace Go.Proofs.YtcaifpjbjghhaaaGreatDoor
set_option linter.unusedVariables false
open Go.RowKit
namespace M
def tn (m : Nat) : List Int := (List.range (8 * m)).map fun i : Nat => cosine i (8 * m : Nat)
theorem tn_length (m : Nat) : (tn m).length = 8 * m := by simp [tn]
theorem tn_get {m i : Nat} (h : i < 8 * m) : (tn m).getD i 0 = cosine i (8 * m : Nat) := by simp [tn, List.getD, h]
theorem tn_wave {m i : Nat} {a b : Int} (h : i < 8 * m) (e : (i : Int) = a * b % (8 * m : Nat)) : (tn m).getD i 0 = wv m a b := by
  rw [tn_get h, e, cosine_emod]; unfold wv; congr 1
end M
namespace Poly
open Bank (Blk But)

set_option maxRecDepth 100000 in
theorem waveOf_any (m M8 lo hi : Nat) (a b : Int) (vt : Value) (w : World) (hm : (m = 4 ∧ M8 = 32) ∨ (m = 8 ∧ M8 = 64)) (ht : Reads .i16 lo hi w vt (M.tn m)) (a0 : -100 ≤ a) (a1 : a ≤ 100) (b0 : -100 ≤ b) (b1 : b ≤ 100) :
    Calls Tryz.prog 144 #[vt, .int .i64 a, .int .i64 b] w fun e w' => e = .returned (.int .i16 (M.wv m a b)) ∧ w' = w := by
  have hab := M.mul_bd a b 100 100 (by omega) (by omega) (by omega) (by omega)
  obtain ⟨at_, c, rfl⟩ := ht.form
  obtain ⟨bt, of, rfl, _, _, hx⟩ := ht.cell (by rw [M.tn_length]; omega)
  have hM : 8 * m = M8 := by omega
  have hM' : ((8 * m : Nat) : Int) = M8 := by omega
  rw [M.tn_length, hM] at hx ⊢
  have HX : Hid (∀ i, i < M8 → w.cell? ⟨bt, of + i, none⟩ = some (.int .i16 ((M.tn m).getD i 0))) := hx
  have hwv : ∀ i : Nat, i < M8 → (i : Int) = a * b % (M8 : Int) → (M.tn m).getD i 0 = M.wv m a b := fun i h1 h2 => M.tn_wave (by omega) (by rw [hM']; exact h2)
  have HW : Hid (∀ i : Nat, i < M8 → (i : Int) = a * b % (M8 : Int) → (M.tn m).getD i 0 = M.wv m a b) := hwv
  generalize M.wv m a b = y at *
  clear hx hwv ht
  have key : ∃ t : Int, (a * b).tmod (M8 : Int) = t ∧ ((0 ≤ t ∧ t < M8 ∧ t = a * b % (M8 : Int)) ∨ (t < 0 ∧ 0 ≤ t + M8 ∧ t + M8 < M8 ∧ t + M8 = a * b % (M8 : Int))) := by
    refine ⟨_, rfl, ?_⟩
    have hpos : (0 : Int) < M8 := by omega
    have h1 := Int.emod_nonneg (a * b) (by omega : (M8 : Int) ≠ 0)
    have h2 := Int.emod_lt_of_pos (a * b) hpos
    rw [Int.tmod_eq_emod]
    split
    · left; omega
    · rename_i hn
      have hne : a * b % (M8 : Int) ≠ 0 := fun e => hn (.inr (Int.dvd_of_emod_eq_zero e))
      right
      rw [show ((M8 : Int).natAbs : Int) = M8 from by omega]
      omega
  obtain ⟨t, ht, hc⟩ := key
  have m0 : (1 : Int) ≤ M8 := by omega
  have m1 : (M8 : Int) ≤ 64 := by omega
  have m2 : (M8 : Int) ≠ 0 := by omega
  rcases hc with ⟨t0, t1, t2⟩ | ⟨t0, t1, t2, t3⟩
  · obtain ⟨ix, rfl⟩ : ∃ ix : Nat, t = ix := ⟨t.toNat, by omega⟩
    have q := HX.out ix (by omega)
    rw [HW.out ix (by omega) t2] at q
    have hb : (0 : Int) ≤ ix ∧ (ix : Int) < M8 := by omega
    clear hm hM hM' t2
    go_enter Tryz.func144, Tryz.ntmps144
    go_wp2
    go_ret
    exact ⟨rfl, rfl⟩
  · obtain ⟨ix, hix⟩ : ∃ ix : Nat, t + M8 = ix := ⟨(t + M8).toNat, by omega⟩
    have q := HX.out ix (by omega)
    rw [HW.out ix (by omega) (by omega)] at q
    have hb : (0 : Int) ≤ ix ∧ (ix : Int) < M8 := by omega
    have t4 : -64 ≤ t := by omega
    clear hm hM hM' t2 t3 t1
    go_enter Tryz.func144, Tryz.ntmps144
    go_wp2
    go_ret
    exact ⟨rfl, rfl⟩

theorem splitWave (m M8 lo hi i j pt pm : Nat) (vt : Value) (w : World) (hm : (m = 4 ∧ M8 = 32) ∨ (m = 8 ∧ M8 = 64)) (ht : Reads .i16 lo hi w vt (M.tn m)) (ct : w.cell? ⟨pt, 0, none⟩ = some vt) (cm : w.cell? ⟨pm, 0, none⟩ = some (.int .i64 m)) (hi : i < 16) (hj : j < 16) :
    Calls Tryz.prog 143 #[.int .i64 i, .int .i64 j, .pointer (some ⟨pt, 0, none⟩), .pointer (some ⟨pm, 0, none⟩)] w fun e w' => e = .returned (.int .i16 (M.wv m (2 * (i : Int) + 1) (2 * (j : Int) - m))) ∧ w' = w := by
  have hw := waveOf_any m M8 lo _ (2 * (i : Int) + 1) (2 * (j : Int) - m) vt w hm ht (by omega) (by omega) (by omega) (by omega)
  have hm1 : (m : Int) ≤ 8 := by omega
  clear ht hm
  go_enter Tryz.func143, Tryz.ntmps143
  go_wp2_with (go_at_call 144; refine hw.mono ?_; rintro e w' ⟨rfl, rfl⟩)
  go_ret
  exact ⟨rfl, rfl⟩

theorem joinWave (m M8 lo hi i j pt pm : Nat) (vt : Value) (w : World) (hm : (m = 4 ∧ M8 = 32) ∨ (m = 8 ∧ M8 = 64)) (ht : Reads .i16 lo hi w vt (M.tn m)) (ct : w.cell? ⟨pt, 0, none⟩ = some vt) (cm : w.cell? ⟨pm, 0, none⟩ = some (.int .i64 m)) (hi : i < 16) (hj : j < 16) :
    Calls Tryz.prog 152 #[.int .i64 i, .int .i64 j, .pointer (some ⟨pt, 0, none⟩), .pointer (some ⟨pm, 0, none⟩)] w fun e w' => e = .returned (.int .i16 (M.wv m (2 * (j : Int) + 1) (2 * (i : Int) + m))) ∧ w' = w := by
  have hw := waveOf_any m M8 lo _ (2 * (j : Int) + 1) (2 * (i : Int) + m) vt w hm ht (by omega) (by omega) (by omega) (by omega)
  have hm1 : (m : Int) ≤ 8 := by omega
  clear ht hm
  go_enter Tryz.func152, Tryz.ntmps152
  go_wp2_with (go_at_call 144; refine hw.mono ?_; rintro e w' ⟨rfl, rfl⟩)
  go_ret
  exact ⟨rfl, rfl⟩

def Upto (H C L k kh : Nat) (f : Nat → Nat → Int) (w wr : World) : Prop :=
  Below H w wr ∧ (∃ hd : Array Value, Blk wr H hd 55 ∧ hd.size = C ∧ ∀ r, r < kh → hd[r]? = some (.slice (some ⟨H + 1 + r, 0, none⟩) L L)) ∧ ∀ r, r < k → Blk wr (H + 1 + r) (enc .i16 ((List.range L).map (f r))).toArray 182
theorem Upto.drewN {H C L k kh : Nat} {f : Nat → Nat → Int} {w wr : World} (h : Upto H C L k kh f w wr) (m : Nat) : Upto H C L k kh f w (wr.drewN m) := ⟨below_drewN h.1 m, h.2⟩
theorem Upto.head {H C L k kh : Nat} {f : Nat → Nat → Int} {w wr : World} (h : Upto H C L k kh f w wr) (hk : k < C) : (∃ u, wr.cell? ⟨H, k, none⟩ = some u) ∧ wr.frozen? ⟨H, k, none⟩ = false := by
  obtain ⟨_, ⟨hd, h1, h2, _⟩, _⟩ := h
  exact ⟨⟨hd[k]'(by omega), h1.cell (by simp [h2, hk])⟩, h1.free k⟩
theorem Upto.row {H C L k kh : Nat} {f : Nat → Nat → Int} {w wr : World} (h : Upto H C L k kh f w wr) {r : Nat} (hr : r < kh) : wr.cell? ⟨H, r, none⟩ = some (.slice (some ⟨H + 1 + r, 0, none⟩) L L) := by
  obtain ⟨_, ⟨hd, h1, h2, h3⟩, _⟩ := h
  exact h1.cell (h3 r hr)
theorem Upto.open {H C L k : Nat} {f : Nat → Nat → Int} {w wr : World} (h : Upto H C L k k f w wr) (hs : wr.heap.size = H + 1 + k) (hk : k < C) (hH : w.heap.size = H) (c : Array Value) :
    Upto H C L k (k + 1) f w ((wr.alloc (.cells c 182)).setCell ⟨H, k, none⟩ (.slice (some ⟨H + 1 + k, 0, none⟩) L L)) := by
  obtain ⟨h0, ⟨hd, h1, h2, h3⟩, h4⟩ := h
  refine ⟨(h0.alloc (by omega) _).setCell (Nat.le_refl _) _, ⟨_, (h1.alloc _).set _ _, by simpa using h2, fun r hr => ?_⟩, fun r hr => ?_⟩
  · rw [Array.getElem?_setIfInBounds]
    split
    · rename_i e; subst e; rw [if_pos (by omega)]
    · exact h3 r (by omega)
  · exact ((h4 r hr).alloc _).set_ne (by show H + 1 + r ≠ H; omega) _
theorem Upto.set {H C L k kh : Nat} {f : Nat → Nat → Int} {w wr : World} (h : Upto H C L k kh f w wr) (o : Nat) (v : Value) : Upto H C L k kh f w (wr.setCell ⟨H + 1 + k, o, none⟩ v) := by
  obtain ⟨h0, ⟨hd, h1, h2, h3⟩, h4⟩ := h
  exact ⟨h0.setCell (by show H ≤ H + 1 + k; omega) _, ⟨hd, h1.set_ne (by show H ≠ H + 1 + k; omega) _, h2, h3⟩, fun r hr => (h4 r hr).set_ne (by show H + 1 + r ≠ H + 1 + k; omega) _⟩
theorem Upto.shut {H C L k : Nat} {f : Nat → Nat → Int} {w wr : World} (h : Upto H C L k (k + 1) f w wr) (hF : Fill .i16 182 (H + 1 + k) L L (f k) wr) : Upto H C L (k + 1) (k + 1) f w wr := by
  refine ⟨h.1, h.2.1, fun r hr => ?_⟩
  rcases (by omega : r < k ∨ r = k) with h' | rfl
  · exact h.2.2 r h'
  · exact hF.whole
theorem Upto.rows {H C L : Nat} {f : Nat → Nat → Int} {w wr : World} (h : Upto H C L C C f w wr) (hf : ∀ i j, i < C → j < L → -32768 ≤ f i j ∧ f i j ≤ 32767) :
    Rows .i16 H (H + 1 + C) wr (.slice (some ⟨H, 0, none⟩) C C) ((List.range C).map fun i => (List.range L).map (f i)) := by
  obtain ⟨h0, ⟨hd, h1, h2, h3⟩, h4⟩ := h
  refine ⟨some ⟨H, 0, none⟩, C, by simp, by simp, .inr ⟨H, 0, rfl, Nat.le_refl _, by omega, fun i hi => ?_⟩⟩
  have hi : i < C := by simpa using hi
  refine ⟨_, by rw [Nat.zero_add]; exact h1.cell (h3 i hi), ?_⟩
  have e : ((List.range C).map fun i => (List.range L).map (f i)).getD i [] = (List.range L).map (f i) := by simp [List.getD, hi]
  rw [e]
  have hr := reads_blk (h4 i hi) (fun z hz => by
    obtain ⟨j, hj, rfl⟩ := List.mem_map.1 hz
    exact wf16.2 (hf i j hi (List.mem_range.1 hj)))
  simp only [List.length_map, List.length_range] at hr
  exact hr.mono (by omega) (by omega)

set_option maxRecDepth 100000 in
set_option maxHeartbeats 3200000 in
theorem rows_any (C L pt pm : Nat) (K : FuncId) (f : Nat → Nat → Int) (w : World) (hK : K = 143 ∨ K = 152) (hC : C ≤ 16) (hL : L ≤ 16)
    (hnum : ∀ (wx : World) (i j : Nat), Below w.heap.size w wx → i < C → j < L → Calls Tryz.prog K #[.int .i64 (i : Int), .int .i64 (j : Int), .pointer (some ⟨pt, 0, none⟩), .pointer (some ⟨pm, 0, none⟩)] wx fun e w' => e = .returned (.int .i16 (f i j)) ∧ w' = wx) :
    Calls Tryz.prog 142 #[.int .i64 (C : Int), .int .i64 (L : Int), .func (.func K) #[] #[.pointer (some ⟨pt, 0, none⟩), .pointer (some ⟨pm, 0, none⟩)]] w fun e w' =>
      e = .returned (.slice (some ⟨w.heap.size, 0, none⟩) C C) ∧ Upto w.heap.size C L C C f w w' ∧ w'.heap.size = w.heap.size + 1 + C := by
  have hmk := makeS16 w C (by omega)
  have hst : Upto w.heap.size C L 0 0 f w (w.alloc (.cells (List.replicate C (.slice none 0 0)).toArray 55)) :=
    ⟨(Below.refl _ _).alloc (Nat.le_refl _) _, ⟨_, Blk.new w _ _, by simp, fun r hr => absurd hr (by omega)⟩, fun r hr => absurd hr (by omega)⟩
  have hsz : (w.alloc (.cells (List.replicate C (.slice none 0 0)).toArray 55)).heap.size = w.heap.size + 1 + 0 := by simp
  generalize (List.replicate C (Value.slice none 0 0)).toArray = cs at hmk hst hsz
  have HN : Hid _ := hnum
  have C1 : (C : Int) ≤ 16 := by omega
  have L1 : (L : Int) ≤ 16 := by omega
  clear hnum
  go_enter Tryz.func142, Tryz.ntmps142
  go_wp2
  go_loopw [14] (fun i wr => ∃ k : Nat, k ≤ C ∧ i = .int .i64 k ∧ Upto w.heap.size C L k k f w wr ∧ wr.heap.size = w.heap.size + 1 + k) (fun i _ => C - (intOf i).toNat)
  case atStart => exact ⟨0, by omega, rfl, hst, hsz⟩
  case round =>
    clear hst hsz hmk
    obtain ⟨k, hk, rfl, hU, hsw⟩ := hrel
    by_cases hlt : k < C
    · have hlt' : (k : Int) < C := by omega
      obtain ⟨⟨u, hu⟩, hfz⟩ := hU.head hlt
      have hmk := make16 wr L (by omega)
      have hbl : Blk (wr.alloc (.cells (enc .i16 (List.replicate L 0)).toArray 182)) (w.heap.size + 1 + k) (enc .i16 (List.replicate L 0)).toArray 182 := by rw [← hsw]; exact Blk.new wr _ _
      have hO := hU.open hsw hlt rfl (enc .i16 (List.replicate L 0)).toArray
      have hF : Fill .i16 182 (w.heap.size + 1 + k) L 0 (f k) ((wr.alloc (.cells (enc .i16 (List.replicate L 0)).toArray 182)).setCell ⟨w.heap.size, k, none⟩ (.slice (some ⟨w.heap.size + 1 + k, 0, none⟩) L L)) :=
        Fill.start (hbl.set_ne (by show w.heap.size + 1 + k ≠ w.heap.size; omega) _)
      generalize (enc .i16 (List.replicate L 0)).toArray = cs2 at hmk hO hF
      have hu2 : (wr.alloc (.cells cs2 182)).cell? ⟨w.heap.size, k, none⟩ = some u := Lib.cell?_alloc_some _ hu
      have hfz2 : (wr.alloc (.cells cs2 182)).frozen? ⟨w.heap.size, k, none⟩ = false := by
        obtain ⟨_, ⟨hd, h1, _⟩, _⟩ := hU
        exact (h1.alloc _).free k
      have hrow := hO.row (r := k) (by omega)
      have hsw2 : ((wr.alloc (.cells cs2 182)).setCell ⟨w.heap.size, k, none⟩ (.slice (some ⟨w.heap.size + 1 + k, 0, none⟩) L L)).heap.size = w.heap.size + 1 + k + 1 := by simp [World.setCell, hsw]
      have HO : Hid (Upto _ _ _ _ _ _ _ _) := hO
      have HF : Hid (Fill _ _ _ _ _ _ _) := hF
      have HS : Hid (_ = _) := hsw2
      clear hO hF hsw2 hbl hU
      go_wp2
      go_loopw [27] (fun i w2 => ∃ j : Nat, j ≤ L ∧ i = .int .i64 j ∧ Upto w.heap.size C L k (k + 1) f w w2 ∧ Fill .i16 182 (w.heap.size + 1 + k) L j (f k) w2 ∧ w2.heap.size = w.heap.size + 1 + k + 1) (fun i _ => L - (intOf i).toNat)
      case atStart =>
        refine ⟨0, by omega, rfl, ?_, ?_, ?_⟩
        · exact HO.out
        · exact HF.out
        · exact HS.out
      case round =>
        clear HO HF HS hu2 hfz2 hrow hmk hu hfz
        obtain ⟨j, hj, rfl, hU2, hF2, hs2⟩ := hrel
        by_cases hjl : j < L
        · have hjl' : (j : Int) < L := by omega
          have q1 := hU2.row (r := k) (by omega)
          obtain ⟨⟨u2, q2⟩, q3⟩ := hF2.cell hjl
          have hcall := HN.out wr.drew k j (below_drew hU2.1) hlt hjl
          rcases hK with rfl | rfl
          · go_wp2
            go_region_with (go_at_call 143; refine hcall.mono ?_; rintro e w' ⟨rfl, rfl⟩)
            all_goals
              go_wp2
              go_roundw
              case rel => exact ⟨j + 1, by omega, by go_num, (hU2.drewN 1).set _ _, hF2.drew.step hjl rfl, by simpa [World.setCell] using hs2⟩
              case measure => simp [intOf]; omega
          · go_wp2
            go_region_with (go_at_call 152; refine hcall.mono ?_; rintro e w' ⟨rfl, rfl⟩)
            all_goals
              go_wp2
              go_roundw
              case rel => exact ⟨j + 1, by omega, by go_num, (hU2.drewN 1).set _ _, hF2.drew.step hjl rfl, by simpa [World.setCell] using hs2⟩
              case measure => simp [intOf]; omega
        · obtain rfl : j = L := by omega
          go_wp2
          go_roundw
          case rel => exact ⟨k + 1, by omega, by go_num, hU2.shut hF2, by omega⟩
          case measure => simp [intOf]; omega
    · obtain rfl : k = C := by omega
      go_wp2
      go_ret
      exact ⟨rfl, hU, hsw⟩

end Poly
end Go.Proofs.YtcaifpjbjghhaaaGreatDoor

/-
  How the bank makes a table. Conditions: the polynomial's numbers stand as their initialiser lays them; one goroutine.
-/
namespace Go.Proofs.YtcaifpjbjghhaaaGreatDoor
open Go.RowKit
namespace Bank

theorem set_get {cur : Array Value} {o : Nat} (v : Value) (h : o < cur.size) : (cur.setIfInBounds o v)[o]? = some v := by simp [h]
theorem set_get_ne {cur : Array Value} {o p : Nat} (v : Value) (h : p ≠ o) : (cur.setIfInBounds o v)[p]? = cur[p]? := by
  rw [Array.getElem?_setIfInBounds, if_neg (by omega)]

theorem add_any (b o : Nat) (x s : Int) (w : World) (hc : w.cell? ⟨b, o, none⟩ = some (.int .i64 x)) (hz : w.frozen? ⟨b, o, none⟩ = false) (hs : x + 1 = s) (h0 : 0 ≤ x) (h1 : x ≤ 1000000) :
    Calls Tryz.prog 249 #[.pointer (some ⟨b, o, none⟩), .int .i64 1] w fun e w' => e = .returned (.int .i64 s) ∧ w' = w.setCell ⟨b, o, none⟩ (.int .i64 s) := by
  have hadd := run_call_add (P := Tryz.prog) Tryz.func258 (by kernel_rfl) (by kernel_rfl) (by kernel_rfl) .i64 (by kernel_rfl) (y := 1) (s := s) hc hz (by
    subst hs
    simp [go_sem]
    rw [IntKind.wrap_i64]; omega)
  go_enter Tryz.func249, Tryz.ntmps249
  go_wp2
  go_ret
  exact ⟨rfl, rfl⟩

def Part (b : Nat) (cur : Array Value) (κ n k : Nat) (w wr : World) : Prop :=
  But b w wr ∧ wr.heap.size = w.heap.size + 1 ∧ Blk wr b cur 167 ∧ ∃ tab : Array Value, Blk wr w.heap.size tab 182 ∧ tab.size = M.ts κ n ∧ ∀ j, j < k → tab[j]? = some (.int .i16 (M.tv κ (n : Int) (j : Int)))
theorem Part.drewN {b : Nat} {cur : Array Value} {κ n k : Nat} {w wr : World} (h : Part b cur κ n k w wr) (m : Nat) : Part b cur κ n k w (wr.drewN m) := ⟨h.1.drewN m, h.2⟩
theorem Part.drew {b : Nat} {cur : Array Value} {κ n k : Nat} {w wr : World} (h : Part b cur κ n k w wr) : Part b cur κ n k w wr.drew := ⟨h.1.drew, h.2⟩
theorem Part.step {b : Nat} {cur : Array Value} {κ n k : Nat} {w wr : World} (h : Part b cur κ n k w wr) (hb : b < w.heap.size) (hk : k < M.ts κ n) :
    Part b cur κ n (k + 1) w (wr.setCell ⟨w.heap.size, k, none⟩ (.int .i16 (M.tv κ (n : Int) (k : Int)))) := by
  obtain ⟨h1, h2, h3, tab, h4, h5, h6⟩ := h
  refine ⟨h1.set (.inr (Nat.le_refl _)) _, by simpa [World.setCell] using h2, h3.set_ne (by show b ≠ w.heap.size; omega) _, _, h4.set _ _, by simpa using h5, ?_⟩
  intro j hj
  rw [Array.getElem?_setIfInBounds]
  split
  · rename_i e; subst e; rw [if_pos (by omega)]
  · exact h6 j (by omega)
theorem Part.whole {b : Nat} {cur : Array Value} {κ n : Nat} {w wr : World} (h : Part b cur κ n (M.ts κ n) w wr) : Blk wr w.heap.size (M.tabl κ n).toArray 182 := by
  obtain ⟨_, _, _, tab, h4, h5, h6⟩ := h
  have e : tab = (M.tabl κ n).toArray := by
    apply Array.ext'
    apply List.ext_getElem?
    intro j
    by_cases hj : j < M.ts κ n
    · rw [M.tabl_get hj, ← h6 j hj]; simp
    · rw [List.getElem?_eq_none (by simp; omega), List.getElem?_eq_none (by rw [M.tabl_length]; omega)]
  rw [← e]
  exact h4

def made (cur : Array Value) (off g sz : Nat) (mm : Int) : Array Value := (cur.setIfInBounds (off + 3) (.slice (some ⟨g, 0, none⟩) sz sz)).setIfInBounds 1544 (.int .i64 mm)

set_option maxRecDepth 100000 in
set_option maxHeartbeats 3200000 in
theorem make_any (κ n b off ps pt pf pb pn : Nat) (cur : Array Value) (mm : Int) (w : World) (hok : M.okT κ n) (hT : Wave.Tab w)
    (hb : Blk w b cur 167) (hoff : off + 3 < 1544) (hcur : cur.size = 1546) (hmm : cur[1544]? = some (.int .i64 mm)) (m0 : 0 ≤ mm) (m1 : mm ≤ 1000000)
    (hs : Blk w ps #[.int .i64 (M.ts κ n : Nat)] 3) (ht : Blk w pt #[.pointer (some ⟨b, off, none⟩)] 302)
    (hf : Blk w pf #[.func (.func (fn κ)) #[] #[.pointer (some ⟨pn, 0, none⟩)]] 294) (hp : Blk w pb #[.pointer (some ⟨b, 0, none⟩)] 59) (hn : Blk w pn #[.int .i64 n] 3) :
    Calls Tryz.prog 248 #[.pointer (some ⟨ps, 0, none⟩), .pointer (some ⟨pt, 0, none⟩), .pointer (some ⟨pf, 0, none⟩), .pointer (some ⟨pb, 0, none⟩)] w fun e w' =>
      e = .returned (.tuple #[]) ∧ (But b w w' ∧ w'.heap.size = w.heap.size + 1 ∧ Blk w' b (made cur off w.heap.size (M.ts κ n) (mm + 1)) 167 ∧ Blk w' w.heap.size (M.tabl κ n).toArray 182) := by
  obtain ⟨z0, z1⟩ := M.ts_bd hok
  generalize hsz : M.ts κ n = sz at *
  obtain ⟨cs, hcs, hmk⟩ := Wave.run_made w.drew sz (by omega)
  have hlb := hb.lt
  have ns : ps ≠ b := hs.ne hb (by decide)
  have nt : pt ≠ b := ht.ne hb (by decide)
  have nf : pf ≠ b := hf.ne hb (by decide)
  have np : pb ≠ b := hp.ne hb (by decide)
  have nn : pn ≠ b := hn.ne hb (by decide)
  have nT := tab_ne hT hb (by omega)
  -- the first region: the list is made and stored
  have cs0 : w.cell? ⟨ps, 0, none⟩ = some (.int .i64 (sz : Int)) := hs.cell (o := 0) rfl
  have ct0 : w.cell? ⟨pt, 0, none⟩ = some (.pointer (some ⟨b, off, none⟩)) := ht.cell (o := 0) rfl
  have cs1 : (w.alloc (.cells cs 182)).cell? ⟨ps, 0, none⟩ = some (.int .i64 (sz : Int)) := (hs.alloc _).cell (o := 0) rfl
  have ct1 : (w.alloc (.cells cs 182)).cell? ⟨pt, 0, none⟩ = some (.pointer (some ⟨b, off, none⟩)) := (ht.alloc _).cell (o := 0) rfl
  obtain ⟨v3, hv3⟩ : ∃ v, cur[off + 3]? = some v := ⟨cur[off + 3]'(by omega), by simp⟩
  have cb1 : (w.alloc (.cells cs 182)).cell? ⟨b, off + 3, none⟩ = some v3 := (hb.alloc _).cell hv3
  have fb1 : (w.alloc (.cells cs 182)).frozen? ⟨b, off + 3, none⟩ = false := (hb.alloc _).free _
  obtain ⟨W, hW⟩ : ∃ W, W = w.setCell ⟨b, off + 3, none⟩ (.slice (some ⟨w.heap.size, 0, none⟩) sz sz) := ⟨_, rfl⟩
  have hWs : W.heap.size = w.heap.size := by rw [hW]; simp [World.setCell]
  have hst : Part b (cur.setIfInBounds (off + 3) (.slice (some ⟨w.heap.size, 0, none⟩) sz sz)) κ n 0 w (W.alloc (.cells cs 182)) := by
    refine ⟨?_, by simp [hWs], ?_, cs, ?_, by rw [hcs, hsz], fun j hj => absurd hj (by omega)⟩
    · rw [hW]; exact ((But.refl b w).set (.inl rfl) _).alloc _
    · rw [hW]; exact (hb.set _ _).alloc _
    · rw [← hWs]; exact Blk.new W cs _
  have ct2 : (W.alloc (.cells cs 182)).cell? ⟨pt, 0, none⟩ = some (.pointer (some ⟨b, off, none⟩)) := (hst.1.blk ht nt).cell (o := 0) rfl
  have cb2 : (W.alloc (.cells cs 182)).cell? ⟨b, off + 3, none⟩ = some (.slice (some ⟨w.heap.size, 0, none⟩) sz sz) := hst.2.2.1.cell (set_get _ (by omega))
  rw [hW] at ct2 cb2 hst
  clear hWs hW W
  have hnum : ∀ (wx : World) (i : Nat), Wave.Tab wx → wx.cell? ⟨pn, 0, none⟩ = some (.int .i64 n) → i < sz →
      Calls Tryz.prog (fn κ) #[.int .i64 (i : Int), .pointer (some ⟨pn, 0, none⟩)] wx fun e w' => e = .returned (.int .i16 (M.tv κ n i)) ∧ ∃ m, w' = wx.drewN m :=
    fun wx i h1 h2 h3 => number_any κ n i pn wx hok h1 h2 (by omega)
  have hK : fn κ = 217 ∨ (fn κ = 0 ∧ False) ∨ (fn κ = 214 ∧ True) := by
    rcases hok with ⟨rfl, _⟩ | ⟨rfl, hS⟩ | ⟨rfl, hS⟩
    · exact .inl rfl
    · exact .inr (.inl ⟨rfl, by first | trivial | (exfalso; omega)⟩)
    · exact .inr (.inr ⟨rfl, by first | trivial | (exfalso; omega)⟩)
  generalize fn κ = K at hnum hK hf
  clear hs hcs
  have hlp : w.heap.size ≠ b := by omega
  go_enter Tryz.func248, Tryz.ntmps248
  go_wp2
  go_region
  go_wp2
  go_loopw [15] (fun i wr => ∃ k : Nat, k ≤ sz ∧ i = .int .i64 k ∧ Part b (cur.setIfInBounds (off + 3) (.slice (some ⟨w.heap.size, 0, none⟩) sz sz)) κ n k w wr) (fun i _ => sz - (intOf i).toNat)
  case atStart => exact ⟨0, by omega, rfl, hst.drew⟩
  case round =>
    clear hmk cs0 ct0 cs1 ct1 cb1 fb1 ct2 cb2 hst
    obtain ⟨k, hk, rfl, hpart⟩ := hrel
    have qt := (hpart.1.blk ht nt).cell (o := 0) rfl
    have qf := (hpart.1.blk hf nf).cell (o := 0) rfl
    have qp := (hpart.1.blk hp np).cell (o := 0) rfl
    have qn := (hpart.1.blk hn nn).cell (o := 0) rfl
    have qT := hpart.1.tab hT nT
    simp only [List.getElem_toArray, List.getElem_cons_zero] at qt qf qp qn
    obtain ⟨_, hsize, hblk, tab, htab, htsz, htv⟩ := id hpart
    have qb : wr.cell? ⟨b, off + 3, none⟩ = some (.slice (some ⟨w.heap.size, 0, none⟩) sz sz) := hblk.cell (set_get _ (by omega))
    have qm : wr.cell? ⟨b, 1544, none⟩ = some (.int .i64 mm) := hblk.cell ((set_get_ne _ (by omega)).trans hmm)
    have qmf := hblk.free 1544
    by_cases hlt : k < sz
    · obtain ⟨u, hu⟩ : ∃ u, wr.cell? ⟨w.heap.size, k, none⟩ = some u := ⟨tab[k]'(by omega), htab.cell (by simp)⟩
      have huf := htab.free k
      have hlt' : (k : Int) < sz := by omega
      have hcall := hnum wr.drew k qT qn hlt
      clear hblk htab htsz htv hnum
      rcases hK with rfl | ⟨rfl, hS⟩ | ⟨rfl, hS⟩
      · go_wp2
        go_region_with (go_at_call 217; refine hcall.mono ?_; rintro e w' ⟨rfl, m, rfl⟩)
        all_goals
          go_wp2
          go_roundw
          case rel => exact ⟨k + 1, by omega, by go_num, (hpart.drewN _).step hlb (by omega)⟩
          case measure => simp [intOf]; omega
      · first
        | exact False.elim hS
        | (go_wp2
           go_region_with (go_at_call 0; refine hcall.mono ?_; rintro e w' ⟨rfl, m, rfl⟩)
           all_goals
             go_wp2
             go_roundw
             case rel => exact ⟨k + 1, by omega, by go_num, (hpart.drewN _).step hlb (by omega)⟩
             case measure => simp [intOf]; omega)
      · first
        | exact False.elim hS
        | (go_wp2
           go_region_with (go_at_call 214; refine hcall.mono ?_; rintro e w' ⟨rfl, m, rfl⟩)
           all_goals
             go_wp2
             go_roundw
             case rel => exact ⟨k + 1, by omega, by go_num, (hpart.drewN _).step hlb (by omega)⟩
             case measure => simp [intOf]; omega)
    · obtain rfl : k = sz := by omega
      have hwh := (hsz ▸ hpart : Part b (cur.setIfInBounds (off + 3) (.slice (some ⟨w.heap.size, 0, none⟩) (M.ts κ n) (M.ts κ n))) κ n (M.ts κ n) w wr).whole
      go_wp2_with (go_at_call 249; refine (add_any b 1544 mm (mm + 1) _ qm qmf rfl m0 m1).mono ?_; rintro e w' ⟨rfl, rfl⟩)
      go_end0
      refine ⟨rfl, hpart.1.set (.inl rfl) _, by simpa [World.setCell] using hsize, hblk.set _ _, hwh.set_ne (by show w.heap.size ≠ b; omega) _⟩

end Bank
end Go.Proofs.YtcaifpjbjghhaaaGreatDoor

/-
  How the bank makes a table, once, and tells it. Conditions: the polynomial's numbers stand as their initialiser lays them; one goroutine.
-/
namespace Go.Proofs.YtcaifpjbjghhaaaGreatDoor
open Go.RowKit
namespace Bank

def Bank (b : Nat) (D : List (Nat × Nat)) (t : Int) (N : Nat) (w : World) : Prop :=
  b < N ∧ N ≤ w.heap.size ∧ ∃ cur : Array Value, Blk w b cur 167 ∧ cur.size = 1546 ∧ cur[1544]? = some (.int .i64 D.length) ∧ cur[1545]? = some (.int .i64 t) ∧
    ∀ κ n, M.okT κ n →
      ((κ, n) ∉ D → cur[4 * M.tj κ n]? = some (.int .u32 0) ∧ cur[4 * M.tj κ n + 1]? = some (.int .i32 0)) ∧
      ((κ, n) ∈ D → cur[4 * M.tj κ n]? = some (.int .u32 1) ∧ ∃ g, cur[4 * M.tj κ n + 3]? = some (.slice (some ⟨g, 0, none⟩) (M.ts κ n) (M.ts κ n)) ∧ g ≠ b ∧ g < N ∧ Blk w g (M.tabl κ n).toArray 182)

theorem Bank.drewN {b : Nat} {D : List (Nat × Nat)} {t : Int} {N : Nat} {w : World} (h : Bank b D t N w) (m : Nat) : Bank b D t N (w.drewN m) := h
theorem Bank.keep {b : Nat} {D : List (Nat × Nat)} {t : Int} {N N' : Nat} {w w' : World} (h : Bank b D t N w) (hk : ∀ k, k < N → w'.heap[k]? = w.heap[k]?) (hN : N ≤ N') (hs : N' ≤ w'.heap.size) : Bank b D t N' w' := by
  obtain ⟨h1, h2, cur, h3, h4, h5, h6, h7⟩ := h
  refine ⟨by omega, hs, cur, (hk b h1).trans h3, h4, h5, h6, fun κ n hok => ⟨(h7 κ n hok).1, fun hd => ?_⟩⟩
  obtain ⟨k1, g, k2, k3, k4, k5⟩ := (h7 κ n hok).2 hd
  exact ⟨k1, g, k2, k3, by omega, (hk g k4).trans k5⟩
theorem Bank.below {b : Nat} {D : List (Nat × Nat)} {t : Int} {N B : Nat} {w w' : World} (h : Bank b D t N w) (hb : Below B w w') (hB : N ≤ B) : Bank b D t N w' :=
  h.keep (fun k hk => hb.block k (by omega)) (Nat.le_refl _) (by have := h.2.1; have := hb.size; omega)

theorem do_done (a : Addr) (fv : Value) (w : World) (h0 : w.cell? a = some (.int .u32 1)) :
    Calls Tryz.prog 247 #[.pointer (some a), fv] w fun e w' => e = .returned (.tuple #[]) ∧ w' = w := by
  have hl := run_call_load (P := Tryz.prog) Tryz.func262 (by kernel_rfl) (by kernel_rfl) (by kernel_rfl) .u32 (by kernel_rfl) h0
  have hnot : ∀ (x : Bool) (w : World), (Op.unary .not (.bool x)).run Tryz.prog w = .ok (.bool (!x)) w := fun _ _ => rfl
  go_enter Tryz.func247, Tryz.ntmps247
  go_wp2
  go_end0
  exact ⟨rfl, rfl⟩

set_option maxRecDepth 100000 in
set_option maxHeartbeats 1600000 in
theorem do_first (b off : Nat) (c0 c1 c2 c3 : Value) (R : World → Prop) (w : World)
    (h0 : w.cell? ⟨b, off, none⟩ = some (.int .u32 0)) (h1 : w.cell? ⟨b, off + 1, none⟩ = some (.int .i32 0))
    (f1 : w.frozen? ⟨b, off + 1, none⟩ = false)
    (hF : Calls Tryz.prog 248 #[c0, c1, c2, c3] (w.setCell ⟨b, off + 1, none⟩ (.int .i32 1)) fun e w' => e = .returned (.tuple #[]) ∧ R w')
    (hR : ∀ w2, R w2 → w2.cell? ⟨b, off, none⟩ = some (.int .u32 0) ∧ w2.cell? ⟨b, off + 1, none⟩ = some (.int .i32 1) ∧ w2.frozen? ⟨b, off, none⟩ = false ∧ w2.frozen? ⟨b, off + 1, none⟩ = false) :
    Calls Tryz.prog 247 #[.pointer (some ⟨b, off, none⟩), .func (.func 248) #[] #[c0, c1, c2, c3]] w fun e w' => e = .returned (.tuple #[]) ∧
      ∃ w2, R w2 ∧ w' = (w2.drew.setCell ⟨b, off, none⟩ (.int .u32 1)).setCell ⟨b, off + 1, none⟩ (.int .i32 0) := by
  have hl := run_call_load (P := Tryz.prog) Tryz.func262 (by kernel_rfl) (by kernel_rfl) (by kernel_rfl) .u32 (by kernel_rfl) h0
  have hnot : ∀ (x : Bool) (w : World), (Op.unary .not (.bool x)).run Tryz.prog w = .ok (.bool (!x)) w := fun _ _ => rfl
  have hslow := slow_any b off c0 c1 c2 c3 R w h0 h1 f1 hF hR
  clear hF hR
  go_enter Tryz.func247, Tryz.ntmps247
  go_wp2_with (first | (go_at_call 257; refine hslow.mono ?_; rintro e w' ⟨rfl, hw2⟩) | (go_at_call 256; go_in))
  go_end0
  exact ⟨rfl, hw2⟩

def fin (cur : Array Value) (off g sz : Nat) (mm : Int) : Array Value :=
  ((made (cur.setIfInBounds (off + 1) (.int .i32 1)) off g sz mm).setIfInBounds off (.int .u32 1)).setIfInBounds (off + 1) (.int .i32 0)
section
variable {cur : Array Value} {off g sz : Nat} {mm : Int}
theorem fin_size : (fin cur off g sz mm).size = cur.size := by simp [fin, made]
theorem fin_ne {p : Nat} (h0 : p ≠ off) (h1 : p ≠ off + 1) (h3 : p ≠ off + 3) (hm : p ≠ 1544) : (fin cur off g sz mm)[p]? = cur[p]? := by
  unfold fin made
  rw [set_get_ne _ h1, set_get_ne _ h0, set_get_ne _ hm, set_get_ne _ h3, set_get_ne _ h1]
theorem fin_0 (h : off + 3 < cur.size) : (fin cur off g sz mm)[off]? = some (.int .u32 1) := by
  unfold fin
  rw [set_get_ne _ (by omega), set_get _ (by simp [made]; omega)]
theorem fin_3 (h : off + 3 < 1544) (hs : cur.size = 1546) : (fin cur off g sz mm)[off + 3]? = some (.slice (some ⟨g, 0, none⟩) sz sz) := by
  unfold fin made
  rw [set_get_ne _ (by omega), set_get_ne _ (by omega), set_get_ne _ (by omega), set_get _ (by simp; omega)]
theorem fin_m (h : off + 3 < 1544) (hs : cur.size = 1546) : (fin cur off g sz mm)[1544]? = some (.int .i64 mm) := by
  unfold fin made
  rw [set_get_ne _ (by omega), set_get_ne _ (by omega), set_get _ (by simp; omega)]
end

def ins (D : List (Nat × Nat)) (κ n : Nat) : List (Nat × Nat) := if (κ, n) ∈ D then D else D ++ [(κ, n)]
theorem mem_ins (D : List (Nat × Nat)) (κ n : Nat) : (κ, n) ∈ ins D κ n := by
  unfold ins; split
  · assumption
  · simp

theorem once_any (κ n b ps pt pf pb pn : Nat) (D : List (Nat × Nat)) (t : Int) (N : Nat) (w : World) (hok : M.okT κ n) (hT : Wave.Tab w) (hB : Bank b D t N w) (hD : D.length ≤ 1000000)
    (hs : Blk w ps #[.int .i64 (M.ts κ n : Nat)] 3) (ht : Blk w pt #[.pointer (some ⟨b, 4 * M.tj κ n, none⟩)] 302)
    (hf : Blk w pf #[.func (.func (fn κ)) #[] #[.pointer (some ⟨pn, 0, none⟩)]] 294) (hp : Blk w pb #[.pointer (some ⟨b, 0, none⟩)] 59) (hn : Blk w pn #[.int .i64 n] 3) :
    Calls Tryz.prog 247 #[.pointer (some ⟨b, 4 * M.tj κ n, none⟩), .func (.func 248) #[] #[.pointer (some ⟨ps, 0, none⟩), .pointer (some ⟨pt, 0, none⟩), .pointer (some ⟨pf, 0, none⟩), .pointer (some ⟨pb, 0, none⟩)]] w
      fun e w' => e = .returned (.tuple #[]) ∧ But b w w' ∧ ∃ N', Bank b (ins D κ n) t N' w' := by
  by_cases hd : (κ, n) ∈ D
  · obtain ⟨h1, h2, cur, h3, h4, h5, h6, h7⟩ := id hB
    refine (do_done _ _ w (h3.cell ((h7 κ n hok).2 hd).1)).mono ?_
    rintro e w' ⟨rfl, rfl⟩
    exact ⟨rfl, But.refl _ _, N, by unfold ins; rw [if_pos hd]; exact hB⟩
  · obtain ⟨h1, h2, cur, h3, h4, h5, h6, h7⟩ := hB
    obtain ⟨k0, k1⟩ := (h7 κ n hok).1 hd
    have hj := M.tj_lt hok
    obtain ⟨off, ho⟩ : ∃ off, off = 4 * M.tj κ n := ⟨_, rfl⟩
    rw [← ho] at k0 k1 ht ⊢
    have hoff : off + 3 < 1544 := by omega
    have nT := tab_ne hT h3 (by omega)
    have hb1 := h3.set (off + 1) (.int .i32 1)
    have bt := (But.refl b w).set (a := ⟨b, off + 1, none⟩) (.inl rfl) (.int .i32 1)
    have hmk := make_any κ n b off ps pt pf pb pn (cur.setIfInBounds (off + 1) (.int .i32 1)) D.length (w.setCell ⟨b, off + 1, none⟩ (.int .i32 1)) hok (bt.tab hT nT) hb1 hoff (by simpa using h4)
      ((set_get_ne _ (by omega)).trans h5) (by omega) (by omega) (bt.blk hs (hs.ne h3 (by decide))) (bt.blk ht (ht.ne h3 (by decide))) (bt.blk hf (hf.ne h3 (by decide))) (bt.blk hp (hp.ne h3 (by decide))) (bt.blk hn (hn.ne h3 (by decide)))
    have hws : (w.setCell ⟨b, off + 1, none⟩ (.int .i32 1)).heap.size = w.heap.size := by simp [World.setCell]
    rw [hws] at hmk
    refine (do_first b off _ _ _ _ _ w (h3.cell k0) (h3.cell k1) (h3.free _) hmk ?_).mono ?_
    · rintro w2 ⟨_, _, hb2, _⟩
      refine ⟨hb2.cell ?_, hb2.cell ?_, hb2.free _, hb2.free _⟩
      · unfold made
        rw [set_get_ne _ (by omega), set_get_ne _ (by omega), set_get_ne _ (by omega)]; exact k0
      · unfold made
        rw [set_get_ne _ (by omega), set_get_ne _ (by omega), set_get _ (by omega)]
    · rintro e w' ⟨rfl, w2, ⟨bt2, hs2, hb2, hl2⟩, rfl⟩
      have hbF : Blk ((w2.drew.setCell ⟨b, off, none⟩ (.int .u32 1)).setCell ⟨b, off + 1, none⟩ (.int .i32 0)) b (fin cur off w.heap.size (M.ts κ n) (D.length + 1)) 167 := (hb2.drew.set _ _).set _ _
      have hlb := h3.lt
      have hlF : Blk ((w2.drew.setCell ⟨b, off, none⟩ (.int .u32 1)).setCell ⟨b, off + 1, none⟩ (.int .i32 0)) w.heap.size (M.tabl κ n).toArray 182 :=
        (hl2.drew.set_ne (by show w.heap.size ≠ b; omega) _).set_ne (by show w.heap.size ≠ b; omega) _
      have hbut : But b w ((w2.drew.setCell ⟨b, off, none⟩ (.int .u32 1)).setCell ⟨b, off + 1, none⟩ (.int .i32 0)) := (((bt.trans bt2).drew).set (.inl rfl) _).set (.inl rfl) _
      refine ⟨rfl, hbut, w.heap.size + 1, by omega, ?_, _, hbF, by rw [fin_size]; exact h4, ?_, ?_, ?_⟩
      · simp [World.setCell, hs2]
      · rw [fin_m hoff h4]; unfold ins; rw [if_neg hd]; simp
      · rw [fin_ne (by omega) (by omega) (by omega) (by omega)]; exact h6
      · intro κ' n' hok'
        by_cases he : (κ', n') = (κ, n)
        · cases he
          rw [← ho]
          refine ⟨fun h => absurd (mem_ins D κ n) h, fun _ => ⟨fin_0 (by omega), w.heap.size, fin_3 hoff h4, by omega, by omega, hlF⟩⟩
        · have hne : M.tj κ' n' ≠ M.tj κ n := fun e => he (by obtain ⟨rfl, rfl⟩ := M.tj_inj hok' hok e; rfl)
          have hj' := M.tj_lt hok'
          have hmem : (κ', n') ∈ ins D κ n ↔ (κ', n') ∈ D := by
            unfold ins; rw [if_neg hd, List.mem_append, List.mem_singleton]
            exact ⟨fun h => h.resolve_right he, .inl⟩
          rw [hmem, fin_ne (by omega) (by omega) (by omega) (by omega), fin_ne (by omega) (by omega) (by omega) (by omega), fin_ne (by omega) (by omega) (by omega) (by omega)]
          refine ⟨(h7 κ' n' hok').1, fun h => ?_⟩
          obtain ⟨q1, g, q2, q3, q4, q5⟩ := (h7 κ' n' hok').2 h
          exact ⟨q1, g, q2, q3, by omega, hbut.blk q5 q3⟩

theorem info16 : (Tryz.prog.info? 182).map (fun i => (i.zero, i.size, i.bytes)) = some (some (.int .i16 0), 1, 2) := by kernel_rfl

theorem tabl_one (κ n : Nat) : ∀ u ∈ M.tabl κ n, u.oneCell' = true := by
  intro u hu
  unfold M.tabl at hu
  obtain ⟨i, _, rfl⟩ := List.mem_map.1 hu
  rfl

theorem add_at (g j : Nat) : (⟨g, 0, none⟩ : Addr).add j = ⟨g, j, none⟩ := by
  unfold Addr.add; split <;> simp_all

set_option maxRecDepth 100000 in
theorem clone_any (g sz : Nat) (zs : List Value) (w : World) (hg : Blk w g zs.toArray 182) (hz : zs.length = sz) (s0 : 1 ≤ sz) (s1 : sz ≤ 65536) (h1 : ∀ u ∈ zs, u.oneCell' = true) :
    Calls Tryz.prog 250 #[.slice (some ⟨g, 0, none⟩) sz sz] w fun e w' => ∃ v, e = .returned v ∧ w'.ownsRow w.heap.size 182 1 v sz zs ∧ Below w.heap.size w w' := by
  obtain ⟨i0, hi, hz0, hz1, hz2⟩ := info_parts info16
  have hnil : ∀ (a : Option Addr) (k c : Nat) (w : World), (binOp .eql 55 (.slice a k c) (.slice none 0 0)).run Tryz.prog w = .ok (.bool a.isNone) w := fun a k c w => Lib.run_eql_slice_nil w _ _ a k c 0 0 Tryz.underlying55
  have hlg := hg.lt
  have hown := World.ownsRow_made (base := w.heap.size) (e := 182) (size := 1) w #[] 0 (Nat.le_refl _) (by decide) rfl
  have hcl : ∀ j u, zs[j]? = some u → (w.alloc (.cells #[] 182)).cell? ((⟨g, 0, none⟩ : Addr).add j) = some u := fun j u hu => by
    rw [add_at]
    exact (hg.alloc _).cell (by simpa using hu)
  go_enter Tryz.func250, Tryz.ntmps250
  go_wp2_with (at_builtin; refine wpList_append_own _ rfl (.tmp 5) (.tmp 6) 55 rfl w.heap.size 182 i0 (.int .i16 0) 1 2 Tryz.underlying55 hi hz0 hz1 hz2 rfl (by decide) _ _ _ rfl hown ⟨g, 0, none⟩ sz sz zs rfl (by omega) hcl h1 (by unfold maxLen; omega) (by omega) (by simp) ?_; intro v' w1 hown' hgrow _)
  go_ret
  exact ⟨v', rfl, by simpa using hown', (((Below.refl w.heap.size w).alloc (Nat.le_refl _) _).grown hgrow (by simp) (fun k hk => by cases hk; exact Nat.le_refl _))⟩

end Bank
end Go.Proofs.YtcaifpjbjghhaaaGreatDoor

/-
  What a bank answers: contracts of its methods. Conditions: the polynomial's numbers stand as their initialiser lays them; one goroutine.
-/
namespace Go.Proofs.YtcaifpjbjghhaaaGreatDoor
open Go.RowKit
namespace Bank

theorem Bank.told {b : Nat} {D : List (Nat × Nat)} {t : Int} {N : Nat} {w : World} (h : Bank b D t N w) (t' : Int) : Bank b D t' N (w.setCell ⟨b, 1545, none⟩ (.int .i64 t')) := by
  obtain ⟨h1, h2, cur, h3, h4, h5, h6, h7⟩ := h
  refine ⟨h1, by simpa [World.setCell] using h2, _, h3.set _ _, by simpa using h4, (set_get_ne _ (by omega)).trans h5, set_get _ (by omega), fun κ n hok => ?_⟩
  have hj := M.tj_lt hok
  rw [set_get_ne _ (by omega), set_get_ne _ (by omega), set_get_ne _ (by omega)]
  refine ⟨(h7 κ n hok).1, fun hd => ?_⟩
  obtain ⟨k1, g, k2, k3, k4, k5⟩ := (h7 κ n hok).2 hd
  exact ⟨k1, g, k2, k3, k4, k5.set_ne k3 _⟩

theorem mid {κ n b off s : Nat} {D : List (Nat × Nat)} {t : Int} {N5 : Nat} {W w5 : World} (hok : M.okT κ n) (ho : off = 4 * M.tj κ n) (bt : But b W w5) (hB5 : Bank b (ins D κ n) t N5 w5) (hb : b ≠ s ∧ b ≠ s + 1)
    (q0 : Blk W s #[.pointer (some ⟨b, 0, none⟩)] 59) (q1 : Blk W (s + 1) #[.pointer (some ⟨b, off, none⟩)] 302) :
    ∃ g, w5.cell? ⟨s, 0, none⟩ = some (.pointer (some ⟨b, 0, none⟩)) ∧ w5.cell? ⟨s + 1, 0, none⟩ = some (.pointer (some ⟨b, off, none⟩)) ∧ w5.cell? ⟨b, 1545, none⟩ = some (.int .i64 t) ∧ w5.frozen? ⟨b, 1545, none⟩ = false ∧
      (w5.setCell ⟨b, 1545, none⟩ (.int .i64 (t + 1))).cell? ⟨s + 1, 0, none⟩ = some (.pointer (some ⟨b, off, none⟩)) ∧
      (w5.setCell ⟨b, 1545, none⟩ (.int .i64 (t + 1))).cell? ⟨b, off + 3, none⟩ = some (.slice (some ⟨g, 0, none⟩) (M.ts κ n) (M.ts κ n)) ∧
      Blk (w5.setCell ⟨b, 1545, none⟩ (.int .i64 (t + 1))) g (M.tabl κ n).toArray 182 ∧ Bank b (ins D κ n) (t + 1) N5 (w5.setCell ⟨b, 1545, none⟩ (.int .i64 (t + 1))) ∧
      But b W (w5.setCell ⟨b, 1545, none⟩ (.int .i64 (t + 1))) := by
  have hB6 := hB5.told (t + 1)
  have bt6 := bt.set (a := ⟨b, 1545, none⟩) (.inl rfl) (.int .i64 (t + 1))
  obtain ⟨_, _, cur, h3, _, _, h6, _⟩ := hB5
  obtain ⟨_, _, cur6, k3, _, _, _, k7⟩ := id hB6
  obtain ⟨_, g, r1, r2, r3, r4⟩ := (k7 κ n hok).2 (mem_ins D κ n)
  rw [← ho] at r1
  exact ⟨g, (bt.blk q0 hb.1.symm).cell (o := 0) rfl, (bt.blk q1 hb.2.symm).cell (o := 0) rfl, h3.cell h6, h3.free _, (bt6.blk q1 hb.2.symm).cell (o := 0) rfl, k3.cell r1, r4, hB6, bt6⟩

def Told (b κ n : Nat) (D : List (Nat × Nat)) (t : Int) (v : Value) (w w' : World) : Prop :=
  ∃ X, w'.ownsRow X 182 1 v (M.ts κ n) (M.tabl κ n) ∧ w.heap.size ≤ X ∧ Bank b (ins D κ n) (t + 1) X w' ∧ But b w w'

set_option maxRecDepth 100000 in
set_option maxHeartbeats 800000 in
theorem tell_walk (b off sz : Nat) (ff : Fn) (cc : Array Value) (t : Int) (zs : List Value) (R : World → Prop) (w : World) (t0 : 0 ≤ t) (t1 : t ≤ 1000000) (hz : zs.length = sz) (z0 : 1 ≤ sz) (z1 : sz ≤ 65536) (h1 : ∀ u ∈ zs, u.oneCell' = true)
    (honce : Calls Tryz.prog 247 #[.pointer (some ⟨b, off, none⟩), .func (.func 248) #[] #[.pointer (some ⟨w.heap.size + 2, 0, none⟩), .pointer (some ⟨w.heap.size + 1, 0, none⟩), .pointer (some ⟨w.heap.size + 3, 0, none⟩), .pointer (some ⟨w.heap.size, 0, none⟩)]]
      ((((w.alloc (.cells #[.pointer (some ⟨b, 0, none⟩)] 59)).alloc (.cells #[.pointer (some ⟨b, off, none⟩)] 302)).alloc (.cells #[.int .i64 sz] 3)).alloc (.cells #[.func ff #[] cc] 294))
      fun e w' => e = .returned (.tuple #[]) ∧ R w')
    (hmid : ∀ w5, R w5 → ∃ g, w5.cell? ⟨w.heap.size, 0, none⟩ = some (.pointer (some ⟨b, 0, none⟩)) ∧ w5.cell? ⟨w.heap.size + 1, 0, none⟩ = some (.pointer (some ⟨b, off, none⟩)) ∧ w5.cell? ⟨b, 1545, none⟩ = some (.int .i64 t) ∧ w5.frozen? ⟨b, 1545, none⟩ = false ∧
      (w5.setCell ⟨b, 1545, none⟩ (.int .i64 (t + 1))).cell? ⟨w.heap.size + 1, 0, none⟩ = some (.pointer (some ⟨b, off, none⟩)) ∧
      (w5.setCell ⟨b, 1545, none⟩ (.int .i64 (t + 1))).cell? ⟨b, off + 3, none⟩ = some (.slice (some ⟨g, 0, none⟩) sz sz) ∧ Blk (w5.setCell ⟨b, 1545, none⟩ (.int .i64 (t + 1))) g zs.toArray 182) :
    Calls Tryz.prog 216 #[.pointer (some ⟨b, 0, none⟩), .pointer (some ⟨b, off, none⟩), .int .i64 sz, .func ff #[] cc] w
      fun e w' => ∃ v, e = .returned v ∧ ∃ w5, R w5 ∧ w'.ownsRow (w5.setCell ⟨b, 1545, none⟩ (.int .i64 (t + 1))).heap.size 182 1 v sz zs ∧ Below (w5.setCell ⟨b, 1545, none⟩ (.int .i64 (t + 1))).heap.size (w5.setCell ⟨b, 1545, none⟩ (.int .i64 (t + 1))) w' := by
  have HM : Hid (∀ w5, R w5 → _) := hmid
  clear hmid
  go_enter Tryz.func216, Tryz.ntmps216
  go_wp2_with (first
    | (go_at_call 247; refine honce.mono ?_; rintro e w5 ⟨rfl, hr⟩; obtain ⟨g, c1, c2, c3, c4, c5, c6, hg⟩ := HM.out _ hr; clear HM honce)
    | (go_at_call 249; refine (add_any b 1545 t (t + 1) _ c3 c4 rfl t0 t1).mono ?_; rintro e w' ⟨rfl, rfl⟩)
    | (go_at_call 250; refine (clone_any g sz zs _ hg hz z0 z1 h1).mono ?_; rintro e w' ⟨v, rfl, hown, bel⟩))
  go_ret
  exact ⟨v, rfl, w5, hr, hown, bel⟩

set_option maxRecDepth 100000 in
set_option maxHeartbeats 1600000 in
theorem tell_any (κ n b pn off : Nat) (D : List (Nat × Nat)) (t : Int) (N : Nat) (w : World) (hok : M.okT κ n) (ho : off = 4 * M.tj κ n) (hT : Wave.Tab w) (hB : Bank b D t N w) (hD : D.length ≤ 1000000)
    (t0 : 0 ≤ t) (t1 : t ≤ 1000000) (hn : Blk w pn #[.int .i64 n] 3) :
    Calls Tryz.prog 216 #[.pointer (some ⟨b, 0, none⟩), .pointer (some ⟨b, off, none⟩), .int .i64 (M.ts κ n : Nat), .func (.func (fn κ)) #[] #[.pointer (some ⟨pn, 0, none⟩)]] w
      fun e w' => ∃ v, e = .returned v ∧ Told b κ n D t v w w' := by
  obtain ⟨z0, z1⟩ := M.ts_bd hok
  have hb := hB.1
  have hbN := hB.2.1
  obtain ⟨W, hW⟩ : ∃ W, W = (((w.alloc (.cells #[.pointer (some ⟨b, 0, none⟩)] 59)).alloc (.cells #[.pointer (some ⟨b, off, none⟩)] 302)).alloc (.cells #[.int .i64 (M.ts κ n : Nat)] 3)).alloc (.cells #[.func (.func (fn κ)) #[] #[.pointer (some ⟨pn, 0, none⟩)]] 294) := ⟨_, rfl⟩
  have bW : Below w.heap.size w W := by
    rw [hW]
    exact ((((Below.refl w.heap.size w).alloc (by simp) _).alloc (by simp) _).alloc (by simp; omega) _).alloc (by simp; omega) _
  have q0 : Blk W w.heap.size #[.pointer (some ⟨b, 0, none⟩)] 59 := by rw [hW]; exact (((Blk.new _ _ _).alloc _).alloc _).alloc _
  have q1 : Blk W (w.heap.size + 1) #[.pointer (some ⟨b, off, none⟩)] 302 := by
    rw [hW]; have := ((Blk.new (w.alloc (.cells #[.pointer (some ⟨b, 0, none⟩)] 59)) #[.pointer (some ⟨b, off, none⟩)] 302).alloc (.cells #[.int .i64 (M.ts κ n : Nat)] 3)).alloc (.cells #[.func (.func (fn κ)) #[] #[.pointer (some ⟨pn, 0, none⟩)]] 294)
    simpa using this
  have q2 : Blk W (w.heap.size + 2) #[.int .i64 (M.ts κ n : Nat)] 3 := by
    rw [hW]; have := (Blk.new ((w.alloc (.cells #[.pointer (some ⟨b, 0, none⟩)] 59)).alloc (.cells #[.pointer (some ⟨b, off, none⟩)] 302)) #[.int .i64 (M.ts κ n : Nat)] 3).alloc (.cells #[.func (.func (fn κ)) #[] #[.pointer (some ⟨pn, 0, none⟩)]] 294)
    simpa using this
  have q3 : Blk W (w.heap.size + 3) #[.func (.func (fn κ)) #[] #[.pointer (some ⟨pn, 0, none⟩)]] 294 := by
    rw [hW]; have := Blk.new (((w.alloc (.cells #[.pointer (some ⟨b, 0, none⟩)] 59)).alloc (.cells #[.pointer (some ⟨b, off, none⟩)] 302)).alloc (.cells #[.int .i64 (M.ts κ n : Nat)] 3)) #[.func (.func (fn κ)) #[] #[.pointer (some ⟨pn, 0, none⟩)]] 294
    simpa using this
  have honce := once_any κ n b (w.heap.size + 2) (w.heap.size + 1) (w.heap.size + 3) w.heap.size pn D t N W hok (tab_below bW (Nat.le_refl _) hT) (hB.below bW hbN) hD q2 (ho ▸ q1) q3 q0 ((bW.block _ hn.lt).trans hn)
  rw [← ho] at honce
  have hb1 : But b w W := But.of_below bW (Nat.le_refl _)
  rw [hW] at honce
  refine (tell_walk b off (M.ts κ n) _ _ t (M.tabl κ n) _ w t0 t1 (M.tabl_length _ _) z0 (by omega) (tabl_one _ _) honce ?_).mono ?_
  · rintro w5 ⟨bt, N5, hB5⟩
    rw [← hW] at bt
    obtain ⟨g, c1, c2, c3, c4, c5, c6, hg, _⟩ := mid hok ho bt hB5 (by omega) q0 q1
    exact ⟨g, c1, c2, c3, c4, c5, c6, hg⟩
  · rintro e w' ⟨v, rfl, w5, ⟨bt, N5, hB5⟩, hown, bel⟩
    rw [← hW] at bt
    obtain ⟨g, c1, c2, c3, c4, c5, c6, hg, hB6, bt6⟩ := mid hok ho bt hB5 (by omega) q0 q1
    refine ⟨v, rfl, _, hown, ?_, hB6.keep (fun k hk => bel.block k (by have := hB6.2.1; omega)) hB6.2.1 bel.size, hb1.trans (bt6.trans (But.of_below bel (Nat.le_refl _)))⟩
    have := hb1.size
    have := bt6.size
    omega

end Bank
end Go.Proofs.YtcaifpjbjghhaaaGreatDoor

/-
  What a bank answers to a question. Conditions: the polynomial's numbers stand as their initialiser lays them; one goroutine.
-/
namespace Go.Proofs.YtcaifpjbjghhaaaGreatDoor
open Go.RowKit
namespace Bank

theorem boxed {b : Nat} {D : List (Nat × Nat)} {t : Int} {N : Nat} {w : World} (hB : Bank b D t N w) (hT : Wave.Tab w) (c : Array Value) (ty : TypeId) :
    Bank b D t N (w.alloc (.cells c ty)) ∧ Wave.Tab (w.alloc (.cells c ty)) ∧ But b w (w.alloc (.cells c ty)) := by
  have hbel : Below w.heap.size w (w.alloc (.cells c ty)) := (Below.refl _ _).alloc (Nat.le_refl _) _
  exact ⟨hB.below hbel hB.2.1, tab_below hbel (Nat.le_refl _) hT, But.of_below hbel (Nat.le_refl _)⟩
theorem told_boxed {b κ n : Nat} {D : List (Nat × Nat)} {t : Int} {v : Value} {w w' : World} {c : Array Value} {ty : TypeId} (h : Told b κ n D t v (w.alloc (.cells c ty)).drew w') : Told b κ n D t v w w' := by
  obtain ⟨X, h1, h2, h3, h4⟩ := h
  have hbel : Below w.heap.size w (w.alloc (.cells c ty)) := (Below.refl _ _).alloc (Nat.le_refl _) _
  exact ⟨X, h1, Nat.le_trans hbel.size h2, h3, (But.of_below hbel (Nat.le_refl _)).drew.trans h4⟩

theorem wrap_id (n : Int) (h0 : -9223372036854775808 ≤ n) (h1 : n ≤ 9223372036854775807) : IntKind.i64.wrap n = n := by rw [IntKind.wrap_i64]; omega

set_option maxRecDepth 100000 in
set_option maxHeartbeats 1600000 in
theorem turn_ok (n b : Nat) (D : List (Nat × Nat)) (t : Int) (N : Nat) (w : World) (hok : M.okT 0 n) (hT : Wave.Tab w) (hB : Bank b D t N w) (hD : D.length ≤ 1000000) (t0 : 0 ≤ t) (t1 : t ≤ 1000000) :
    Calls Tryz.prog 188 #[.pointer (some ⟨b, 0, none⟩), .int .i64 n] w fun e w' => ∃ v, e = .returned (.tuple #[v, .int .i64 0]) ∧ Told b 0 n D t v w w' := by
  obtain ⟨hB1, hT1, _⟩ := boxed hB hT #[.int .i64 n] 3
  have hn1 := Blk.new w #[.int .i64 n] 3
  have hc1 : (w.alloc (.cells #[.int .i64 n] 3)).cell? ⟨w.heap.size, 0, none⟩ = some (.int .i64 n) := hn1.cell (o := 0) rfl
  obtain ⟨j, hj1, hj2⟩ : ∃ j, n = 4 * (j + 1) ∧ j < 256 := ⟨n / 4 - 1, by rcases hok with h | h | h <;> omega, by rcases hok with h | h | h <;> omega⟩
  have ej : j * 4 = 4 * M.tj 0 n := by show j * 4 = 4 * (n / 4 - 1); omega
  have htell := tell_any 0 n b w.heap.size (j * 4) D t N (w.alloc (.cells #[.int .i64 n] 3)).drew hok ej hT1 hB1 hD t0 t1 hn1
  have e1 : M.ts 0 n = n := rfl
  have e2 : fn 0 = 217 := rfl
  rw [e1, e2] at htell
  have hdiv : (n : Int).tdiv 4 = (j : Int) + 1 := by rw [Int.tdiv_eq_ediv]; split <;> omega
  have hmod : (n : Int).tmod 4 = 0 := by rw [Int.tmod_eq_emod]; split <;> omega
  have i1 : ¬ (n : Int) < 4 := by omega
  have i2 : ¬ (1024 : Int) < n := by omega
  have i5 : (0 : Int) ≤ j ∧ (j : Int) < 256 := by omega
  have w1 := wrap_id ((j : Int) + 1) (by omega) (by omega)
  have w2 := wrap_id (j : Int) (by omega) (by omega)
  clear hB1 hT1 hn1 hB hT hj1 ej e1 e2 hok
  go_enter Tryz.func188, Tryz.ntmps188
  go_wp2
  go_region_with (go_at_call 216; refine htell.mono ?_; rintro e w' ⟨v, rfl, ht⟩)
  all_goals
    go_wp2
    go_ret2
    exact ⟨_, rfl, told_boxed ht⟩

set_option maxRecDepth 100000 in
set_option maxHeartbeats 1600000 in
theorem filter_ok (n b : Nat) (D : List (Nat × Nat)) (t : Int) (N : Nat) (w : World) (hok : M.okT 2 n) (hT : Wave.Tab w) (hB : Bank b D t N w) (hD : D.length ≤ 1000000) (t0 : 0 ≤ t) (t1 : t ≤ 1000000) :
    Calls Tryz.prog 187 #[.pointer (some ⟨b, 0, none⟩), .int .i64 n] w fun e w' => ∃ v, e = .returned (.tuple #[v, .int .i64 0]) ∧ Told b 2 n D t v w w' := by
  obtain ⟨hB1, hT1, _⟩ := boxed hB hT #[.int .i64 n] 3
  have hn1 := Blk.new w #[.int .i64 n] 3
  have hc1 : (w.alloc (.cells #[.int .i64 n] 3)).cell? ⟨w.heap.size, 0, none⟩ = some (.int .i64 n) := hn1.cell (o := 0) rfl
  have htell := tell_any 2 n b w.heap.size (4 * M.tj 2 n) D t N (w.alloc (.cells #[.int .i64 n] 3)).drew hok rfl hT1 hB1 hD t0 t1 hn1
  have e1 : M.ts 2 n = 10 * n := rfl
  have e2 : fn 2 = 214 := rfl
  rw [e1, e2] at htell
  rcases (by rcases hok with h | h | h <;> omega : n = 4 ∨ n = 8) with rfl | rfl
  · have e3 : 4 * M.tj 2 4 = 1536 := rfl
    rw [e3] at htell
    clear hB1 hT1 hn1 hB hT e1 e2 e3 hok
    go_enter Tryz.func187, Tryz.ntmps187
    go_wp2
    go_region_with (go_at_call 216; refine htell.mono ?_; rintro e w' ⟨v, rfl, ht⟩)
    all_goals
      go_wp2
      go_ret2
      exact ⟨_, rfl, told_boxed ht⟩
  · have e3 : 4 * M.tj 2 8 = 1540 := rfl
    rw [e3] at htell
    clear hB1 hT1 hn1 hB hT e1 e2 e3 hok
    go_enter Tryz.func187, Tryz.ntmps187
    go_wp2
    go_region_with (go_at_call 216; refine htell.mono ?_; rintro e w' ⟨v, rfl, ht⟩)
    all_goals
      go_wp2
      go_ret2
      exact ⟨_, rfl, told_boxed ht⟩

end Bank
end Go.Proofs.YtcaifpjbjghhaaaGreatDoor

/-
  A new bank. Conditions: none.
-/
namespace Go.Proofs.YtcaifpjbjghhaaaGreatDoor
open Go.RowKit
namespace Bank

def chk4 : Nat → List Value → Bool
  | 0, [.int .i64 (.ofNat 0), .int .i64 (.ofNat 0)] => true
  | k + 1, .int .u32 (.ofNat 0) :: .int .i32 (.ofNat 0) :: _ :: _ :: r => chk4 k r
  | _, _ => false
def chk : Value → Bool | .agg cs => chk4 386 cs.toList | _ => false

theorem chk4_spec : ∀ (k : Nat) (l : List Value), chk4 k l = true → l.length = 4 * k + 2 ∧ l[4 * k]? = some (.int .i64 0) ∧ l[4 * k + 1]? = some (.int .i64 0) ∧ ∀ j, j < k → l[4 * j]? = some (.int .u32 0) ∧ l[4 * j + 1]? = some (.int .i32 0) := by
  intro k
  induction k with
  | zero =>
    intro l h
    unfold chk4 at h
    split at h
    · exact ⟨rfl, rfl, rfl, fun j hj => absurd hj (by omega)⟩
    · rename_i e; cases e
    · cases h
  | succ k ih =>
    intro l h
    unfold chk4 at h
    split at h
    · rename_i e; cases e
    · rename_i e
      cases e
      rename_i r
      obtain ⟨h1, h2, h3, h4⟩ := ih r h
      have e4 : ∀ (a b c d : Value) (m : Nat), (a :: b :: c :: d :: r)[m + 4]? = r[m]? := fun _ _ _ _ _ => rfl
      refine ⟨by simp [h1]; omega, ?_, ?_, ?_⟩
      · rw [show 4 * (k + 1) = 4 * k + 4 by omega, e4]; exact h2
      · rw [show 4 * (k + 1) + 1 = 4 * k + 1 + 4 by omega, e4]; exact h3
      · intro j hj
        cases j with
        | zero => exact ⟨rfl, rfl⟩
        | succ j =>
          rw [show 4 * (j + 1) = 4 * j + 4 by omega, show 4 * j + 4 + 1 = 4 * j + 1 + 4 by omega, e4, e4]
          exact h4 j (by omega)
    · cases h

theorem infoB : (Tryz.prog.info? 167).map (fun i => i.zero.map chk) = some (some true) := by kernel_rfl

theorem zeroB : ∃ cs : Array Value, (∀ w : World, (zeroValue 167).run Tryz.prog w = .ok (.agg cs) w) ∧ chk4 386 cs.toList = true := by
  have h := infoB
  cases hi : Tryz.prog.info? 167 with
  | none => rw [hi] at h; cases h
  | some i =>
    rw [hi] at h
    simp only [Option.map_some, Option.some.injEq] at h
    cases hz : i.zero with
    | none => rw [hz] at h; cases h
    | some z =>
      rw [hz] at h
      simp only [Option.map_some, Option.some.injEq] at h
      unfold chk at h
      split at h
      · rename_i cs
        refine ⟨cs, fun w => ?_, h⟩
        simp [zeroValue, typeInfo, go_sem, hi, hz]
      · cases h

theorem new_bank (w : World) (cs : Array Value) (h : chk4 386 cs.toList = true) : Bank w.heap.size [] 0 (w.heap.size + 1) (w.alloc (.cells cs 167)) := by
  obtain ⟨h1, h2, h3, h4⟩ := chk4_spec _ _ h
  simp only [Array.length_toList, Array.getElem?_toList] at h1 h2 h3 h4
  refine ⟨by omega, by simp, cs, Blk.new w cs _, h1, h2, h3, fun κ n hok => ⟨fun _ => h4 _ (M.tj_lt hok), fun hd => absurd hd (by simp)⟩⟩

theorem new_any (w : World) : Calls Tryz.prog 28 #[] w fun e w' => e = .returned (.pointer (some ⟨w.heap.size, 0, none⟩)) ∧ w'.heap.size = w.heap.size + 1 ∧ Bank w.heap.size [] 0 (w.heap.size + 1) w' ∧ Below w.heap.size w w' := by
  obtain ⟨cs, hz, hc⟩ := zeroB
  have hn := new_bank w cs hc
  have hal : ∀ (o : Value), (Instr.alloc 167 true o).run Tryz.prog w = .ok (.pointer (some ⟨w.heap.size, 0, none⟩)) (w.alloc (.cells cs 167)) := fun o => by
    simp [Instr.alloc, hz, newVar, newRow, go_sem]
  clear hc
  go_enter Tryz.func28, Tryz.ntmps28
  go_wp2
  go_ret
  exact ⟨rfl, by simp, hn, (Below.refl _ _).alloc (Nat.le_refl _) _⟩

end Bank
end Go.Proofs.YtcaifpjbjghhaaaGreatDoor

/-
  The document's tables (psalteryref04), and when two lists are the same. Conditions: none.
-/
namespace Go.Proofs.YtcaifpjbjghhaaaGreatDoor
open Go.RowKit
namespace M

theorem tabl_take {κ n k : Nat} (h : k < ts κ n) : (tabl κ n).take k ++ [.int .i16 (tv κ (n : Int) (k : Int))] = (tabl κ n).take (k + 1) := by
  rw [List.take_add_one, tabl_get h]; rfl
theorem tabl_all (κ n : Nat) : (tabl κ n).take (ts κ n) = tabl κ n := List.take_of_length_le (by rw [tabl_length]; exact Nat.le_refl _)
theorem fil4 : ∀ k : Nat, k < 40 → -32768 ≤ rnd (rnd (fade (k - 20) 4 * win k 40) 15 * 19708) 15 ∧ rnd (rnd (fade (k - 20) 4 * win k 40) 15 * 19708) 15 ≤ 32767 := by decide +kernel
theorem fil8 : ∀ k : Nat, k < 80 → -32768 ≤ rnd (rnd (fade (k - 40) 8 * win k 80) 15 * 19708) 15 ∧ rnd (rnd (fade (k - 40) 8 * win k 80) 15 * 19708) 15 ≤ 32767 := by decide +kernel
theorem sat16_id {x : Int} (h0 : -32768 ≤ x) (h1 : x ≤ 32767) : sat16 x = x := by
  unfold sat16 clip
  rw [if_neg (by omega), if_neg (by omega)]

end M
namespace Bank

def Gath (κ n k : Nat) (v : Value) (w wr : World) : Prop := wr.ownsRow w.heap.size 182 1 v k ((M.tabl κ n).take k) ∧ Below w.heap.size w wr
theorem Gath.step {κ n k : Nat} {v v' : Value} {w wr w1 : World} {c : Array Value} {ty : TypeId} (h : Gath κ n k v w wr) (hk : k < M.ts κ n)
    (hown : w1.ownsRow w.heap.size 182 1 v' (k + 1) ((M.tabl κ n).take k ++ [.int .i16 (M.tv κ (n : Int) (k : Int))])) (hg : (wr.alloc (.cells c ty)).grownBy w1 v.ownBlock) : Gath κ n (k + 1) v' w w1 := by
  refine ⟨M.tabl_take hk ▸ hown, ?_⟩
  have hs := h.2.size
  exact (h.2.alloc hs _).grown hg (by simp; omega) (fun j hj => (h.1.lt j hj).1)
theorem Gath.whole {κ n : Nat} {v : Value} {w wr : World} (h : Gath κ n (M.ts κ n) v w wr) : wr.ownsRow w.heap.size 182 1 v (M.ts κ n) (M.tabl κ n) ∧ Below w.heap.size w wr := ⟨M.tabl_all κ n ▸ h.1, h.2⟩

set_option maxRecDepth 100000 in
set_option maxHeartbeats 1600000 in
theorem rfilter_4 (w : World) :
    Calls Tryz.prog 149 #[.int .i64 4] w fun e w' => ∃ v, e = .returned v ∧ w'.ownsRow w.heap.size 182 1 v (M.ts 2 4) (M.tabl 2 4) ∧ Below w.heap.size w w' := by
  obtain ⟨i0, hi, hz0, hz1, hz2⟩ := info_parts info16
  have ets : M.ts 2 4 = 40 := rfl
  have hcos : ∀ x : Int, M.cosineI x 40 = M.cosine x 40 := fun x => if_pos (by decide)
  go_enter Tryz.func149, Tryz.ntmps149
  go_wp2
  go_loopw [3, 4] (fun v i wr => ∃ k : Nat, k ≤ 40 ∧ i = .int .i64 ((k : Int) - 20) ∧ Gath 2 4 k v w wr) (fun _ i _ => 40 - (intOf i + 20).toNat)
  case atStart => exact ⟨0, by omega, rfl, World.ownsRow_nil _ _ _ _, Below.refl _ _⟩
  case round =>
    obtain ⟨k, hk, rfl, hG⟩ := hrel
    by_cases hlt : k < 40
    · have hs := hG.2.size
      have hown := hG.1
      have hlt' : (k : Int) - 20 < 20 := by omega
      by_cases hd : (k : Int) - 20 = 0
      · have hk' : k = 20 := by omega
        subst hk'
        have c1e : M.cosine 20 40 = -32767 := by decide +kernel
        have c2e : M.cosine 40 40 = 32767 := by decide +kernel
        have r2e : M.rnd 1073709056 15 = 32767 := by decide +kernel
        have r3e : M.rnd 645772036 15 = 19707 := by decide +kernel
        have hval : M.tv 2 4 20 = 19707 := by decide +kernel
        go_wp2_with (first
          | (go_at_call 193; refine (Wave.Of_any _ _ _ (by omega) (by omega)).mono ?_; rintro e w' ⟨rfl, hw⟩; rw [hw]; clear hw w')
          | (go_at_call 194; refine (Wave.refCosine_all _ _ _).mono ?_; rintro e w' ⟨rfl, hw⟩; rw [hw]; clear hw w')
          | (go_at_call 154; refine (Ref.Round_any _ _ _ (by omega) (by omega)).mono ?_; rintro e w' ⟨rfl, hw⟩; rw [hw]; clear hw w')
          | (at_builtin; refine wpList_append_own _ rfl (.tmp 68) (.tmp 76) 55 rfl w.heap.size 182 i0 (.int .i16 0) 1 2 Tryz.underlying55 hi hz0 hz1 hz2 rfl (by decide) _ _ _ rfl (hown.alloc _) ⟨wr.heap.size, 0, none⟩ 1 1 [.int .i16 (M.tv 2 ((4 : Nat) : Int) (20 : Nat))] rfl rfl ?c1 ?c2 ?c3 ?c4 ?c5 ?_))
        case c1 =>
          intro j u hj
          match j, hj with
          | 0, hj => simp at hj; subst hj; simp [Addr.add, hval]
        case c2 => intro u hu; simp at hu; subst hu; rfl
        case c3 => unfold maxLen; omega
        case c4 => omega
        case c5 => simp; omega
        · intro v' w1 hown' hgrow _
          have R := hG.step (by omega) hown' hgrow
          clear hown' hgrow hown hG
          go_wp2
          go_roundw
          case rel => exact ⟨20 + 1, by omega, by go_num, R⟩
          case measure => simp [intOf]
      · obtain ⟨a0, a1⟩ := M.cosine_bd (k : Int) (d := 40) (by omega)
        obtain ⟨b0, b1⟩ := M.cosine_bd (2 * (k : Int)) (d := 40) (by omega)
        obtain ⟨q0, q1⟩ := M.win_bd (i := (k : Int)) (t := 40) (by omega)
        obtain ⟨p0, p1⟩ := M.fw_bd (d := (k : Int) - 20) (m := 4) (i := k) (t := 40) (by decide) (by omega)
        obtain ⟨r0, r1⟩ := M.rnd15_bd p0 p1 (by omega)
        obtain ⟨f0, f1⟩ := M.fade_bd (d := (k : Int) - 20) (m := 4) (by decide)
        obtain ⟨s0, s1⟩ := M.fil4 k hlt
        have hwin : (1376256 + 8 * M.cosine (2 * (k : Int)) 40 - 50 * M.cosine (k : Int) 40).tdiv 100 = M.win k 40 := by
          unfold M.win; congr 1; omega
        have hval : M.rnd (M.rnd (M.fade ((k : Int) - 20) 4 * M.win k 40) 15 * 19708) 15 = M.tv 2 4 k := by
          show _ = M.sat16 (M.rnd (M.rnd (M.fade ((k : Int) - 20) 4 * M.win k 40) 15 * 19708) 15)
          rw [M.sat16_id s0 s1]
        have hq0 : -40000 ≤ (1376256 + 8 * M.cosine (2 * (k : Int)) 40 - 50 * M.cosine (k : Int) 40).tdiv 100 := by omega
        have hq1 : (1376256 + 8 * M.cosine (2 * (k : Int)) 40 - 50 * M.cosine (k : Int) 40).tdiv 100 ≤ 40000 := by omega
        rw [hval] at s0 s1
        have hwr : IntKind.i16.wrap (M.tv 2 4 k) = M.tv 2 4 k := by
          simp only [IntKind.wrap, IntKind.bits, IntKind.signed]
          first | omega | (simp; omega)
        have hd' : ((k : Int) - 20 == 0) = false := by simpa using hd
        have hz : ¬ ((k : Int) - 20) * 1065 = 0 := by omega
        obtain ⟨x0, x1⟩ := M.sine_bd (3 * ((k : Int) - 20)) (d := 40) (by omega)
        have hfade : (M.sine (3 * ((k : Int) - 20)) 40 * 4 * 565).tdiv (((k : Int) - 20) * 1065) = M.fade ((k : Int) - 20) 4 := by
          unfold M.fade
          rw [if_neg hd, show (10 * 4 : Int) = 40 from rfl]
          congr 1 <;> omega
        have y0 : -200000000 ≤ (M.sine (3 * ((k : Int) - 20)) 40 * 4 * 565).tdiv (((k : Int) - 20) * 1065) := by omega
        have y1 : (M.sine (3 * ((k : Int) - 20)) 40 * 4 * 565).tdiv (((k : Int) - 20) * 1065) ≤ 200000000 := by omega
        go_wp2_with (first
          | (go_at_call 193; refine (Wave.Of_any _ _ _ (by omega) (by omega)).mono ?_; rintro e w' ⟨rfl, hw⟩; rw [hw]; clear hw w')
          | (go_at_call 194; refine (Wave.refCosine_all _ _ _).mono ?_; rintro e w' ⟨rfl, hw⟩; rw [hw]; clear hw w')
          | (go_at_call 154; refine (Ref.Round_any _ _ _ (by omega) (by omega)).mono ?_; rintro e w' ⟨rfl, hw⟩; rw [hw]; clear hw w')
          | (at_builtin; refine wpList_append_own _ rfl (.tmp 68) (.tmp 76) 55 rfl w.heap.size 182 i0 (.int .i16 0) 1 2 Tryz.underlying55 hi hz0 hz1 hz2 rfl (by decide) _ _ _ rfl (hown.alloc _) ⟨wr.heap.size, 0, none⟩ 1 1 [.int .i16 (M.tv 2 ((4 : Nat) : Int) (k : Nat))] rfl rfl ?c1 ?c2 ?c3 ?c4 ?c5 ?_))
        case c1 =>
          intro j u hj
          match j, hj with
          | 0, hj => simp at hj; subst hj; simp [Addr.add]
        case c2 => intro u hu; simp at hu; subst hu; rfl
        case c3 => unfold maxLen; omega
        case c4 => omega
        case c5 => simp; omega
        · intro v' w1 hown' hgrow _
          have R := hG.step (by omega) hown' hgrow
          clear hown' hgrow hown hG
          go_wp2
          go_roundw
          case rel => exact ⟨k + 1, by omega, by go_num, R⟩
          case measure => simp [intOf]; omega
    · obtain rfl : k = 40 := by omega
      go_wp2
      go_ret
      exact ⟨_, rfl, hG.whole⟩

set_option maxRecDepth 100000 in
set_option maxHeartbeats 1600000 in
theorem rfilter_8 (w : World) :
    Calls Tryz.prog 149 #[.int .i64 8] w fun e w' => ∃ v, e = .returned v ∧ w'.ownsRow w.heap.size 182 1 v (M.ts 2 8) (M.tabl 2 8) ∧ Below w.heap.size w w' := by
  obtain ⟨i0, hi, hz0, hz1, hz2⟩ := info_parts info16
  have ets : M.ts 2 8 = 80 := rfl
  have hcos : ∀ x : Int, M.cosineI x 80 = M.cosine x 80 := fun x => if_pos (by decide)
  go_enter Tryz.func149, Tryz.ntmps149
  go_wp2
  go_loopw [3, 4] (fun v i wr => ∃ k : Nat, k ≤ 80 ∧ i = .int .i64 ((k : Int) - 40) ∧ Gath 2 8 k v w wr) (fun _ i _ => 80 - (intOf i + 40).toNat)
  case atStart => exact ⟨0, by omega, rfl, World.ownsRow_nil _ _ _ _, Below.refl _ _⟩
  case round =>
    obtain ⟨k, hk, rfl, hG⟩ := hrel
    by_cases hlt : k < 80
    · have hs := hG.2.size
      have hown := hG.1
      have hlt' : (k : Int) - 40 < 40 := by omega
      by_cases hd : (k : Int) - 40 = 0
      · have hk' : k = 40 := by omega
        subst hk'
        have c1e : M.cosine 40 80 = -32767 := by decide +kernel
        have c2e : M.cosine 80 80 = 32767 := by decide +kernel
        have r2e : M.rnd 1073709056 15 = 32767 := by decide +kernel
        have r3e : M.rnd 645772036 15 = 19707 := by decide +kernel
        have hval : M.tv 2 8 40 = 19707 := by decide +kernel
        go_wp2_with (first
          | (go_at_call 193; refine (Wave.Of_any _ _ _ (by omega) (by omega)).mono ?_; rintro e w' ⟨rfl, hw⟩; rw [hw]; clear hw w')
          | (go_at_call 194; refine (Wave.refCosine_all _ _ _).mono ?_; rintro e w' ⟨rfl, hw⟩; rw [hw]; clear hw w')
          | (go_at_call 154; refine (Ref.Round_any _ _ _ (by omega) (by omega)).mono ?_; rintro e w' ⟨rfl, hw⟩; rw [hw]; clear hw w')
          | (at_builtin; refine wpList_append_own _ rfl (.tmp 68) (.tmp 76) 55 rfl w.heap.size 182 i0 (.int .i16 0) 1 2 Tryz.underlying55 hi hz0 hz1 hz2 rfl (by decide) _ _ _ rfl (hown.alloc _) ⟨wr.heap.size, 0, none⟩ 1 1 [.int .i16 (M.tv 2 ((8 : Nat) : Int) (40 : Nat))] rfl rfl ?c1 ?c2 ?c3 ?c4 ?c5 ?_))
        case c1 =>
          intro j u hj
          match j, hj with
          | 0, hj => simp at hj; subst hj; simp [Addr.add, hval]
        case c2 => intro u hu; simp at hu; subst hu; rfl
        case c3 => unfold maxLen; omega
        case c4 => omega
        case c5 => simp; omega
        · intro v' w1 hown' hgrow _
          have R := hG.step (by omega) hown' hgrow
          clear hown' hgrow hown hG
          go_wp2
          go_roundw
          case rel => exact ⟨40 + 1, by omega, by go_num, R⟩
          case measure => simp [intOf]
      · obtain ⟨a0, a1⟩ := M.cosine_bd (k : Int) (d := 80) (by omega)
        obtain ⟨b0, b1⟩ := M.cosine_bd (2 * (k : Int)) (d := 80) (by omega)
        obtain ⟨q0, q1⟩ := M.win_bd (i := (k : Int)) (t := 80) (by omega)
        obtain ⟨p0, p1⟩ := M.fw_bd (d := (k : Int) - 40) (m := 8) (i := k) (t := 80) (by decide) (by omega)
        obtain ⟨r0, r1⟩ := M.rnd15_bd p0 p1 (by omega)
        obtain ⟨f0, f1⟩ := M.fade_bd (d := (k : Int) - 40) (m := 8) (by decide)
        obtain ⟨s0, s1⟩ := M.fil8 k hlt
        have hwin : (1376256 + 8 * M.cosine (2 * (k : Int)) 80 - 50 * M.cosine (k : Int) 80).tdiv 100 = M.win k 80 := by
          unfold M.win; congr 1; omega
        have hval : M.rnd (M.rnd (M.fade ((k : Int) - 40) 8 * M.win k 80) 15 * 19708) 15 = M.tv 2 8 k := by
          show _ = M.sat16 (M.rnd (M.rnd (M.fade ((k : Int) - 40) 8 * M.win k 80) 15 * 19708) 15)
          rw [M.sat16_id s0 s1]
        have hq0 : -40000 ≤ (1376256 + 8 * M.cosine (2 * (k : Int)) 80 - 50 * M.cosine (k : Int) 80).tdiv 100 := by omega
        have hq1 : (1376256 + 8 * M.cosine (2 * (k : Int)) 80 - 50 * M.cosine (k : Int) 80).tdiv 100 ≤ 40000 := by omega
        rw [hval] at s0 s1
        have hwr : IntKind.i16.wrap (M.tv 2 8 k) = M.tv 2 8 k := by
          simp only [IntKind.wrap, IntKind.bits, IntKind.signed]
          first | omega | (simp; omega)
        have hd' : ((k : Int) - 40 == 0) = false := by simpa using hd
        have hz : ¬ ((k : Int) - 40) * 1065 = 0 := by omega
        obtain ⟨x0, x1⟩ := M.sine_bd (3 * ((k : Int) - 40)) (d := 80) (by omega)
        have hfade : (M.sine (3 * ((k : Int) - 40)) 80 * 8 * 565).tdiv (((k : Int) - 40) * 1065) = M.fade ((k : Int) - 40) 8 := by
          unfold M.fade
          rw [if_neg hd, show (10 * 8 : Int) = 80 from rfl]
          congr 1 <;> omega
        have y0 : -200000000 ≤ (M.sine (3 * ((k : Int) - 40)) 80 * 8 * 565).tdiv (((k : Int) - 40) * 1065) := by omega
        have y1 : (M.sine (3 * ((k : Int) - 40)) 80 * 8 * 565).tdiv (((k : Int) - 40) * 1065) ≤ 200000000 := by omega
        go_wp2_with (first
          | (go_at_call 193; refine (Wave.Of_any _ _ _ (by omega) (by omega)).mono ?_; rintro e w' ⟨rfl, hw⟩; rw [hw]; clear hw w')
          | (go_at_call 194; refine (Wave.refCosine_all _ _ _).mono ?_; rintro e w' ⟨rfl, hw⟩; rw [hw]; clear hw w')
          | (go_at_call 154; refine (Ref.Round_any _ _ _ (by omega) (by omega)).mono ?_; rintro e w' ⟨rfl, hw⟩; rw [hw]; clear hw w')
          | (at_builtin; refine wpList_append_own _ rfl (.tmp 68) (.tmp 76) 55 rfl w.heap.size 182 i0 (.int .i16 0) 1 2 Tryz.underlying55 hi hz0 hz1 hz2 rfl (by decide) _ _ _ rfl (hown.alloc _) ⟨wr.heap.size, 0, none⟩ 1 1 [.int .i16 (M.tv 2 ((8 : Nat) : Int) (k : Nat))] rfl rfl ?c1 ?c2 ?c3 ?c4 ?c5 ?_))
        case c1 =>
          intro j u hj
          match j, hj with
          | 0, hj => simp at hj; subst hj; simp [Addr.add]
        case c2 => intro u hu; simp at hu; subst hu; rfl
        case c3 => unfold maxLen; omega
        case c4 => omega
        case c5 => simp; omega
        · intro v' w1 hown' hgrow _
          have R := hG.step (by omega) hown' hgrow
          clear hown' hgrow hown hG
          go_wp2
          go_roundw
          case rel => exact ⟨k + 1, by omega, by go_num, R⟩
          case measure => simp [intOf]; omega
    · obtain rfl : k = 80 := by omega
      go_wp2
      go_ret
      exact ⟨_, rfl, hG.whole⟩

theorem rfilter_ok (n : Nat) (w : World) (hok : M.okT 2 n) :
    Calls Tryz.prog 149 #[.int .i64 n] w fun e w' => ∃ v, e = .returned v ∧ w'.ownsRow w.heap.size 182 1 v (M.ts 2 n) (M.tabl 2 n) ∧ Below w.heap.size w w' := by
  rcases (by rcases hok with h | h | h <;> omega : n = 4 ∨ n = 8) with rfl | rfl
  · exact rfilter_4 w
  · exact rfilter_8 w

end Bank
end Go.Proofs.YtcaifpjbjghhaaaGreatDoor

/-
  When two lists are the same: the contract of psalteryref04.Same for two that are. Conditions: none.
-/
namespace Go.Proofs.YtcaifpjbjghhaaaGreatDoor
open Go.RowKit
namespace Bank

end Bank
end Go.Proofs.YtcaifpjbjghhaaaGreatDoor

/-
  New splitters and joiners. Conditions: the polynomial's numbers stand as their initialiser lays them; one goroutine.
-/
namespace Go.Proofs.YtcaifpjbjghhaaaGreatDoor
set_option linter.unusedVariables false
open Go.RowKit
namespace Poly
open Bank (Blk But)

theorem tabl_hs (m : Nat) : M.tabl 2 m = enc .i16 (M.hsl m) := by
  unfold M.tabl enc M.hsl
  rw [List.map_map]
  rfl
theorem tabl_tn (m : Nat) : M.tabl 0 (8 * m) = enc .i16 (M.tn m) := by
  unfold M.tabl enc M.tn
  rw [List.map_map]
  rfl
theorem hs_fits (m : Nat) : M.fits16 (M.hsl m) := by
  intro z hz
  obtain ⟨i, _, rfl⟩ := List.mem_map.1 hz
  exact M.fil_bd _ _
theorem tn_fits {m : Nat} (hm : 1 ≤ m) : M.fits16 (M.tn m) := by
  intro z hz
  obtain ⟨i, _, rfl⟩ := List.mem_map.1 hz
  have := M.cosine_bd (i : Int) (d := ((8 * m : Nat) : Int)) (by omega)
  omega

def Spl (lo gl m : Nat) (xs : List Int) (w : World) : Prop :=
  lo ≤ gl ∧ gl + 2 ≤ w.heap.size ∧ Blk w gl (enc .i16 xs).toArray 182 ∧ xs.length = 10 * m ∧ M.fits16 xs ∧
    ∃ vf vw, Blk w (gl + 1) #[.int .i64 m, vf, vw, .slice (some ⟨gl, 0, none⟩) (10 * m) (10 * m)] 241 ∧ Reads .i16 lo gl w vf (M.hsl m) ∧ Rows .i16 lo gl w vw ((List.range m).map (M.ws m))
def Joi (lo gl m : Nat) (l : List Int) (w : World) : Prop :=
  lo ≤ gl ∧ gl + 2 ≤ w.heap.size ∧ Blk w gl (enc .i32 l).toArray 21 ∧ l.length = 20 * m ∧ M.fits32 l ∧
    ∃ vf vw, Blk w (gl + 1) #[.int .i64 m, vf, vw, .slice (some ⟨gl, 0, none⟩) (20 * m) (20 * m)] 254 ∧ Reads .i16 lo gl w vf (M.hsl m) ∧ Rows .i16 lo gl w vw ((List.range (2 * m)).map (M.wj m))
theorem Spl.keep {lo gl m : Nat} {xs : List Int} {w w' : World} (h : Spl lo gl m xs w) (hs : w.heap.size ≤ w'.heap.size) (hk : ∀ b, lo ≤ b → b < gl + 2 → w'.heap[b]? = w.heap[b]?) : Spl lo gl m xs w' := by
  obtain ⟨h0, h1, h2, h3, h4, vf, vw, h5, h6, h7⟩ := h
  exact ⟨h0, by omega, (hk gl (by omega) (by omega)).trans h2, h3, h4, vf, vw, (hk (gl + 1) (by omega) (by omega)).trans h5, h6.keep fun b k0 k1 => hk b k0 (by omega), h7.keep fun b k0 k1 => hk b k0 (by omega)⟩
theorem Joi.keep {lo gl m : Nat} {xs : List Int} {w w' : World} (h : Joi lo gl m xs w) (hs : w.heap.size ≤ w'.heap.size) (hk : ∀ b, lo ≤ b → b < gl + 2 → w'.heap[b]? = w.heap[b]?) : Joi lo gl m xs w' := by
  obtain ⟨h0, h1, h2, h3, h4, vf, vw, h5, h6, h7⟩ := h
  exact ⟨h0, by omega, (hk gl (by omega) (by omega)).trans h2, h3, h4, vf, vw, (hk (gl + 1) (by omega) (by omega)).trans h5, h6.keep fun b k0 k1 => hk b k0 (by omega), h7.keep fun b k0 k1 => hk b k0 (by omega)⟩
theorem Spl.but {lo gl m g : Nat} {xs : List Int} {w w' : World} (h : Spl lo gl m xs w) (hb : But g w w') (hg : g < lo ∨ gl + 2 ≤ g) : Spl lo gl m xs w' :=
  h.keep hb.size fun b h0 h1 => hb.block b (by have := h.2.1; omega) (by omega)
theorem Joi.but {lo gl m g : Nat} {xs : List Int} {w w' : World} (h : Joi lo gl m xs w) (hb : But g w w') (hg : g < lo ∨ gl + 2 ≤ g) : Joi lo gl m xs w' :=
  h.keep hb.size fun b h0 h1 => hb.block b (by have := h.2.1; omega) (by omega)
theorem Spl.below {lo gl m B : Nat} {xs : List Int} {w w' : World} (h : Spl lo gl m xs w) (hb : Below B w w') (hg : gl + 2 ≤ B) : Spl lo gl m xs w' :=
  h.keep hb.size fun b h0 h1 => hb.block b (by omega)
theorem Joi.below {lo gl m B : Nat} {xs : List Int} {w w' : World} (h : Joi lo gl m xs w) (hb : Below B w w') (hg : gl + 2 ≤ B) : Joi lo gl m xs w' :=
  h.keep hb.size fun b h0 h1 => hb.block b (by omega)
theorem Spl.drewN {lo gl m : Nat} {xs : List Int} {w : World} (h : Spl lo gl m xs w) (n : Nat) : Spl lo gl m xs (w.drewN n) := h
theorem Joi.drewN {lo gl m : Nat} {xs : List Int} {w : World} (h : Joi lo gl m xs w) (n : Nat) : Joi lo gl m xs (w.drewN n) := h

theorem mid_rows {m M8 b N C L : Nat} {K : FuncId} {f : Nat → Nat → Int} {w w2 : World} {vt : Value} (hm : (m = 4 ∧ M8 = 32) ∨ (m = 8 ∧ M8 = 64)) (hbw : b < w.heap.size) (hb : But b (w.alloc (.cells #[.int .i64 m] 3)) w2)
    (ht : Reads .i16 (w.heap.size + 1) w2.heap.size w2 vt (M.tn m)) (hK : (K = 143 ∧ f = fun i j : Nat => M.wv m (2 * (i : Int) + 1) (2 * (j : Int) - m)) ∨ (K = 152 ∧ f = fun i j : Nat => M.wv m (2 * (j : Int) + 1) (2 * (i : Int) + m))) (hC : C ≤ 16) (hL : L ≤ 16) :
    Calls Tryz.prog 142 #[.int .i64 (C : Int), .int .i64 (L : Int), .func (.func K) #[] #[.pointer (some ⟨w2.heap.size, 0, none⟩), .pointer (some ⟨w.heap.size, 0, none⟩)]] (w2.alloc (.cells #[vt] 55)) fun e w' =>
      e = .returned (.slice (some ⟨w2.heap.size + 1, 0, none⟩) C C) ∧ Rows .i16 (w2.heap.size + 1) w'.heap.size w' (.slice (some ⟨w2.heap.size + 1, 0, none⟩) C C) ((List.range C).map fun i => (List.range L).map (f i)) ∧
        Below (w2.heap.size + 1) (w2.alloc (.cells #[vt] 55)) w' ∧ w'.cell? ⟨w.heap.size, 0, none⟩ = some (.int .i64 m) := by
  have hsz : (w2.alloc (.cells #[vt] 55)).heap.size = w2.heap.size + 1 := by simp
  have hs2 := hb.size
  simp only [alloc_size] at hs2
  have cm : w2.cell? ⟨w.heap.size, 0, none⟩ = some (.int .i64 m) := (hb.blk (Blk.new w _ _) (by omega)).cell (o := 0) rfl
  have cm3 : (w2.alloc (.cells #[vt] 55)).cell? ⟨w.heap.size, 0, none⟩ = some (.int .i64 m) := Lib.cell?_alloc_some _ cm
  have ct3 : (w2.alloc (.cells #[vt] 55)).cell? ⟨w2.heap.size, 0, none⟩ = some vt := (Blk.new w2 #[vt] 55).cell (o := 0) rfl
  have ht3 : Reads .i16 (w.heap.size + 1) w2.heap.size (w2.alloc (.cells #[vt] 55)) vt (M.tn m) := ht.below ((Below.refl _ _).alloc (Nat.le_refl w2.heap.size) _) (Nat.le_refl _)
  have hf : ∀ i j, i < C → j < L → -32768 ≤ f i j ∧ f i j ≤ 32767 := by
    intro i j _ _
    rcases hK with ⟨_, rfl⟩ | ⟨_, rfl⟩
    · have := M.wv_bd (m := (m : Int)) (a := 2 * (i : Int) + 1) (b := 2 * (j : Int) - m) (by omega)
      show -32768 ≤ M.wv _ _ _ ∧ M.wv _ _ _ ≤ 32767
      omega
    · have := M.wv_bd (m := (m : Int)) (a := 2 * (j : Int) + 1) (b := 2 * (i : Int) + m) (by omega)
      show -32768 ≤ M.wv _ _ _ ∧ M.wv _ _ _ ≤ 32767
      omega
  have hr := rows_any C L w2.heap.size w.heap.size K f (w2.alloc (.cells #[vt] 55)) (by exact hK.elim (fun h => .inl h.1) (fun h => .inr h.1)) hC hL (by
    intro wx i j hbx hi hj
    rw [hsz] at hbx
    have ht4 := ht3.below hbx (by omega)
    have ct4 : wx.cell? ⟨w2.heap.size, 0, none⟩ = some vt := (cell_keep (hbx.block _ (by omega))).trans ct3
    have cm4 : wx.cell? ⟨w.heap.size, 0, none⟩ = some (.int .i64 m) := (cell_keep (hbx.block _ (by omega))).trans cm3
    rcases hK with ⟨rfl, rfl⟩ | ⟨rfl, rfl⟩
    · exact splitWave m M8 _ _ i j _ _ vt wx hm ht4 ct4 cm4 (by omega) (by omega)
    · exact joinWave m M8 _ _ i j _ _ vt wx hm ht4 ct4 cm4 (by omega) (by omega))
  rw [hsz] at hr
  refine hr.mono ?_
  rintro e w' ⟨rfl, hU, hs⟩
  refine ⟨rfl, ?_, hU.1, (cell_keep (hU.1.block _ (by omega))).trans cm3⟩
  rw [hs]
  exact hU.rows hf

end Poly
end Go.Proofs.YtcaifpjbjghhaaaGreatDoor

/-
  New splitters and joiners on a bank that already told tables. Conditions: the polynomial's numbers stand as their initialiser lays them; one goroutine.
-/
namespace Go.Proofs.YtcaifpjbjghhaaaGreatDoor
set_option linter.unusedVariables false
open Go.RowKit
namespace Poly
open Bank (Blk But)

set_option maxRecDepth 100000 in
theorem ask_at (m M8 b N : Nat) (D : List (Nat × Nat)) (t : Int) (w : World) (hm : (m = 4 ∧ M8 = 32) ∨ (m = 8 ∧ M8 = 64)) (hT : Wave.Tab w) (hB : Bank.Bank b D t N w) (hD : D.length ≤ 900) (t0 : 0 ≤ t) (t1 : t ≤ 900) :
    Calls Tryz.prog 141 #[.pointer (some ⟨b, 0, none⟩), .int .i64 m] w fun e w' => ∃ vf vt, e = .returned (.tuple #[vf, vt, .int .i64 0]) ∧
      Reads .i16 w.heap.size w'.heap.size w' vf (M.hsl m) ∧ Reads .i16 w.heap.size w'.heap.size w' vt (M.tn m) ∧ (∃ X, Bank.Bank b (Bank.ins (Bank.ins D 2 m) 0 M8) (t + 2) X w') ∧ But b w w' := by
  have hbw : b < w.heap.size := by have := hB.1; have := hB.2.1; omega
  have hans := Bank.filter_ok m b D t N w (.inr (.inr ⟨rfl, by omega⟩)) hT hB (by omega) (by omega) (by omega)
  have nT : 2 ≠ b := by
    obtain ⟨_, _, cur, h3, h4, _⟩ := hB
    exact Bank.tab_ne hT h3 (by omega)
  have hnext : ∀ v w1, Bank.Told b 2 m D t v w w1 → Reads .i16 w.heap.size w1.heap.size w1 v (M.hsl m) ∧ But b w w1 ∧
      Calls Tryz.prog 188 #[.pointer (some ⟨b, 0, none⟩), .int .i64 M8] w1 fun e w' => ∃ v, e = .returned (.tuple #[v, .int .i64 0]) ∧ Reads .i16 w.heap.size w'.heap.size w' v (M.tn m) ∧ (∃ X, Bank.Bank b (Bank.ins (Bank.ins D 2 m) 0 M8) (t + 2) X w') ∧ But b w1 w' := by
    rintro v w1 ⟨X, h1, h2, h3, h4⟩
    have e1 : M.ts 2 m = (M.hsl m).length := by rw [M.hsl_length]; rfl
    rw [tabl_hs, e1] at h1
    have r1 := (reads_own h1 (fit16.2 (hs_fits m))).mono h2 (Nat.le_refl _)
    refine ⟨r1, h4, ?_⟩
    have hM : M8 = 8 * m := by omega
    have hl : (Bank.ins D 2 m).length ≤ D.length + 1 := by unfold Bank.ins; split <;> simp
    have ht := Bank.turn_ok M8 b (Bank.ins D 2 m) (t + 1) X w1 (.inl ⟨rfl, by omega, by omega, by omega⟩) (h4.tab hT nT) h3 (by omega) (by omega) (by omega)
    refine ht.mono ?_
    rintro e w2 ⟨v2, rfl, X2, k1, k2, k3, k4⟩
    have e2 : M.ts 0 M8 = (M.tn m).length := by rw [M.tn_length]; exact hM
    rw [e2, hM, tabl_tn] at k1
    have hs1 := h4.size
    rw [show t + 1 + 1 = t + 2 by omega] at k3
    exact ⟨v2, rfl, (reads_own k1 (fit16.2 (tn_fits (by omega)))).mono (by omega) (Nat.le_refl _), ⟨X2, by first | exact k3 | (rw [hM]; exact k3)⟩, k4⟩
  have HN : Hid _ := hnext
  have hM : 8 * (m : Int) = (M8 : Int) := by omega
  have m1 : (m : Int) ≤ 8 := by omega
  clear hnext hT hB
  go_enter Tryz.func141, Tryz.ntmps141
  go_wp2_with (first
    | (go_at_call 187; refine hans.mono ?_; rintro e w1 ⟨vf, rfl, ht⟩; obtain ⟨r1, bt1, hturn⟩ := HN.out vf w1 ht; clear HN ht)
    | (go_at_call 188; refine hturn.mono ?_; rintro e w2 ⟨vt, rfl, r2, hX, bt2⟩; have HX : Hid _ := hX; clear hX))
  go_ret3
  have hs1 := bt1.size
  have hs2 := bt2.size
  exact ⟨_, _, rfl, (r1.but bt2 (Nat.le_refl _) (.inl hbw)).mono (Nat.le_refl _) hs2, r2, HX.out, bt1.trans bt2⟩

set_option maxRecDepth 100000 in
set_option maxHeartbeats 1000000 in
theorem newSplitter_at (m M2 M8 M10 b N : Nat) (D : List (Nat × Nat)) (t : Int) (w : World) (hm : (m = 4 ∧ M2 = 8 ∧ M8 = 32 ∧ M10 = 40) ∨ (m = 8 ∧ M2 = 16 ∧ M8 = 64 ∧ M10 = 80)) (hT : Wave.Tab w) (hB : Bank.Bank b D t N w) (hD : D.length ≤ 900) (t0 : 0 ≤ t) (t1 : t ≤ 900) :
    Calls Tryz.prog 84 #[.pointer (some ⟨b, 0, none⟩), .int .i64 m] w fun e w' => ∃ gl, e = .returned (.tuple #[.pointer (some ⟨gl + 1, 0, none⟩), .int .i64 0]) ∧
      Spl w.heap.size gl m (List.replicate (10 * m) 0) w' ∧ w'.heap.size = gl + 2 ∧ (∃ X, Bank.Bank b (Bank.ins (Bank.ins D 2 m) 0 M8) (t + 2) X w') ∧ But b w w' := by
  have hbw : b < w.heap.size := by have := hB.1; have := hB.2.1; omega
  obtain ⟨hB1, hT1, bt0⟩ := Bank.boxed hB hT #[.int .i64 m] 3
  have hask := ask_at m M8 b N D t (w.alloc (.cells #[.int .i64 m] 3)) (by omega) hT1 hB1 hD t0 t1
  have hc0 : (w.alloc (.cells #[.int .i64 m] 3)).cell? ⟨w.heap.size, 0, none⟩ = some (.int .i64 m) := (Blk.new w #[.int .i64 m] 3).cell (o := 0) rfl
  have hnext : ∀ vf vt w2, Reads .i16 (w.alloc (.cells #[.int .i64 m] 3)).heap.size w2.heap.size w2 vf (M.hsl m) → Reads .i16 (w.alloc (.cells #[.int .i64 m] 3)).heap.size w2.heap.size w2 vt (M.tn m) → But b (w.alloc (.cells #[.int .i64 m] 3)) w2 → (∃ X, Bank.Bank b (Bank.ins (Bank.ins D 2 m) 0 M8) (t + 2) X w2) →
      (w2.alloc (.cells #[vt] 55)).cell? ⟨w.heap.size, 0, none⟩ = some (.int .i64 m) ∧
      Calls Tryz.prog 142 #[.int .i64 m, .int .i64 M2, .func (.func 143) #[] #[.pointer (some ⟨w2.heap.size, 0, none⟩), .pointer (some ⟨w.heap.size, 0, none⟩)]] (w2.alloc (.cells #[vt] 55)) fun e w' =>
        e = .returned (.slice (some ⟨w2.heap.size + 1, 0, none⟩) m m) ∧ w'.cell? ⟨w.heap.size, 0, none⟩ = some (.int .i64 m) ∧
          ∀ n, Spl w.heap.size w'.heap.size m (List.replicate (10 * m) 0) (((w'.drewN n).alloc (.cells (enc .i16 (List.replicate M10 0)).toArray 182)).alloc (.cells #[.int .i64 m, vf, .slice (some ⟨w2.heap.size + 1, 0, none⟩) m m, .slice (some ⟨w'.heap.size, 0, none⟩) M10 M10] 241)) ∧ But b w (((w'.drewN n).alloc (.cells (enc .i16 (List.replicate M10 0)).toArray 182)).alloc (.cells #[.int .i64 m, vf, .slice (some ⟨w2.heap.size + 1, 0, none⟩) m m, .slice (some ⟨w'.heap.size, 0, none⟩) M10 M10] 241)) ∧ (∃ X, Bank.Bank b (Bank.ins (Bank.ins D 2 m) 0 M8) (t + 2) X (((w'.drewN n).alloc (.cells (enc .i16 (List.replicate M10 0)).toArray 182)).alloc (.cells #[.int .i64 m, vf, .slice (some ⟨w2.heap.size + 1, 0, none⟩) m m, .slice (some ⟨w'.heap.size, 0, none⟩) M10 M10] 241))) := by
    rintro vf vt w2 rf rt hb ⟨X2, hX2⟩
    have hs2 := hb.size
    simp only [alloc_size] at hs2 rf rt
    have cm : w2.cell? ⟨w.heap.size, 0, none⟩ = some (.int .i64 m) := (hb.blk (Blk.new w _ _) (by omega)).cell (o := 0) rfl
    refine ⟨Lib.cell?_alloc_some _ cm, (mid_rows (M8 := M8) (C := m) (L := M2) (N := N) (by omega) hbw hb rt (.inl ⟨rfl, rfl⟩) (by omega) (by omega)).mono ?_⟩
    rintro e w' ⟨rfl, hrows, hbel, hcm⟩
    have hs3 := hbel.size
    simp only [alloc_size] at hs3
    have e10 : M10 = 10 * m := by omega
    have e2 : M2 = 2 * m := by omega
    refine ⟨rfl, hcm, fun n => ⟨⟨by omega, by simp, ?_, by simp, zeros16 _, vf, .slice (some ⟨w2.heap.size + 1, 0, none⟩) m m, ?_, ?_, ?_⟩, ?_, X2, ?_⟩⟩
    · rw [e10]
      exact (Blk.new (w'.drewN n) _ _).alloc _
    · rw [← e10]
      have := Blk.new ((w'.drewN n).alloc (.cells (enc .i16 (List.replicate M10 0)).toArray 182)) #[.int .i64 m, vf, .slice (some ⟨w2.heap.size + 1, 0, none⟩) m m, .slice (some ⟨w'.heap.size, 0, none⟩) M10 M10] 241
      rw [alloc_size] at this
      exact this
    · have bF := two_new w' n (enc .i16 (List.replicate M10 0)).toArray #[.int .i64 m, vf, .slice (some ⟨w2.heap.size + 1, 0, none⟩) m m, .slice (some ⟨w'.heap.size, 0, none⟩) M10 M10] 182 241
      exact (((rf.below ((Below.refl _ _).alloc (Nat.le_refl w2.heap.size) (.cells #[vt] 55)) (Nat.le_refl _)).below hbel (by omega)).below bF (by omega)).mono (by omega) (by omega)
    · have bF := two_new w' n (enc .i16 (List.replicate M10 0)).toArray #[.int .i64 m, vf, .slice (some ⟨w2.heap.size + 1, 0, none⟩) m m, .slice (some ⟨w'.heap.size, 0, none⟩) M10 M10] 182 241
      rw [e2] at hrows
      exact (hrows.below bF (Nat.le_refl _)).mono (by omega) (Nat.le_refl _)
    · have bF := two_new w' n (enc .i16 (List.replicate M10 0)).toArray #[.int .i64 m, vf, .slice (some ⟨w2.heap.size + 1, 0, none⟩) m m, .slice (some ⟨w'.heap.size, 0, none⟩) M10 M10] 182 241
      exact But.below' (But.below' (But.below' (bt0.trans hb) ((Below.refl _ _).alloc (Nat.le_refl w2.heap.size) (.cells #[vt] 55)) (by omega)) hbel (by omega)) bF (by omega)
    · have bF := two_new w' n (enc .i16 (List.replicate M10 0)).toArray #[.int .i64 m, vf, .slice (some ⟨w2.heap.size + 1, 0, none⟩) m m, .slice (some ⟨w'.heap.size, 0, none⟩) M10 M10] 182 241
      exact ((hX2.below ((Below.refl _ _).alloc (Nat.le_refl w2.heap.size) (.cells #[vt] 55)) hX2.2.1).below hbel (by have := hX2.2.1; omega)).below bF (by have := hX2.2.1; omega)
  have HN : Hid _ := hnext
  have hmk : ∀ wx : World, (Instr.makeSlice 55 (.int .i64 M10) (.int .i64 M10)).run Tryz.prog wx = .ok (.slice (some ⟨wx.heap.size, 0, none⟩) M10 M10) (wx.alloc (.cells (enc .i16 (List.replicate M10 0)).toArray 182)) := fun wx => make16 wx M10 (by omega)
  generalize (enc .i16 (List.replicate M10 0)).toArray = cs at hmk HN
  have e2 : 2 * (m : Int) = (M2 : Int) := by omega
  have e10 : 10 * (m : Int) = (M10 : Int) := by omega
  have m1 : (m : Int) ≤ 8 := by omega
  have m2 : (M2 : Int) ≤ 16 := by omega
  have m3 : (M10 : Int) ≤ 80 := by omega
  clear hnext hT hB hB1 hT1 bt0 hm
  go_enter Tryz.func84, Tryz.ntmps84
  go_wp2_with (first
    | (go_at_call 141; refine hask.mono ?_; rintro e w2 ⟨vf, vt, rfl, rf, rt, hX, hb⟩; obtain ⟨fa, fc, rfl⟩ := rf.form; obtain ⟨ta, tc, rfl⟩ := rt.form; obtain ⟨hc2, hrows⟩ := HN.out _ _ w2 rf rt hb hX; clear HN rf rt hb hX hask hc0)
    | (go_at_call 142; refine hrows.mono ?_; rintro e w3 ⟨rfl, hc3, hS⟩; have hc4 : (w3.alloc (.cells cs 182)).cell? ⟨w.heap.size, 0, none⟩ = some (.int .i64 m) := Lib.cell?_alloc_some _ hc3; have HS : Hid _ := hS; clear hS hrows hc2))
  go_region
  all_goals
    go_wp2
    go_ret2
    exact ⟨w3.heap.size, rfl, (HS.out 1).1, by simp, (HS.out 1).2.2, (HS.out 1).2.1⟩

set_option maxRecDepth 100000 in
set_option maxHeartbeats 1000000 in
theorem newJoiner_at (m M2 M8 M20 b N : Nat) (D : List (Nat × Nat)) (t : Int) (w : World) (hm : (m = 4 ∧ M2 = 8 ∧ M8 = 32 ∧ M20 = 80) ∨ (m = 8 ∧ M2 = 16 ∧ M8 = 64 ∧ M20 = 160)) (hT : Wave.Tab w) (hB : Bank.Bank b D t N w) (hD : D.length ≤ 900) (t0 : 0 ≤ t) (t1 : t ≤ 900) :
    Calls Tryz.prog 91 #[.pointer (some ⟨b, 0, none⟩), .int .i64 m] w fun e w' => ∃ gl, e = .returned (.tuple #[.pointer (some ⟨gl + 1, 0, none⟩), .int .i64 0]) ∧
      Joi w.heap.size gl m (List.replicate (20 * m) 0) w' ∧ w'.heap.size = gl + 2 ∧ (∃ X, Bank.Bank b (Bank.ins (Bank.ins D 2 m) 0 M8) (t + 2) X w') ∧ But b w w' := by
  have hbw : b < w.heap.size := by have := hB.1; have := hB.2.1; omega
  obtain ⟨hB1, hT1, bt0⟩ := Bank.boxed hB hT #[.int .i64 m] 3
  have hask := ask_at m M8 b N D t (w.alloc (.cells #[.int .i64 m] 3)) (by omega) hT1 hB1 hD t0 t1
  have hc0 : (w.alloc (.cells #[.int .i64 m] 3)).cell? ⟨w.heap.size, 0, none⟩ = some (.int .i64 m) := (Blk.new w #[.int .i64 m] 3).cell (o := 0) rfl
  have hnext : ∀ vf vt w2, Reads .i16 (w.alloc (.cells #[.int .i64 m] 3)).heap.size w2.heap.size w2 vf (M.hsl m) → Reads .i16 (w.alloc (.cells #[.int .i64 m] 3)).heap.size w2.heap.size w2 vt (M.tn m) → But b (w.alloc (.cells #[.int .i64 m] 3)) w2 → (∃ X, Bank.Bank b (Bank.ins (Bank.ins D 2 m) 0 M8) (t + 2) X w2) →
      (w2.alloc (.cells #[vt] 55)).cell? ⟨w.heap.size, 0, none⟩ = some (.int .i64 m) ∧
      Calls Tryz.prog 142 #[.int .i64 M2, .int .i64 m, .func (.func 152) #[] #[.pointer (some ⟨w2.heap.size, 0, none⟩), .pointer (some ⟨w.heap.size, 0, none⟩)]] (w2.alloc (.cells #[vt] 55)) fun e w' =>
        e = .returned (.slice (some ⟨w2.heap.size + 1, 0, none⟩) M2 M2) ∧ w'.cell? ⟨w.heap.size, 0, none⟩ = some (.int .i64 m) ∧
          ∀ n, Joi w.heap.size w'.heap.size m (List.replicate (20 * m) 0) (((w'.drewN n).alloc (.cells (enc .i32 (List.replicate M20 0)).toArray 21)).alloc (.cells #[.int .i64 m, vf, .slice (some ⟨w2.heap.size + 1, 0, none⟩) M2 M2, .slice (some ⟨w'.heap.size, 0, none⟩) M20 M20] 254)) ∧ But b w (((w'.drewN n).alloc (.cells (enc .i32 (List.replicate M20 0)).toArray 21)).alloc (.cells #[.int .i64 m, vf, .slice (some ⟨w2.heap.size + 1, 0, none⟩) M2 M2, .slice (some ⟨w'.heap.size, 0, none⟩) M20 M20] 254)) ∧ (∃ X, Bank.Bank b (Bank.ins (Bank.ins D 2 m) 0 M8) (t + 2) X (((w'.drewN n).alloc (.cells (enc .i32 (List.replicate M20 0)).toArray 21)).alloc (.cells #[.int .i64 m, vf, .slice (some ⟨w2.heap.size + 1, 0, none⟩) M2 M2, .slice (some ⟨w'.heap.size, 0, none⟩) M20 M20] 254))) := by
    rintro vf vt w2 rf rt hb ⟨X2, hX2⟩
    have hs2 := hb.size
    simp only [alloc_size] at hs2 rf rt
    have cm : w2.cell? ⟨w.heap.size, 0, none⟩ = some (.int .i64 m) := (hb.blk (Blk.new w _ _) (by omega)).cell (o := 0) rfl
    refine ⟨Lib.cell?_alloc_some _ cm, (mid_rows (M8 := M8) (C := M2) (L := m) (N := N) (by omega) hbw hb rt (.inr ⟨rfl, rfl⟩) (by omega) (by omega)).mono ?_⟩
    rintro e w' ⟨rfl, hrows, hbel, hcm⟩
    have hs3 := hbel.size
    simp only [alloc_size] at hs3
    have e10 : M20 = 20 * m := by omega
    have e2 : M2 = 2 * m := by omega
    refine ⟨rfl, hcm, fun n => ⟨⟨by omega, by simp, ?_, by simp, zeros32 _, vf, .slice (some ⟨w2.heap.size + 1, 0, none⟩) M2 M2, ?_, ?_, ?_⟩, ?_, X2, ?_⟩⟩
    · rw [e10]
      exact (Blk.new (w'.drewN n) _ _).alloc _
    · rw [← e10]
      have := Blk.new ((w'.drewN n).alloc (.cells (enc .i32 (List.replicate M20 0)).toArray 21)) #[.int .i64 m, vf, .slice (some ⟨w2.heap.size + 1, 0, none⟩) M2 M2, .slice (some ⟨w'.heap.size, 0, none⟩) M20 M20] 254
      rw [alloc_size] at this
      exact this
    · have bF := two_new w' n (enc .i32 (List.replicate M20 0)).toArray #[.int .i64 m, vf, .slice (some ⟨w2.heap.size + 1, 0, none⟩) M2 M2, .slice (some ⟨w'.heap.size, 0, none⟩) M20 M20] 21 254
      exact (((rf.below ((Below.refl _ _).alloc (Nat.le_refl w2.heap.size) (.cells #[vt] 55)) (Nat.le_refl _)).below hbel (by omega)).below bF (by omega)).mono (by omega) (by omega)
    · have bF := two_new w' n (enc .i32 (List.replicate M20 0)).toArray #[.int .i64 m, vf, .slice (some ⟨w2.heap.size + 1, 0, none⟩) M2 M2, .slice (some ⟨w'.heap.size, 0, none⟩) M20 M20] 21 254
      have hr := (hrows.below bF (Nat.le_refl _)).mono (lo' := w.heap.size) (hi' := w'.heap.size) (by omega) (Nat.le_refl _)
      have e3 : ((List.range M2).map fun i : Nat => (List.range m).map fun j : Nat => M.wv m (2 * (j : Int) + 1) (2 * (i : Int) + m)) = (List.range (2 * m)).map (M.wj m) := by rw [e2]; rfl
      rw [← e3]
      exact hr
    · have bF := two_new w' n (enc .i32 (List.replicate M20 0)).toArray #[.int .i64 m, vf, .slice (some ⟨w2.heap.size + 1, 0, none⟩) M2 M2, .slice (some ⟨w'.heap.size, 0, none⟩) M20 M20] 21 254
      exact But.below' (But.below' (But.below' (bt0.trans hb) ((Below.refl _ _).alloc (Nat.le_refl w2.heap.size) (.cells #[vt] 55)) (by omega)) hbel (by omega)) bF (by omega)
    · have bF := two_new w' n (enc .i32 (List.replicate M20 0)).toArray #[.int .i64 m, vf, .slice (some ⟨w2.heap.size + 1, 0, none⟩) M2 M2, .slice (some ⟨w'.heap.size, 0, none⟩) M20 M20] 21 254
      exact ((hX2.below ((Below.refl _ _).alloc (Nat.le_refl w2.heap.size) (.cells #[vt] 55)) hX2.2.1).below hbel (by have := hX2.2.1; omega)).below bF (by have := hX2.2.1; omega)
  have HN : Hid _ := hnext
  have hmk : ∀ wx : World, (Instr.makeSlice 97 (.int .i64 M20) (.int .i64 M20)).run Tryz.prog wx = .ok (.slice (some ⟨wx.heap.size, 0, none⟩) M20 M20) (wx.alloc (.cells (enc .i32 (List.replicate M20 0)).toArray 21)) := fun wx => make32 wx M20 (by omega)
  generalize (enc .i32 (List.replicate M20 0)).toArray = cs at hmk HN
  have e2 : 2 * (m : Int) = (M2 : Int) := by omega
  have e10 : 20 * (m : Int) = (M20 : Int) := by omega
  have m1 : (m : Int) ≤ 8 := by omega
  have m2 : (M2 : Int) ≤ 16 := by omega
  have m3 : (M20 : Int) ≤ 160 := by omega
  clear hnext hT hB hB1 hT1 bt0 hm
  go_enter Tryz.func91, Tryz.ntmps91
  go_wp2_with (first
    | (go_at_call 141; refine hask.mono ?_; rintro e w2 ⟨vf, vt, rfl, rf, rt, hX, hb⟩; obtain ⟨fa, fc, rfl⟩ := rf.form; obtain ⟨ta, tc, rfl⟩ := rt.form; obtain ⟨hc2, hrows⟩ := HN.out _ _ w2 rf rt hb hX; clear HN rf rt hb hX hask hc0)
    | (go_at_call 142; refine hrows.mono ?_; rintro e w3 ⟨rfl, hc3, hS⟩; have hc4 : (w3.alloc (.cells cs 21)).cell? ⟨w.heap.size, 0, none⟩ = some (.int .i64 m) := Lib.cell?_alloc_some _ hc3; have HS : Hid _ := hS; clear hS hrows hc2))
  go_region
  all_goals
    go_wp2
    go_ret2
    exact ⟨w3.heap.size, rfl, (HS.out 1).1, by simp, (HS.out 1).2.2, (HS.out 1).2.1⟩

end Poly
end Go.Proofs.YtcaifpjbjghhaaaGreatDoor

/-
  Feeding a splitter; resetting it. Conditions: as told at each.
-/
namespace Go.Proofs.YtcaifpjbjghhaaaGreatDoor
set_option linter.unusedVariables false
open Go.RowKit
namespace Poly
open Bank (Blk But)

theorem Spl.cells {lo gl m : Nat} {xs : List Int} {w : World} (h : Spl lo gl m xs w) : w.cell? ⟨gl + 1, 0, none⟩ = some (.int .i64 m) ∧ w.cell? ⟨gl + 1, 3, none⟩ = some (.slice (some ⟨gl, 0, none⟩) (10 * m) (10 * m)) := by
  obtain ⟨h0, h1, h2, h3, h4, vf, vw, h5, h6, h7⟩ := h
  exact ⟨h5.cell (o := 0) rfl, h5.cell (o := 3) rfl⟩
theorem Spl.seen {lo gl m : Nat} {xs : List Int} {w : World} (h : Spl lo gl m xs w) : Seen m (gl + 1) lo gl (.slice (some ⟨gl, 0, none⟩) (10 * m) (10 * m)) w := by
  obtain ⟨h0, h1, h2, h3, h4, vf, vw, h5, h6, h7⟩ := h
  exact ⟨by omega, by omega, h5.cell (o := 0) rfl, h5.cell (o := 3) rfl, vf, h5.cell (o := 1) rfl, h6⟩
theorem Spl.relay {lo gl m : Nat} {xs ys : List Int} {w w' : World} (h : Spl lo gl m xs w) (hb : But gl w w') (hy : Blk w' gl (enc .i16 ys).toArray 182) (hl : ys.length = 10 * m) (hf : M.fits16 ys) : Spl lo gl m ys w' := by
  obtain ⟨h0, h1, h2, h3, h4, vf, vw, h5, h6, h7⟩ := h
  have hs := hb.size
  exact ⟨h0, by omega, hy, hl, hf, vf, vw, hb.blk h5 (by omega), h6.but hb (by omega) (.inr (Nat.le_refl _)), h7.but hb (by omega) (.inr (Nat.le_refl _))⟩

theorem folded_any {m M2 gl lo : Nat} {xs : List Int} {w : World} (hm : (m = 4 ∧ M2 = 8) ∨ (m = 8 ∧ M2 = 16)) (h : Spl lo gl m xs w) :
    Calls Tryz.prog 192 #[.pointer (some ⟨gl + 1, 0, none⟩)] w fun e w' => e = .returned (.slice (some ⟨w.heap.size, 0, none⟩) M2 M2) ∧
      Blk w' w.heap.size (enc .i32 (M.ys m xs)).toArray 21 ∧ Below w.heap.size w w' ∧ w'.heap.size = w.heap.size + 1 := by
  rcases hm with ⟨rfl, rfl⟩ | ⟨rfl, rfl⟩
  · exact folded_4 (gl + 1) gl lo gl xs w h.seen h.2.2.1 h.2.2.2.1 h.2.2.2.2.1
  · exact folded_8 (gl + 1) gl lo gl xs w h.seen h.2.2.1 h.2.2.2.1 h.2.2.2.2.1

theorem splSums {m M2 gl lo H : Nat} {xs : List Int} {w : World} (sp : Int) (hm : (m = 4 ∧ M2 = 8 ∧ sp = 17) ∨ (m = 8 ∧ M2 = 16 ∧ sp = 18)) (h : Spl lo gl m xs w) (hH : Blk w H (enc .i32 (M.ys m xs)).toArray 21) :
    Calls Tryz.prog 191 #[.pointer (some ⟨gl + 1, 0, none⟩), .slice (some ⟨H, 0, none⟩) M2 M2, .int .i64 sp] w fun e w' => e = .returned (.slice (some ⟨w.heap.size, 0, none⟩) m m) ∧
      Blk w' w.heap.size (enc .i32 (M.spl m xs)).toArray 21 ∧ Below w.heap.size w w' ∧ w'.heap.size = w.heap.size + 1 := by
  obtain ⟨h0, h1, h2, h3, h4, vf, vw, h5, h6, h7⟩ := h
  have hr := reads_blk hH (fit32.2 (M.ys_fits m xs))
  rw [M.ys_length, show 2 * m = M2 from by omega] at hr
  have hH' := hH.lt
  have e := sums_any (gl + 1) lo gl H (H + 1) vw _ (M.ys m xs) ((List.range m).map (M.ws m)) sp m w (h5.cell (o := 2) rfl) h7 hr (by
    intro i hi
    have hi : i < m := by simpa using hi
    have e : ((List.range m).map (M.ws m)).getD i [] = M.ws m i := by simp [List.getD, hi]
    rw [e, M.ws_length, M.ys_length]) (by omega) (by omega) (by rw [M.ys_length]; omega) (by simp; omega) (by simp; omega) (by omega) (by omega) (by simp)
  refine e.mono ?_
  rintro e w' ⟨rfl, hb, hbel, hs⟩
  refine ⟨rfl, ?_, hbel, hs⟩
  have e2 : ((List.range m).map fun i => M.sat32 (M.rnd (Dot.dotTo (M.ys m xs) (((List.range m).map (M.ws m)).getD i []) (M.ys m xs).length) sp)) = M.spl m xs := by
    unfold M.spl
    apply List.map_congr_left
    intro i hi
    have hi := List.mem_range.1 hi
    have e : ((List.range m).map (M.ws m)).getD i [] = M.ws m i := by simp [List.getD, hi]
    rw [e, M.ys_length]
    unfold M.sh
    rcases hm with ⟨rfl, rfl, rfl⟩ | ⟨rfl, rfl, rfl⟩ <;> rfl
  rw [e2] at hb
  exact hb

def Line (gl m k : Nat) (x xs : List Int) (w : World) : Prop :=
  ∃ cur : Array Value, Blk w gl cur 182 ∧ cur.size = 10 * m ∧ (∀ i, i < k → cur[m - 1 - i]? = some (.int .i16 (x.getD i 0))) ∧ ∀ p, m ≤ p → p < 10 * m → cur[p]? = some (.int .i16 (xs.getD (p - m) 0))
theorem line_start {gl m : Nat} {x xs : List Int} {w : World} (h : Blk w gl (enc .i16 (xs.take m ++ xs.take (10 * m - m))).toArray 182) (hl : xs.length = 10 * m) (hm : 1 ≤ m) : Line gl m 0 x xs w := by
  refine ⟨_, h, ?_, fun i hi => absurd hi (by omega), fun p h0 h1 => ?_⟩
  · simp [enc_length]; omega
  · rw [List.getElem?_toArray, enc_get (by simp; omega)]
    congr 2
    simp only [List.getD]
    rw [List.getElem?_append_right (by simp; omega), List.getElem?_take]
    simp only [List.length_take]
    rw [Nat.min_eq_left (by omega), if_pos (by omega)]
theorem Line.step {gl m k : Nat} {x xs : List Int} {w : World} (h : Line gl m k x xs w) (hk : k < m) {ix : Nat} (hix : ix = m - 1 - k) : Line gl m (k + 1) x xs (w.setCell ⟨gl, ix, none⟩ (.int .i16 (x.getD k 0))) := by
  obtain ⟨cur, h1, h2, h3, h4⟩ := h
  subst hix
  refine ⟨_, h1.set _ _, by simpa using h2, fun i hi => ?_, fun p h0 h5 => ?_⟩
  · rw [Array.getElem?_setIfInBounds]
    split
    · have : i = k := by omega
      subst this; rw [if_pos (by omega)]
    · exact h3 i (by omega)
  · rw [Array.getElem?_setIfInBounds, if_neg (by omega)]
    exact h4 p h0 h5
theorem Line.whole {gl m : Nat} {x xs : List Int} {w : World} (h : Line gl m m x xs w) (hx : x.length = m) (hl : xs.length = 10 * m) : Blk w gl (enc .i16 (M.nx m x xs)).toArray 182 := by
  obtain ⟨cur, h1, h2, h3, h4⟩ := h
  have e : cur = (enc .i16 (M.nx m x xs)).toArray := by
    apply Array.ext'
    apply List.ext_getElem?
    intro p
    by_cases hp : p < 10 * m
    · rw [Array.getElem?_toList, enc_get (by rw [M.nx_length hl]; exact hp)]
      by_cases hpm : p < m
      · have := h3 (m - 1 - p) (by omega)
        rw [show m - 1 - (m - 1 - p) = p from by omega] at this
        rw [this]
        congr 2
        simp only [M.nx, List.getD]
        rw [List.getElem?_take, if_pos hp, List.getElem?_append_left (by simp; omega), List.getElem?_reverse (by omega), hx]
      · rw [h4 p (by omega) hp]
        congr 2
        simp only [M.nx, List.getD]
        rw [List.getElem?_take, if_pos hp, List.getElem?_append_right (by simp; omega)]
        simp [hx]
    · rw [List.getElem?_eq_none (by simp; omega), List.getElem?_eq_none (by rw [enc_length, M.nx_length hl]; omega)]
  rw [← e]; exact h1
theorem Line.cell {gl m k : Nat} {x xs : List Int} {w : World} (h : Line gl m k x xs w) {ix : Nat} (hix : ix < 10 * m) : (∃ u, w.cell? ⟨gl, ix, none⟩ = some u) ∧ w.frozen? ⟨gl, ix, none⟩ = false := by
  obtain ⟨cur, h1, h2, _⟩ := h
  exact ⟨⟨cur[ix]'(by omega), h1.cell (by simp [h2, hix])⟩, h1.free ix⟩

set_option maxRecDepth 100000 in
set_option maxHeartbeats 1000000 in
theorem splitFeed (m M2 M10 lo gl lo' hi' : Nat) (sp : Int) (x xs : List Int) (vx : Value) (w : World) (hm : (m = 4 ∧ M2 = 8 ∧ M10 = 40 ∧ sp = 17) ∨ (m = 8 ∧ M2 = 16 ∧ M10 = 80 ∧ sp = 18)) (h : Spl lo gl m xs w) (hx : Reads .i16 lo' hi' w vx x) (hxl : x.length = m) (h1 : hi' ≤ w.heap.size) (hg : gl < lo' ∨ hi' ≤ gl) :
    Calls Tryz.prog 148 #[.pointer (some ⟨gl + 1, 0, none⟩), vx] w fun e w' => ∃ v, e = .returned (.tuple #[v, .int .i64 0]) ∧ Spl lo gl m (M.nx m x xs) w' ∧ But gl w w' ∧ Reads .i32 w.heap.size w'.heap.size w' v (M.spl m (M.nx m x xs)) := by
  obtain ⟨c0, c3⟩ := h.cells
  have e10 : 10 * m = M10 := by omega
  rw [e10] at c3
  obtain ⟨ax, cx, rfl⟩ := hx.form
  obtain ⟨bx, ox, rfl, q0, q1, hcx⟩ := hx.cell (by omega)
  rw [hxl] at hcx ⊢
  have hmv := moveOn16 gl m xs w h.2.2.1 (by have := h.2.2.2.1; omega) (by have := h.2.2.2.1; omega)
  rw [h.2.2.2.1, e10] at hmv
  have hlen := h.2.2.2.1
  have hxf : M.fits16 x := by obtain ⟨_, _, _, _, hw, _⟩ := hx; exact fit16.1 hw
  have hw1 : Line gl m 0 x xs (w.setRow gl (enc .i16 (xs.take m ++ xs.take (M10 - m))).toArray) := by
    rw [← e10]; exact line_start (Blk.setRow h.2.2.1 _) hlen (by omega)
  have hb1 : But gl w (w.setRow gl (enc .i16 (xs.take m ++ xs.take (M10 - m))).toArray) := But.setRow (Bank.But.refl _ _) _
  have hpt : ((((m : Int) == 4) = true) ∧ sp = 17) ∨ ((((m : Int) == 4) = false) ∧ sp = 18) := by
    rcases hm with ⟨rfl, _, _, rfl⟩ | ⟨rfl, _, _, rfl⟩
    · exact .inl ⟨rfl, rfl⟩
    · exact .inr ⟨rfl, rfl⟩
  have hend : ∀ wr, Line gl m m x xs wr → But gl w wr → Spl lo gl m (M.nx m x xs) wr := fun wr hL hb =>
    h.relay hb (hL.whole hxl hlen) (M.nx_length hlen) (M.nx_fits hxf h.2.2.2.2.1)
  have hcells : ∀ wr, But gl w wr → wr.cell? ⟨gl + 1, 0, none⟩ = some (.int .i64 m) ∧ wr.cell? ⟨gl + 1, 3, none⟩ = some (.slice (some ⟨gl, 0, none⟩) M10 M10) ∧ ∀ i, i < m → wr.cell? ⟨bx, ox + i, none⟩ = some (.int .i16 (x.getD i 0)) := by
    intro wr hb
    have k := hb.block (gl + 1) (by have := h.2.1; omega) (by omega)
    exact ⟨(cell_keep k).trans c0, (cell_keep k).trans c3, fun i hi => (cell_keep (hb.block bx (by omega) (by omega))).trans (hcx i hi)⟩
  generalize w.setRow gl (enc .i16 (xs.take m ++ xs.take (M10 - m))).toArray = w1 at hmv hw1 hb1
  have HE : Hid _ := hend
  have HC : Hid _ := hcells
  have HM : Hid _ := hm
  have m1 : (m : Int) ≤ 8 := by omega
  have m0 : (1 : Int) ≤ m := by omega
  have m3 : (M10 : Int) ≤ 80 := by omega
  have m4 : (m : Int) ≤ M10 := by omega
  have hml : m ≤ M10 := by omega
  have hne : ((m : Int) != (m : Int)) = false := by simp
  obtain ⟨c10, c13, _⟩ := HC.out w1 hb1
  clear hend hcells hcx hx hm h hxf hlen
  go_enter Tryz.func148, Tryz.ntmps148
  go_wp2_with (go_at_call 190; refine hmv.mono ?_; rintro e w' ⟨rfl, hw'⟩; subst hw')
  go_loopw [28] (fun i wr => ∃ k : Nat, k ≤ m ∧ i = .int .i64 k ∧ Line gl m k x xs wr ∧ But gl w wr) (fun i _ => m - (intOf i).toNat)
  case atStart => exact ⟨0, by omega, rfl, hw1, hb1⟩
  case round =>
    clear hmv hw1 hb1 c10 c13
    obtain ⟨k, hk, rfl, hL, hb⟩ := hrel
    obtain ⟨k0, k3, kx⟩ := HC.out wr hb
    by_cases hlt : k < m
    · have hlt' : (k : Int) < m := by omega
      have qx := kx k hlt
      obtain ⟨ix, hix⟩ : ∃ ix : Nat, ix = m - 1 - k := ⟨_, rfl⟩
      have hix' : (m : Int) - 1 - (k : Int) = (ix : Int) := by omega
      have hb0 : (0 : Int) ≤ ix ∧ (ix : Int) < M10 := by omega
      obtain ⟨⟨u, hu⟩, hfz⟩ := hL.cell (ix := ix) (by omega)
      have HIX : Hid (ix = m - 1 - k) := hix
      have hstep := hL.step hlt hix
      have HS : Hid _ := hstep
      generalize x.getD k 0 = y at qx HS
      clear kx HE hix hstep hL
      go_wp2
      go_roundw
      case rel => exact ⟨k + 1, by omega, by go_num, HS.out, hb.set (.inl rfl) _⟩
      case measure => simp [intOf]; omega
    · obtain rfl : k = m := by omega
      have hS := HE.out wr hL hb
      have hfold := folded_any (M2 := M2) (by have := HM.out; omega) (hS.drewN 1)
      have hsum : ∀ w2, Blk w2 wr.heap.size (enc .i32 (M.ys k (M.nx k x xs))).toArray 21 → Below wr.heap.size (wr.drewN 1) w2 → w2.heap.size = wr.heap.size + 1 → Calls Tryz.prog 191 #[.pointer (some ⟨gl + 1, 0, none⟩), .slice (some ⟨wr.heap.size, 0, none⟩) M2 M2, .int .i64 sp] w2 fun e w' =>
          ∃ v, e = .returned v ∧ Spl lo gl k (M.nx k x xs) w' ∧ But gl w w' ∧ Reads .i32 w.heap.size w'.heap.size w' v (M.spl k (M.nx k x xs)) := by
        intro w2 hb2 hbel hs2
        have hS2 : Spl lo gl k (M.nx k x xs) w2 := (hS.drewN 1).below hbel hS.2.1
        refine (splSums sp (by have := HM.out; omega) hS2 hb2).mono ?_
        rintro e w3 ⟨rfl, hb3, hbel3, hs3⟩
        have hws := hb.size
        refine ⟨_, rfl, hS2.below hbel3 hS2.2.1, ?_, ?_⟩
        · exact But.below' (But.below' (hb.drewN 1) hbel hws) hbel3 (by omega)
        · have hr := reads_blk hb3 (fit32.2 (M.spl_fits k _))
          rw [M.spl_length] at hr
          exact hr.mono (by omega) (by omega)
      have HS : Hid _ := hsum
      clear hsum kx HE HC hS
      rcases hpt with ⟨h4, rfl⟩ | ⟨h4, rfl⟩
      · go_wp2
        go_region_with (first
          | (go_at_call 192; refine hfold.mono ?_; rintro e w2 ⟨rfl, g1, g2, g3⟩; have hsum2 := HS.out w2 g1 g2 g3; clear g1 g2 g3)
          | (go_at_call 191; refine hsum2.mono ?_; rintro e w3 ⟨v, rfl, hfin⟩))
        all_goals
          go_wp2
          go_ret2
          exact ⟨v, rfl, hfin⟩
      · go_wp2
        go_region_with (first
          | (go_at_call 192; refine hfold.mono ?_; rintro e w2 ⟨rfl, g1, g2, g3⟩; have hsum2 := HS.out w2 g1 g2 g3; clear g1 g2 g3)
          | (go_at_call 191; refine hsum2.mono ?_; rintro e w3 ⟨v, rfl, hfin⟩))
        all_goals
          go_wp2
          go_ret2
          exact ⟨v, rfl, hfin⟩

end Poly
end Go.Proofs.YtcaifpjbjghhaaaGreatDoor

/-
  Feeding a joiner; resets. Conditions: as told at each.
-/
namespace Go.Proofs.YtcaifpjbjghhaaaGreatDoor
set_option linter.unusedVariables false
open Go.RowKit
namespace Poly
open Bank (Blk But)

theorem Joi.cells {lo gl m : Nat} {xs : List Int} {w : World} (h : Joi lo gl m xs w) : w.cell? ⟨gl + 1, 0, none⟩ = some (.int .i64 m) ∧ w.cell? ⟨gl + 1, 3, none⟩ = some (.slice (some ⟨gl, 0, none⟩) (20 * m) (20 * m)) := by
  obtain ⟨h0, h1, h2, h3, h4, vf, vw, h5, h6, h7⟩ := h
  exact ⟨h5.cell (o := 0) rfl, h5.cell (o := 3) rfl⟩
theorem Joi.seen {lo gl m : Nat} {xs : List Int} {w : World} (h : Joi lo gl m xs w) : Seen m (gl + 1) lo gl (.slice (some ⟨gl, 0, none⟩) (20 * m) (20 * m)) w := by
  obtain ⟨h0, h1, h2, h3, h4, vf, vw, h5, h6, h7⟩ := h
  exact ⟨by omega, by omega, h5.cell (o := 0) rfl, h5.cell (o := 3) rfl, vf, h5.cell (o := 1) rfl, h6⟩
theorem Joi.relay {lo gl m : Nat} {xs ys : List Int} {w w' : World} (h : Joi lo gl m xs w) (hb : But gl w w') (hy : Blk w' gl (enc .i32 ys).toArray 21) (hl : ys.length = 20 * m) (hf : M.fits32 ys) : Joi lo gl m ys w' := by
  obtain ⟨h0, h1, h2, h3, h4, vf, vw, h5, h6, h7⟩ := h
  have hs := hb.size
  exact ⟨h0, by omega, hy, hl, hf, vf, vw, hb.blk h5 (by omega), h6.but hb (by omega) (.inr (Nat.le_refl _)), h7.but hb (by omega) (.inr (Nat.le_refl _))⟩

theorem sample_any {m gl lo j : Nat} {l : List Int} {w : World} (hm : m = 4 ∨ m = 8) (h : Joi lo gl m l w) (hj : j < m) :
    Calls Tryz.prog 196 #[.pointer (some ⟨gl + 1, 0, none⟩), .int .i64 j] w fun e w' => e = .returned (.int .i16 (M.sat16 (M.rnd (M.fj m l j 5) 14))) ∧ ∃ n, w' = w.drewN n := by
  rcases hm with rfl | rfl
  · exact sample_4 (gl + 1) gl lo gl j l w h.seen h.2.2.1 h.2.2.2.1 h.2.2.2.2.1 hj
  · exact sample_8 (gl + 1) gl lo gl j l w h.seen h.2.2.1 h.2.2.2.1 h.2.2.2.2.1 hj

theorem joiSums {m M2 gl lo lo' hi' : Nat} {l s : List Int} {vs : Value} {w : World} (hm : (m = 4 ∧ M2 = 8) ∨ (m = 8 ∧ M2 = 16)) (h : Joi lo gl m l w) (hr : Reads .i32 lo' hi' w vs s) (hl : s.length = m) (h1' : hi' ≤ w.heap.size) :
    Calls Tryz.prog 191 #[.pointer (some ⟨gl + 1, 0, none⟩), vs, .int .i64 15] w fun e w' => e = .returned (.slice (some ⟨w.heap.size, 0, none⟩) M2 M2) ∧
      Blk w' w.heap.size (enc .i32 (M.vs m s)).toArray 21 ∧ Below w.heap.size w w' ∧ w'.heap.size = w.heap.size + 1 := by
  obtain ⟨h0, h1, h2, h3, h4, vf, vw, h5, h6, h7⟩ := h
  have e := sums_any (gl + 1) lo gl lo' hi' vw _ s ((List.range (2 * m)).map (M.wj m)) 15 M2 w (h5.cell (o := 2) rfl) h7 hr (by
    intro i hi
    have hi : i < 2 * m := by simpa using hi
    have e : ((List.range (2 * m)).map (M.wj m)).getD i [] = M.wj m i := by simp [List.getD, hi]
    rw [e, M.wj_length, hl]) (by omega) (by omega) (by omega) (by simp; omega) (by simp; omega) (by omega) h1' (by simp; omega)
  refine e.mono ?_
  rintro e w' ⟨rfl, hb, hbel, hs⟩
  refine ⟨rfl, ?_, hbel, hs⟩
  have e2 : ((List.range M2).map fun i => M.sat32 (M.rnd (Dot.dotTo s (((List.range (2 * m)).map (M.wj m)).getD i []) s.length) 15)) = M.vs m s := by
    unfold M.vs
    rw [show M2 = 2 * m from by omega]
    apply List.map_congr_left
    intro i hi
    have hi := List.mem_range.1 hi
    have e : ((List.range (2 * m)).map (M.wj m)).getD i [] = M.wj m i := by simp [List.getD, hi]
    rw [e, hl]
  rw [e2] at hb
  exact hb

theorem joined (m : Nat) (s l : List Int) (hl : l.length = 20 * m) :
    (enc .i32 (l.take (2 * m) ++ l.take (20 * m - 2 * m))).toArray.toList.take 0 ++ enc .i32 (M.vs m s) ++ (enc .i32 (l.take (2 * m) ++ l.take (20 * m - 2 * m))).toArray.toList.drop (0 + (enc .i32 (M.vs m s)).length) = enc .i32 (M.nj m s l) := by
  rw [enc_length, M.vs_length]
  simp only [enc, List.take_zero, List.nil_append, Nat.zero_add]
  rw [← List.map_drop, ← List.map_append]
  congr 1
  unfold M.nj
  have ha : (l.take (2 * m)).length = 2 * m := by rw [List.length_take]; omega
  rw [List.drop_left' ha, List.take_append, M.vs_length]
  congr 1
  rw [List.take_of_length_le (by rw [M.vs_length]; omega)]

theorem joinMid {m M2 M20 lo gl lo' hi' : Nat} {s l : List Int} {vs : Value} {w : World} (hm : (m = 4 ∧ M2 = 8 ∧ M20 = 80) ∨ (m = 8 ∧ M2 = 16 ∧ M20 = 160)) (h : Joi lo gl m l w) (hs : Reads .i32 lo' hi' w vs s) (hsl : s.length = m) (h1 : hi' ≤ w.heap.size) (hg : gl < lo' ∨ hi' ≤ gl) :
    Calls Tryz.prog 195 #[.slice (some ⟨gl, 0, none⟩) M20 M20, .int .i64 M2] w.drew fun e w1 => e = .returned (.tuple #[]) ∧ w1.cell? ⟨gl + 1, 0, none⟩ = some (.int .i64 m) ∧ w1.cell? ⟨gl + 1, 3, none⟩ = some (.slice (some ⟨gl, 0, none⟩) M20 M20) ∧
      Calls Tryz.prog 191 #[.pointer (some ⟨gl + 1, 0, none⟩), vs, .int .i64 15] w1.drew fun e w2 => ∃ H, e = .returned (.slice (some ⟨H, 0, none⟩) M2 M2) ∧ w2.cell? ⟨gl + 1, 0, none⟩ = some (.int .i64 m) ∧ w2.cell? ⟨gl + 1, 3, none⟩ = some (.slice (some ⟨gl, 0, none⟩) M20 M20) ∧
        ∃ X : Array Value, (∀ ty, (Builtin.copy_ #[97, 97] ty #[.slice (some ⟨gl, 0, none⟩) M20 M20, .slice (some ⟨H, 0, none⟩) M2 M2]).run Tryz.prog w2 = .ok (goInt M2) (w2.setRow gl X)) ∧ Joi lo gl m (M.nj m s l) (w2.setRow gl X) ∧ But gl w (w2.setRow gl X) := by
  have hlen := h.2.2.2.1
  have e20 : 20 * m = M20 := by omega
  have e2 : 2 * m = M2 := by omega
  have hmv := moveOn32 gl M2 l w.drew h.2.2.1 (by omega) (by omega)
  rw [hlen, e20] at hmv
  refine hmv.mono ?_
  rintro e w1 ⟨rfl, hw1⟩
  have hb1 : But gl w w1 := by rw [hw1]; exact But.setRow (Bank.But.refl _ _).drew _
  have hB1 : Blk w1 gl (enc .i32 (l.take M2 ++ l.take (M20 - M2))).toArray 21 := by rw [hw1]; exact Blk.setRow (w := w.drew) h.2.2.1 _
  have hJ1 : Joi lo gl m (l.take M2 ++ l.take (M20 - M2)) w1 := h.relay hb1 hB1 (by simp; omega) (fun z hz => by
    rcases List.mem_append.1 hz with hz | hz <;> exact h.2.2.2.2.1 z (List.mem_of_mem_take hz))
  obtain ⟨k0, k3⟩ := hJ1.cells
  rw [e20] at k3
  have hr1 := hs.but hb1 h1 (by omega)
  have hs1 := hb1.size
  refine ⟨rfl, k0, k3, ?_⟩
  refine (joiSums (w := w1.drew) (M2 := M2) (by omega) hJ1 hr1 hsl (by show hi' ≤ w1.heap.size; omega)).mono ?_
  rintro e w2 ⟨rfl, hb2, hbel2, hs2⟩
  have hbel2' : Below w1.heap.size w1.drew w2 := hbel2
  have hJ2 : Joi lo gl m (l.take M2 ++ l.take (M20 - M2)) w2 := Joi.below (w := w1.drew) hJ1 hbel2' hJ1.2.1
  obtain ⟨j0, j3⟩ := hJ2.cells
  rw [e20] at j3
  have hb12 : But gl w w2 := But.below' hb1.drew hbel2' hs1
  refine ⟨w1.heap.size, rfl, j0, j3, (enc .i32 (M.nj m s l)).toArray, fun ty => ?_, ?_, But.setRow hb12 _⟩
  · have hX := joined m s l hlen
    rw [e2, e20] at hX
    have hlen2 : (enc .i32 (M.vs m s)).length = M2 := by rw [enc_length, M.vs_length]; exact e2
    have hcp := run_copy_row (P := Tryz.prog) w2 97 97 ty 21 gl 0 M20 M20 ⟨w1.heap.size, 0, none⟩ M2 M2 _ 21 (enc .i32 (M.vs m s)) Tryz.underlying97 (by kernel_rfl) hJ2.2.2.1
      (by rw [hlen2]; exact (Nat.min_eq_left (by omega)).symm) (fun j v hv => by
        rw [add_at]
        exact hb2.cell (by simpa using hv)) (by rw [hlen2]; simp [enc_length]; omega) (enc_one _ _)
    rw [hX, hlen2] at hcp
    exact hcp
  · exact hJ2.relay (But.setRow (Bank.But.refl _ _) _) (Blk.setRow hJ2.2.2.1 _) (M.nj_length hlen) (M.nj_fits h.2.2.2.2.1)

set_option maxRecDepth 100000 in
set_option maxHeartbeats 2000000 in
theorem joinFeed (m M2 M20 lo gl lo' hi' : Nat) (s l : List Int) (vs : Value) (w : World) (hm : (m = 4 ∧ M2 = 8 ∧ M20 = 80) ∨ (m = 8 ∧ M2 = 16 ∧ M20 = 160)) (h : Joi lo gl m l w) (hs : Reads .i32 lo' hi' w vs s) (hsl : s.length = m) (h1 : hi' ≤ w.heap.size) (hg : gl < lo' ∨ hi' ≤ gl) :
    Calls Tryz.prog 153 #[.pointer (some ⟨gl + 1, 0, none⟩), vs] w fun e w' => ∃ v, e = .returned (.tuple #[v, .int .i64 0]) ∧ Joi lo gl m (M.nj m s l) w' ∧ But gl w w' ∧ Reads .i16 w.heap.size w'.heap.size w' v (M.jn m (M.nj m s l)) := by
  obtain ⟨c0, c3⟩ := h.cells
  have e20 : 20 * m = M20 := by omega
  rw [e20] at c3
  have hmid := joinMid hm h hs hsl h1 hg
  obtain ⟨sa, sc, rfl⟩ := hs.form
  rw [hsl] at hmid ⊢
  have e2' : 2 * (m : Int) = (M2 : Int) := by omega
  have hne : ((m : Int) != (m : Int)) = false := by simp
  have m1 : (m : Int) ≤ 8 := by omega
  have m2 : (M2 : Int) ≤ 16 := by omega
  have m3 : (M20 : Int) ≤ 160 := by omega
  have hwr : IntKind.i64.wrap (M2 : Int) = (M2 : Int) := Bank.wrap_id _ (by omega) (by omega)
  have hm48 : Hid (m = 4 ∨ m = 8) := by show m = 4 ∨ m = 8; omega
  have hmk : ∀ wx : World, (Instr.makeSlice 55 (.int .i64 m) (.int .i64 m)).run Tryz.prog wx = .ok (.slice (some ⟨wx.heap.size, 0, none⟩) m m) (wx.alloc (.cells (enc .i16 (List.replicate m 0)).toArray 182)) := fun wx => make16 wx m (by omega)
  have HF : Hid (∀ (wx : World) f, Fill .i16 182 wx.heap.size m 0 f (wx.alloc (.cells (enc .i16 (List.replicate m 0)).toArray 182))) := fun wx f => Fill.start (Blk.new wx _ _)
  generalize (enc .i16 (List.replicate m 0)).toArray = c16 at hmk HF
  clear h hs hm e20 hsl
  go_enter Tryz.func153, Tryz.ntmps153
  go_wp2
  go_region_with (go_at_call 195; refine hmid.mono ?_; rintro e w1 ⟨rfl, k0, k3, hsum⟩; clear hmid c0 c3)
  all_goals
    go_wp2
    go_region_with (go_at_call 191; refine hsum.mono ?_; rintro e w2 ⟨H, rfl, j0, j3, X, hcp, hJ, hB⟩; have HJ : Hid (Joi _ _ _ _ _) := hJ; have HB : Hid (But _ _ _) := hB; clear hsum hJ hB)
    all_goals
      have d0 := (Joi.cells HJ.out).1
      have HF2 := HF.out (w2.setRow gl X) (fun j => M.sat16 (M.rnd (M.fj m (M.nj m s l) j 5) 14))
      have hmk2 := hmk (w2.setRow gl X)
      have HF3 : Hid (Fill _ _ _ _ _ _ _) := HF2
      clear hmk HF HF2 j0 j3
      generalize w2.setRow gl X = w3 at *
      go_wp2
      go_loopw [47] (fun i wr => ∃ k : Nat, k ≤ m ∧ i = .int .i64 k ∧ Fill .i16 182 w3.heap.size m k (fun j => M.sat16 (M.rnd (M.fj m (M.nj m s l) j 5) 14)) wr ∧ Below w3.heap.size w3 wr ∧ wr.heap.size = w3.heap.size + 1) (fun i _ => m - (intOf i).toNat)
      case atStart => exact ⟨0, by omega, rfl, HF3.out, (Below.refl _ _).alloc (Nat.le_refl _) _, by simp⟩
      case round =>
        clear hmk2 HF3 hcp d0
        obtain ⟨k, hk, rfl, hf, hbel, hsz⟩ := hrel
        have hJ : Joi lo gl m (M.nj m s l) wr := Joi.below HJ.out hbel (Joi.below HJ.out (Below.refl w3.heap.size w3) (And.left (And.right HJ.out))).2.1
        by_cases hlt : k < m
        · have hlt' : (k : Int) < m := by omega
          have hsm := sample_any hm48.out hJ hlt
          obtain ⟨⟨u, hu⟩, hfz⟩ := hf.cell hlt
          have HJ2 : Hid (Joi _ _ _ _ _) := hJ
          generalize hy : M.sat16 (M.rnd (M.fj m (M.nj m s l) k 5) 14) = y at hsm
          have HY : Hid _ := hy
          clear hJ hy
          go_wp2_with (go_at_call 196; refine hsm.mono ?_; rintro e w' ⟨rfl, n, rfl⟩)
          go_roundw
          case rel => exact ⟨k + 1, by omega, by go_num, (hf.drewN _).step hlt HY.out.symm, (below_drewN hbel _).setCell (Nat.le_refl _) _, by simpa [World.setCell] using hsz⟩
          case measure => simp [intOf]; omega
        · obtain rfl : k = m := by omega
          go_wp2
          go_ret2
          refine ⟨_, rfl, hJ, But.below' HB.out hbel (But.size HB.out), ?_⟩
          have hr := reads_blk hf.whole (fit16.2 (M.jn_fits k (M.nj k s l)))
          have hs0 := But.size HB.out
          simp only [List.length_map, List.length_range] at hr
          exact hr.mono hs0 (by omega)

end Poly
end Go.Proofs.YtcaifpjbjghhaaaGreatDoor

/-
  The document's answer for layer 8: waves, rounding, and lists that are gathered. Conditions: as told at each.
-/
namespace Go.Proofs.YtcaifpjbjghhaaaGreatDoor
set_option linter.unusedVariables false
open Go.RowKit
namespace M
def news (zss : List (List Int)) : List Int := (zss.reverse.map List.reverse).flatten
theorem pad_get (X : List Int) (z i : Nat) : (X ++ List.replicate z 0).getD i 0 = X.getD i 0 := by
  simp only [List.getD]
  rcases Nat.lt_or_ge i X.length with h | h
  · rw [List.getElem?_append_left h]
  · rw [List.getElem?_append_right h, List.getElem?_eq_none h, List.getElem?_replicate]
    split <;> rfl
theorem pad_step (X : List Int) (z : Nat) : X ++ List.replicate (z + 1) 0 = (X ++ List.replicate z 0) ++ [0] := by
  rw [List.replicate_succ', List.append_assoc]
theorem pad_fits {X : List Int} {B C : Int} (h : ∀ z ∈ X, B ≤ z ∧ z ≤ C) (hB : B ≤ 0) (hC : 0 ≤ C) (n : Nat) : ∀ z ∈ X ++ List.replicate n 0, B ≤ z ∧ z ≤ C := by
  intro z hz
  rcases List.mem_append.1 hz with h' | h'
  · exact h z h'
  · rw [List.eq_of_mem_replicate h']; exact ⟨hB, hC⟩
theorem jn_take {m j : Nat} {X : List Int} (h : j < m) : (jn m X).take (j + 1) = (jn m X).take j ++ [sat16 (rnd (fj m X j 5) 14)] := by
  rw [List.take_add_one]
  simp [jn, h]
theorem vs_take {m j : Nat} {X : List Int} (h : j < 2 * m) : (vs m X).take (j + 1) = (vs m X).take j ++ [sat32 (rnd (Dot.dotTo X (wj m j) m) 15)] := by
  rw [List.take_add_one]
  simp [vs, h]
theorem wj_get {m k i : Nat} (h : i < m) : (wj m k).getD i 0 = wv m (2 * (i : Int) + 1) (2 * (k : Int) + m) := by simp [wj, List.getD, h]
end M
namespace Poly
open Bank (Blk But)

theorem rwave (a b : Int) (m : Nat) (w : World) (hm : m = 4 ∨ m = 8) (a0 : -100 ≤ a) (a1 : a ≤ 100) (b0 : -100 ≤ b) (b1 : b ≤ 100) :
    Calls Tryz.prog 151 #[.int .i64 a, .int .i64 b, .int .i64 m] w fun e w' => e = .returned (.int .i64 (M.wv m a b)) ∧ w' = w := by
  have hab := M.mul_bd a b 100 100 (by omega) (by omega) (by omega) (by omega)
  have m1 : (m : Int) ≤ 8 := by omega
  have e : M.cosineI (a * b) (8 * (m : Int)) = M.wv m a b := if_pos (by omega)
  have hb := M.wv_bd (m := (m : Int)) (a := a) (b := b) (by omega)
  have hc := Wave.refCosine_all (a * b) (8 * (m : Int)) w
  rw [e] at hc
  generalize M.wv m a b = y at *
  generalize M.waveE (8 * (m : Int)) = z at *
  clear hm e
  go_enter Tryz.func151, Tryz.ntmps151
  go_wp2_with (go_at_call 194; refine hc.mono ?_; rintro e w' ⟨rfl, hw⟩; rw [hw]; clear hw w')
  go_ret
  exact ⟨rfl, rfl⟩

theorem rround (n s : Int) (w : World) (h0 : -9223372036854775808 ≤ n) (h1 : n ≤ 9223372036854775806) :
    Calls Tryz.prog 150 #[.int .i64 n, .int .i64 s] w fun e w' => e = .returned (.int .i64 (M.sat32 (M.rnd n s))) ∧ w' = w := by
  have hr := M.rnd_bd n s (by omega) (by omega)
  go_enter Tryz.func150, Tryz.ntmps150
  go_wp2_with (first
    | (go_at_call 154; refine (Ref.Round_any _ _ _ (by omega) (by omega)).mono ?_; rintro e w' ⟨rfl, rfl⟩)
    | (go_at_call 127; refine (Ref.Sat_any _ _ (by omega) (by omega)).mono ?_; rintro e w' ⟨rfl, rfl⟩))
  go_ret
  exact ⟨rfl, rfl⟩

theorem rfilter (m : Nat) (w : World) (hm : m = 4 ∨ m = 8) : Calls Tryz.prog 149 #[.int .i64 m] w fun e w' => ∃ b off c, e = .returned (.slice (some ⟨b, off, none⟩) (10 * m) c) ∧ w.heap.size ≤ b ∧ b < w'.heap.size ∧ (∀ i, i < 10 * m → w'.cell? ⟨b, off + i, none⟩ = some (.int .i16 (M.fil i m))) ∧ Below w.heap.size w w' := by
  refine (Bank.rfilter_ok m w (.inr (.inr ⟨rfl, hm⟩))).mono ?_
  rintro e w' ⟨v, rfl, ho, hb⟩
  have e1 : M.ts 2 m = (M.hsl m).length := by rw [M.hsl_length]; rfl
  rw [tabl_hs, e1] at ho
  have hr := reads_own ho (fit16.2 (hs_fits m))
  obtain ⟨a, c, rfl⟩ := hr.form
  obtain ⟨b, off, rfl, h0, h1, hx⟩ := hr.cell (by rw [M.hsl_length]; omega)
  rw [M.hsl_length] at hx
  exact ⟨b, off, c, by rw [M.hsl_length], h0, h1, fun i hi => by rw [hx i hi, M.hsl_get hi], hb⟩

end Poly
end Go.Proofs.YtcaifpjbjghhaaaGreatDoor

/-
  The document's answer for a splitter. Conditions: as told at each.
-/
namespace Go.Proofs.YtcaifpjbjghhaaaGreatDoor
set_option linter.unusedVariables false
open Go.RowKit
namespace Poly
open Bank (Blk But)
theorem one_new (w : World) (v : Value) (t : TypeId) (j : Nat) (u : Value) (hj : [v][j]? = some u) : (w.alloc (.cells #[v] t)).cell? ((⟨w.heap.size, 0, none⟩ : Addr).add j) = some u := by
  match j, hj with
  | 0, hj => simp at hj; subst hj; rw [add_at]; exact (Blk.new w #[v] t).cell (o := 0) rfl
def lenOf : Value → Nat
  | .slice _ n _ => n
  | _ => 0

end Poly
end Go.Proofs.YtcaifpjbjghhaaaGreatDoor

