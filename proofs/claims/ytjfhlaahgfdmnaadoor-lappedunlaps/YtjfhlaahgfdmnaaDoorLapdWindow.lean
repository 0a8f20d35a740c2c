/-
  Contracts of the window, the program's and the document's. Conditions: the polynomial's numbers stand as their initialiser lays them; one goroutine.
-/
import Derived.Test.YtjfhlaahgfdmnaaDoorLapdWalks
namespace Go.Proofs.YtjfhlaahgfdmnaaDoor
set_option linter.unusedVariables false
open Go.RowKit
namespace Lapd
open Bank (Blk But)
open Poly (Reads enc enc_get enc_length enc_rep fit16 fit32 Fill make16 make32 reads_blk reads_own cell_keep below_but below_drewN below_drew alloc_size)

/-- a window that is being filled from both ends: of block g the first k and the last k are told -/
def Both (g n k : Nat) (w : World) : Prop := ∃ tab : Array Value, Blk w g tab 56 ∧ tab.size = 2 * n ∧ ∀ j, j < k → tab[j]? = some (.int .i16 (M.ris n j)) ∧ tab[2 * n - 1 - j]? = some (.int .i16 (M.ris n j))
theorem Both.start {g n : Nat} {w : World} (h : Blk w g (enc .i16 (List.replicate (2 * n) 0)).toArray 56) : Both g n 0 w := ⟨_, h, by simp [enc_length], fun j hj => absurd hj (by omega)⟩
theorem Both.cell {g n k : Nat} {w : World} (h : Both g n k w) {j : Nat} (hj : j < 2 * n) : (∃ u, w.cell? ⟨g, j, none⟩ = some u) ∧ w.frozen? ⟨g, j, none⟩ = false := by
  obtain ⟨tab, h1, h2, _⟩ := h
  exact ⟨⟨tab[j]'(by omega), h1.cell (by simp [h2, hj])⟩, h1.free j⟩
theorem Both.step {g n k : Nat} {w : World} (h : Both g n k w) (hk : k < n) {q : Nat} (hq : q = 2 * n - 1 - k) : Both g n (k + 1) ((w.setCell ⟨g, k, none⟩ (.int .i16 (M.ris n k))).setCell ⟨g, q, none⟩ (.int .i16 (M.ris n k))) := by
  obtain ⟨tab, h1, h2, h3⟩ := h
  subst hq
  refine ⟨_, (h1.set _ _).set _ _, by simpa using h2, fun j hj => ?_⟩
  rcases (by omega : j < k ∨ j = k) with hj | rfl
  · obtain ⟨a, b⟩ := h3 j hj
    refine ⟨?_, ?_⟩
    · rw [Array.getElem?_setIfInBounds, if_neg (by omega), Array.getElem?_setIfInBounds, if_neg (by omega)]; exact a
    · rw [Array.getElem?_setIfInBounds, if_neg (by omega), Array.getElem?_setIfInBounds, if_neg (by omega)]; exact b
  · refine ⟨?_, ?_⟩
    · rw [Array.getElem?_setIfInBounds, if_neg (by omega), Array.getElem?_setIfInBounds, if_pos rfl, if_pos (by omega)]
    · rw [Array.getElem?_setIfInBounds, if_pos rfl, if_pos (by simp; omega)]
theorem Both.whole {g n : Nat} {w : World} (h : Both g n n w) : Blk w g (enc .i16 (M.wns n)).toArray 56 := by
  obtain ⟨tab, h1, h2, h3⟩ := h
  have e : tab = (enc .i16 (M.wns n)).toArray := by
    apply Array.ext'
    apply List.ext_getElem?
    intro j
    by_cases hj : j < 2 * n
    · rw [Array.getElem?_toList, enc_get (by rw [M.wns_length]; exact hj), M.wns_get hj]
      by_cases hn : j < n
      · rw [(h3 j hn).1, M.wn_lo hn]
      · have := (h3 (2 * n - 1 - j) (by omega)).2
        rw [show 2 * n - 1 - (2 * n - 1 - j) = j from by omega] at this
        rw [this]
        unfold M.wn
        rw [if_neg hn]
    · rw [List.getElem?_eq_none (by simp; omega), List.getElem?_eq_none (by rw [enc_length, M.wns_length]; omega)]
  rw [← e]; exact h1
theorem Both.reads {g n : Nat} {w : World} (h : Both g n n w) (hn : 2 ≤ n) {N2 : Nat} (e : 2 * n = N2) : Reads .i16 g (g + 1) w (.slice (some ⟨g, 0, none⟩) N2 N2) (M.wns n) := by
  have := reads_blk h.whole (fit16.2 (M.wns_fits hn))
  rw [M.wns_length, e] at this
  exact this

/-- the slope as numbers -/
def sl (m : Nat) : List Int := (List.range m).map fun i : Nat => M.sine (2 * (i : Int) + 1) (8 * (m : Int))
theorem tabl_sl (m : Nat) : M.tabl 1 m = enc .i16 (sl m) := by
  unfold M.tabl enc sl
  rw [List.map_map]
  rfl
theorem sl_length (m : Nat) : (sl m).length = m := by simp [sl]
theorem sl_get {m i : Nat} (h : i < m) : (sl m).getD i 0 = M.sine (2 * (i : Int) + 1) (8 * (m : Int)) := by simp [sl, List.getD, h]
theorem sl_fits {m : Nat} (hm : 1 ≤ m) : M.fits16 (sl m) := by
  intro z hz
  obtain ⟨i, _, rfl⟩ := List.mem_map.1 hz
  have := M.sine_bd (2 * (i : Int) + 1) (d := 8 * (m : Int)) (by omega)
  omega
theorem own_sl {w : World} {B m : Nat} {v : Value} (hm : 1 ≤ m) (h : w.ownsRow B 56 1 v (M.ts 1 m) (M.tabl 1 m)) : Reads .i16 B w.heap.size w v (sl m) := by
  have e1 : M.ts 1 m = (sl m).length := by rw [sl_length]; rfl
  rw [tabl_sl, e1] at h
  exact reads_own h (fit16.2 (sl_fits hm))

set_option maxRecDepth 100000 in
set_option maxHeartbeats 1000000 in
/-- what is left of Window once the slope is told -/
theorem Window_ok (n N2 Nh N4 b N : Nat) (D : List (Nat × Nat)) (t : Int) (w : World) (hn : (n = 40 ∧ N2 = 80 ∧ Nh = 20 ∧ N4 = 10) ∨ (n = 60 ∧ N2 = 120 ∧ Nh = 30 ∧ N4 = 15) ∨ (n = 80 ∧ N2 = 160 ∧ Nh = 40 ∧ N4 = 20) ∨ (n = 120 ∧ N2 = 240 ∧ Nh = 60 ∧ N4 = 30))
    (hT : Wave.Tab w) (hB : Bank.Bank b D t N w) (hD : D.length ≤ 1000) (t0 : 0 ≤ t) (t1 : t ≤ 1000) :
    Calls Tryd.prog 8 #[.pointer (some ⟨b, 0, none⟩), .int .i64 n] w fun e w' => ∃ g, e = .returned (.tuple #[.slice (some ⟨g, 0, none⟩) N2 N2, .int .i64 0]) ∧ w.heap.size ≤ g ∧ Reads .i16 g (g + 1) w' (.slice (some ⟨g, 0, none⟩) N2 N2) (M.wns n) ∧ w'.heap.size = g + 1 ∧
      (∃ X, Bank.Bank b (Bank.ins D 1 Nh) (t + 1) X w') ∧ But b w w' := by
  have hbw : b < w.heap.size := by have := hB.1; have := hB.2.1; omega
  have hslope : ∀ w1, Below w.heap.size w w1 → Calls Tryd.prog 27 #[.pointer (some ⟨b, 0, none⟩), .int .i64 Nh] w1 fun e w2 => ∃ v, e = .returned (.tuple #[v, .int .i64 0]) ∧ Reads .i16 w.heap.size w2.heap.size w2 v (sl Nh) ∧ (∃ X, Bank.Bank b (Bank.ins D 1 Nh) (t + 1) X w2) ∧ But b w w2 := by
    intro w1 bel
    refine (Bank.slope_ok Nh b D t N w1 (.inr (.inl ⟨rfl, by omega, by omega⟩)) (Bank.tab_below bel (Nat.le_refl _) hT) (hB.below bel hB.2.1) (by omega) t0 (by omega)).mono ?_
    rintro e w2 ⟨v, rfl, X, h1, h2, h3, h4⟩
    have s1 := bel.size
    refine ⟨v, rfl, (own_sl (by omega) h1).mono (by omega) (Nat.le_refl _), ⟨X, h3⟩, ?_⟩
    exact (Bank.But.of_below bel (Nat.le_refl _)).trans h4
  have hrise : ∀ (wx : World) (v : Value) (lo hi i : Nat), Reads .i16 lo hi wx v (sl Nh) → i < n → Calls Tryd.prog 28 #[v, .int .i64 N4, .int .i64 i] wx fun e w' => e = .returned (.int .i16 (M.ris n i)) ∧ w' = wx := by
    intro wx v lo hi i hr hi'
    have e : n / 2 = Nh := by omega
    refine rising_any n i lo hi v (sl Nh) wx hr (by rw [sl_length, e]) (fun j hj => ?_) (by omega) (by omega) hi' N4 (by omega)
    rw [e] at hj ⊢
    exact sl_get hj
  have hmk : ∀ wx : World, (Instr.makeSlice 23 (.int .i64 N2) (.int .i64 N2)).run Tryd.prog wx = .ok (.slice (some ⟨wx.heap.size, 0, none⟩) N2 N2) (wx.alloc (.cells (enc .i16 (List.replicate N2 0)).toArray 56)) := fun wx => make16 wx N2 (by omega)
  have e2 : 2 * n = N2 := by omega
  have HF : Hid (∀ (wx : World), Both wx.heap.size n 0 (wx.alloc (.cells (enc .i16 (List.replicate N2 0)).toArray 56))) := fun wx => Both.start (by rw [e2]; exact Blk.new wx _ _)
  generalize (enc .i16 (List.replicate N2 0)).toArray = cs at hmk HF
  have HSl : Hid _ := hslope
  have HRi : Hid _ := hrise
  have HN2 : Hid (2 * n = N2) := e2
  have HNn : Hid (2 ≤ n) := by show 2 ≤ n; omega
  have i2 : 2 * (n : Int) = (N2 : Int) := by omega
  have ih : (n : Int).tdiv 2 = (Nh : Int) := by rw [Int.tdiv_eq_ediv_of_nonneg (by omega)]; omega
  have i4 : (n : Int).tdiv 4 = (N4 : Int) := by rw [Int.tdiv_eq_ediv_of_nonneg (by omega)]; omega
  have ih' : (n : Int) / 2 = (Nh : Int) := by omega
  have i4' : (n : Int) / 4 = (N4 : Int) := by omega
  have b0 : (1 : Int) ≤ n := by omega
  have b1 : (n : Int) ≤ 120 := by omega
  have b2 : (N2 : Int) ≤ 240 := by omega
  have hlen : Hid ((n : Int) = 40 ∨ (n : Int) = 60 ∨ (n : Int) = 80 ∨ (n : Int) = 120) := by show (n : Int) = 40 ∨ (n : Int) = 60 ∨ (n : Int) = 80 ∨ (n : Int) = 120; omega
  have hnot : ∀ (x : Bool) (w : World), (Op.unary .not (.bool x)).run Tryd.prog w = .ok (.bool (!x)) w := fun _ _ => rfl
  clear hslope hrise e2 hn hT hB
  go_enter Tryd.func8, Tryd.ntmps8
  go_wp2_with (first
    | (go_at_call 25; refine (Lengths_any w).mono ?_; rintro e w1 ⟨rfl, hb1, bel1, -⟩; have hs := HSl.out w1 bel1; clear HSl)
    | (go_at_call 26; refine (Contains_any _ _ _ hb1).mono ?_; rintro e w' ⟨r, rfl, hw, hr⟩; rw [hw]; clear hw w'; obtain rfl : r = true := hr.2 hlen.out; clear hr hb1 bel1)
    | (go_at_call 27; refine hs.mono ?_; clear hs; rintro e w2 ⟨v, rfl, hr2, hX, bt2⟩; have HX : Hid _ := hX; clear hX; have hst := HF.out w2; have hmk2 := hmk w2; clear HF hmk; have HR2 : Hid (Reads _ _ _ _ _ _) := hr2; have HB2 : Hid (But _ _ _) := bt2; clear hr2 bt2))
  have bel0 : Below w2.heap.size w2 (w2.alloc (.cells cs 56)) := (Below.refl _ _).alloc (Nat.le_refl _) _
  go_loopw [29] (fun i wr => ∃ k : Nat, k ≤ n ∧ i = .int .i64 k ∧ Both w2.heap.size n k wr ∧ Below w2.heap.size w2 wr ∧ wr.heap.size = w2.heap.size + 1) (fun i _ => n - (intOf i).toNat)
  case atStart => exact ⟨0, by omega, rfl, hst, bel0, by simp⟩
  case round =>
    clear hst bel0 hmk2
    obtain ⟨k, hk, rfl, hf, hbw2, hsw⟩ := hrel
    by_cases hlt : k < n
    · have hcall := HRi.out wr _ _ _ k (Reads.below HR2.out hbw2 (Nat.le_refl _)) hlt
      have e2 := HN2.out
      obtain ⟨q, hq⟩ : ∃ q, q = 2 * n - 1 - k := ⟨_, rfl⟩
      have hq' : (N2 : Int) - 1 - (k : Int) = (q : Int) := by omega
      have hq2 : (q : Int) < (N2 : Int) := by omega
      have hk2 : (k : Int) < (N2 : Int) := by omega
      have hlt' : (k : Int) < n := by omega
      obtain ⟨⟨u1, hu1⟩, hfz1⟩ := hf.cell (j := k) (by omega)
      obtain ⟨⟨u2, hu2⟩, hfz2⟩ : (∃ u, (wr.setCell ⟨w2.heap.size, k, none⟩ (.int .i16 (M.ris n k))).cell? ⟨w2.heap.size, q, none⟩ = some u) ∧ (wr.setCell ⟨w2.heap.size, k, none⟩ (.int .i16 (M.ris n k))).frozen? ⟨w2.heap.size, q, none⟩ = false := by
        obtain ⟨tab, h1, h2, _⟩ := hf
        have h3 := h1.set k (.int .i16 (M.ris n k))
        exact ⟨⟨_, h3.cell (Array.getElem?_eq_getElem (by simp; omega))⟩, h3.free q⟩
      have hstep := hf.step hlt hq
      have HS : Hid (Both _ _ _ _) := hstep
      have HBw : Hid (Below _ _ _) := hbw2
      have hsz := hsw
      clear hf hstep hq e2 hbw2
      generalize M.ris n k = y at *
      go_wp2_with (go_at_call 28; refine hcall.mono ?_; clear hcall; rintro e w' ⟨rfl, hw⟩; rw [hw]; clear hw w')
      go_roundw
      case rel => exact ⟨k + 1, by omega, by go_num, HS.out, (HBw.out.setCell (Nat.le_refl _) _).setCell (Nat.le_refl _) _, by simpa [World.setCell] using hsz⟩
      case measure => simp [intOf]; omega
    · obtain rfl : k = n := by omega
      have hrd := hf.reads HNn.out HN2.out
      have s2 := Bank.But.size HB2.out
      have HRd : Hid (Reads _ _ _ _ _ _) := hrd
      have HBw : Hid (Below _ _ _) := hbw2
      clear hrd hf hbw2
      go_wp2
      go_ret2
      obtain ⟨X, hX⟩ := HX.out
      exact ⟨_, rfl, s2, HRd.out, hsw, ⟨X, hX.below HBw.out hX.2.1⟩, Poly.But.below' HB2.out HBw.out s2⟩

theorem Window_err (n : Int) (v : Value) (w : World) (h : ¬ (n = 40 ∨ n = 60 ∨ n = 80 ∨ n = 120)) :
    Calls Tryd.prog 8 #[v, .int .i64 n] w fun e w' => e = .returned (.tuple #[.slice none 0 0, .int .i64 1]) ∧ Below w.heap.size w w' := by
  have hnot : ∀ (x : Bool) (w : World), (Op.unary .not (.bool x)).run Tryd.prog w = .ok (.bool (!x)) w := fun _ _ => rfl
  have HH : Hid (¬ (n = 40 ∨ n = 60 ∨ n = 80 ∨ n = 120)) := h
  clear h
  go_enter Tryd.func8, Tryd.ntmps8
  go_wp2_with (first
    | (go_at_call 25; refine (Lengths_any w).mono ?_; rintro e w1 ⟨rfl, hb1, bel1, -⟩)
    | (go_at_call 26; refine (Contains_any _ _ _ hb1).mono ?_; rintro e w' ⟨r, rfl, hw, hr⟩; rw [hw]; clear hw w'; obtain rfl : r = false := Bool.eq_false_iff.2 (fun h => HH.out (hr.1 h)); clear hr))
  go_ret2
  exact ⟨rfl, bel1⟩

theorem Window_nil (n : Int) (w : World) (h : n = 40 ∨ n = 60 ∨ n = 80 ∨ n = 120) :
    Calls Tryd.prog 8 #[.pointer none, .int .i64 n] w fun e w' => e = .returned (.tuple #[.slice none 0 0, .int .i64 3]) ∧ Below w.heap.size w w' := by
  have hnot : ∀ (x : Bool) (w : World), (Op.unary .not (.bool x)).run Tryd.prog w = .ok (.bool (!x)) w := fun _ _ => rfl
  have HH : Hid (n = 40 ∨ n = 60 ∨ n = 80 ∨ n = 120) := h
  clear h
  go_enter Tryd.func8, Tryd.ntmps8
  go_wp2_with (first
    | (go_at_call 25; refine (Lengths_any w).mono ?_; rintro e w1 ⟨rfl, hb1, bel1, -⟩)
    | (go_at_call 26; refine (Contains_any _ _ _ hb1).mono ?_; rintro e w' ⟨r, rfl, hw, hr⟩; rw [hw]; clear hw w'; obtain rfl : r = true := hr.2 HH.out; clear hr)
    | (go_at_call 27; refine (Bank.slope_nil _ _).mono ?_; rintro e w2 ⟨rfl, bel2⟩))
  go_ret2
  exact ⟨rfl, bel1.trans (bel2.mono bel1.size)⟩

set_option maxRecDepth 100000 in
set_option maxHeartbeats 1000000 in
/-- the document's window -/
theorem rWindow (n N2 Nh N4 : Nat) (w : World) (hn : (n = 40 ∧ N2 = 80 ∧ Nh = 20 ∧ N4 = 10) ∨ (n = 60 ∧ N2 = 120 ∧ Nh = 30 ∧ N4 = 15) ∨ (n = 80 ∧ N2 = 160 ∧ Nh = 40 ∧ N4 = 20) ∨ (n = 120 ∧ N2 = 240 ∧ Nh = 60 ∧ N4 = 30)) :
    Calls Tryd.prog 14 #[.int .i64 n] w fun e w' => ∃ g, e = .returned (.slice (some ⟨g, 0, none⟩) N2 N2) ∧ w.heap.size ≤ g ∧ Reads .i16 g (g + 1) w' (.slice (some ⟨g, 0, none⟩) N2 N2) (M.wns n) ∧ w'.heap.size = g + 1 ∧ Below w.heap.size w w' := by
  have hslope : Calls Tryd.prog 30 #[.int .i64 Nh] w fun e w2 => ∃ bs os cs, e = .returned (.slice (some ⟨bs, os, none⟩) Nh cs) ∧ bs < w2.heap.size ∧ (∀ i, i < Nh → w2.cell? ⟨bs, os + i, none⟩ = some (.int .i16 (M.sine (2 * (i : Int) + 1) (8 * (Nh : Int))))) ∧ Below w.heap.size w w2 := by
    refine (Bank.rslope_ok Nh w (.inr (.inl ⟨rfl, by omega, by omega⟩))).mono ?_
    rintro e w2 ⟨v, rfl, h1, h2⟩
    have hr := own_sl (by omega) h1
    obtain ⟨a, c, rfl⟩ := hr.form
    obtain ⟨bs, os, rfl, k0, k1, hx⟩ := hr.cell (by rw [sl_length]; omega)
    rw [sl_length] at hx
    exact ⟨bs, os, c, by rw [sl_length], k1, fun i hi => by rw [hx i hi, sl_get hi], h2⟩
  have hmk : ∀ wx : World, (Instr.makeSlice 23 (.int .i64 N2) (.int .i64 N2)).run Tryd.prog wx = .ok (.slice (some ⟨wx.heap.size, 0, none⟩) N2 N2) (wx.alloc (.cells (enc .i16 (List.replicate N2 0)).toArray 56)) := fun wx => make16 wx N2 (by omega)
  have e2 : 2 * n = N2 := by omega
  have HF : Hid (∀ (wx : World), Both wx.heap.size n 0 (wx.alloc (.cells (enc .i16 (List.replicate N2 0)).toArray 56))) := fun wx => Both.start (by rw [e2]; exact Blk.new wx _ _)
  generalize (enc .i16 (List.replicate N2 0)).toArray = cs at hmk HF
  have hris : ∀ k, k < n → (k < N4 ∧ M.ris n k = 0) ∨ (∃ q, ¬ k < N4 ∧ k < N4 + Nh ∧ k - N4 = q ∧ q < Nh ∧ M.ris n k = M.sine (2 * (q : Int) + 1) (8 * (Nh : Int))) ∨ (¬ k < N4 ∧ ¬ k < N4 + Nh ∧ M.ris n k = 32767) := by
    intro k hk
    have eh : n / 2 = Nh := by omega
    have e4 : n / 4 = N4 := by omega
    unfold M.ris
    rw [eh, e4]
    rcases (by omega : k < N4 ∨ (¬ k < N4 ∧ k < N4 + Nh) ∨ (¬ k < N4 ∧ ¬ k < N4 + Nh)) with h | ⟨h, h'⟩ | ⟨h, h'⟩
    · exact .inl ⟨h, if_pos h⟩
    · exact .inr (.inl ⟨k - N4, h, h', rfl, by omega, by rw [if_neg h, if_pos h']⟩)
    · exact .inr (.inr ⟨h, h', by rw [if_neg h, if_neg h']⟩)
  have HRi : Hid _ := hris
  have HN2 : Hid (2 * n = N2) := e2
  have HNn : Hid (2 ≤ n) := by show 2 ≤ n; omega
  have i2 : 2 * (n : Int) = (N2 : Int) := by omega
  have ih : (n : Int).tdiv 2 = (Nh : Int) := by rw [Int.tdiv_eq_ediv_of_nonneg (by omega)]; omega
  have i4 : (n : Int).tdiv 4 = (N4 : Int) := by rw [Int.tdiv_eq_ediv_of_nonneg (by omega)]; omega
  have ih' : (n : Int) / 2 = (Nh : Int) := by omega
  have i4' : (n : Int) / 4 = (N4 : Int) := by omega
  have b0 : (1 : Int) ≤ n := by omega
  have b1 : (n : Int) ≤ 120 := by omega
  have b2 : (N2 : Int) ≤ 240 := by omega
  have b3 : (Nh : Int) ≤ 60 := by omega
  have b4 : (N4 : Int) ≤ 30 := by omega
  clear hris e2 hn
  go_enter Tryd.func14, Tryd.ntmps14
  go_wp2_with (go_at_call 30; refine hslope.mono ?_; clear hslope; rintro e w2 ⟨bs, os, cs', rfl, hbs, hx, bel2⟩; have hst := HF.out w2; have hmk2 := hmk w2; clear HF hmk; have HX : Hid _ := hx; have HB2 : Hid (Below _ _ _) := bel2; clear hx bel2)
  have bel0 : Below w2.heap.size w2 (w2.alloc (.cells cs 56)) := (Below.refl _ _).alloc (Nat.le_refl _) _
  go_loopw [5] (fun i wr => ∃ k : Nat, k ≤ n ∧ i = .int .i64 k ∧ Both w2.heap.size n k wr ∧ Below w2.heap.size w2 wr ∧ wr.heap.size = w2.heap.size + 1) (fun i _ => n - (intOf i).toNat)
  case atStart => exact ⟨0, by omega, rfl, hst, bel0, by simp⟩
  case round =>
    clear hst bel0 hmk2
    obtain ⟨k, hk, rfl, hf, hbw2, hsw⟩ := hrel
    by_cases hlt : k < n
    · have e2 := HN2.out
      obtain ⟨q, hq⟩ : ∃ q, q = 2 * n - 1 - k := ⟨_, rfl⟩
      have hq' : (N2 : Int) - 1 - (k : Int) = (q : Int) := by omega
      have hq2 : (q : Int) < (N2 : Int) := by omega
      have hk2 : (k : Int) < (N2 : Int) := by omega
      have hlt' : (k : Int) < n := by omega
      obtain ⟨⟨u1, hu1⟩, hfz1⟩ := hf.cell (j := k) (by omega)
      obtain ⟨⟨u2, hu2⟩, hfz2⟩ : (∃ u, (wr.setCell ⟨w2.heap.size, k, none⟩ (.int .i16 (M.ris n k))).cell? ⟨w2.heap.size, q, none⟩ = some u) ∧ (wr.setCell ⟨w2.heap.size, k, none⟩ (.int .i16 (M.ris n k))).frozen? ⟨w2.heap.size, q, none⟩ = false := by
        obtain ⟨tab, h1, h2, _⟩ := hf
        have h3 := h1.set k (.int .i16 (M.ris n k))
        exact ⟨⟨_, h3.cell (Array.getElem?_eq_getElem (by simp; omega))⟩, h3.free q⟩
      have hstep := hf.step hlt hq
      have hcells : ∀ i, i < Nh → wr.cell? ⟨bs, os + i, none⟩ = some (.int .i16 (M.sine (2 * (i : Int) + 1) (8 * (Nh : Int)))) := fun i hi => (cell_keep (hbw2.block bs hbs)).trans (HX.out i hi)
      have hr := HRi.out k hlt
      have HS : Hid (Both _ _ _ _) := hstep
      have HBw : Hid (Below _ _ _) := hbw2
      have hsz := hsw
      have HC : Hid _ := hcells
      clear hf hstep hq e2 hbw2 hcells HX HRi
      generalize M.ris n k = y at *
      rcases hr with ⟨h1, rfl⟩ | ⟨p, h1, h2, hp, hp2, rfl⟩ | ⟨h1, h2, rfl⟩
      · have h1' : (k : Int) < N4 := by omega
        go_wp2
        go_roundw
        case rel => exact ⟨k + 1, by omega, by go_num, HS.out, (HBw.out.setCell (Nat.le_refl _) _).setCell (Nat.le_refl _) _, by simpa [World.setCell] using hsz⟩
        case measure => simp [intOf]; omega
      · have h1' : ¬ (k : Int) < N4 := by omega
        have h2' : (k : Int) < (N4 : Int) + Nh := by omega
        have hp' : (k : Int) - (N4 : Int) = (p : Int) := by omega
        have hp3 : (p : Int) < Nh := by omega
        have q1 := HC.out p hp2
        generalize M.sine (2 * (p : Int) + 1) (8 * (Nh : Int)) = y at *
        clear hp
        go_wp2
        go_roundw
        case rel => exact ⟨k + 1, by omega, by go_num, HS.out, (HBw.out.setCell (Nat.le_refl _) _).setCell (Nat.le_refl _) _, by simpa [World.setCell] using hsz⟩
        case measure => simp [intOf]; omega
      · have h1' : ¬ (k : Int) < N4 := by omega
        have h2' : ¬ (k : Int) < (N4 : Int) + Nh := by omega
        go_wp2
        go_roundw
        case rel => exact ⟨k + 1, by omega, by go_num, HS.out, (HBw.out.setCell (Nat.le_refl _) _).setCell (Nat.le_refl _) _, by simpa [World.setCell] using hsz⟩
        case measure => simp [intOf]; omega
    · obtain rfl : k = n := by omega
      have hrd := hf.reads HNn.out HN2.out
      have s2 := HB2.out.size
      have HRd : Hid (Reads _ _ _ _ _ _) := hrd
      have HBw : Hid (Below _ _ _) := hbw2
      clear hrd hf hbw2
      go_wp2
      go_ret
      exact ⟨_, rfl, s2, HRd.out, hsw, HB2.out.trans (HBw.out.mono s2)⟩

end Lapd
end Go.Proofs.YtjfhlaahgfdmnaaDoor
