/-
  What the laws of layer 9 lean on: lengths, blocks of samples, the chapter's example. Conditions: the polynomial's numbers stand as their initialiser lays them; one goroutine.
-/
import Derived.Test.YtjfhlaahgfdmnaaDoorLapdUnfeed
import Derived.Test.YtjfhlaahgfdmnaaDoorBankNew
namespace Go.Proofs.YtjfhlaahgfdmnaaDoor
set_option linter.unusedVariables false
open Go.RowKit
namespace M
/-- a block of samples of which k have come -/
def pp (n : Nat) (l : List Int) (p k : Nat) : List Int := (List.range n).map fun i => if i < k then l.getD (p + i) 0 else 0
theorem pp_length (n : Nat) (l : List Int) (p k : Nat) : (pp n l p k).length = n := by simp [pp]
theorem pp_zero (n : Nat) (l : List Int) (p : Nat) : pp n l p 0 = List.replicate n 0 := by
  unfold pp
  rw [List.eq_replicate_iff]
  refine ⟨by simp, fun z hz => ?_⟩
  obtain ⟨j, _, rfl⟩ := List.mem_map.1 hz
  simp
theorem pp_set {n : Nat} {l : List Int} {p k : Nat} (h : k < n) : (pp n l p k).set k (l.getD (p + k) 0) = pp n l p (k + 1) := by
  apply List.ext_getElem?
  intro j
  rw [List.getElem?_set]
  by_cases hj : j < n
  · split
    · rename_i e; subst e
      rw [if_pos (by rw [pp_length]; exact hj)]
      simp [pp, hj]
    · rename_i e
      simp only [pp, List.getElem?_map, List.getElem?_range hj, Option.map_some]
      congr 1
      by_cases hk : j < k
      · rw [if_pos hk, if_pos (by omega)]
      · rw [if_neg hk, if_neg (by omega)]
  · rw [if_neg (by omega), List.getElem?_eq_none (by rw [pp_length]; omega), List.getElem?_eq_none (by rw [pp_length]; omega)]
theorem pp_end {n : Nat} {l : List Int} {p k : Nat} (h : k = n ∨ l.length ≤ p + k) : pp n l p k = pd n l p := by
  unfold pp pd
  apply List.map_congr_left
  intro i hi
  have hi := List.mem_range.1 hi
  split
  · rfl
  · rename_i hk
    have : l.length ≤ p + i := by omega
    simp [List.getD, List.getElem?_eq_none this]
end M
namespace Lapd
open Bank (Blk But)
open Poly (Reads enc enc_get enc_length enc_rep enc_one fit16 fit32 wf64 wf32 Gat reads_blk reads_own cell_keep below_but below_drewN below_drew alloc_size make16 make32 zeros16 zeros32 same32 reads_new16 reads_new32)

theorem lens_of {n : Nat} (h : M.len9 n) : Lens n (2 * n) (n / 2) (n / 4) (8 * n) := by
  unfold Lens
  rcases h with rfl | rfl | rfl | rfl <;> omega
theorem len_bd {n : Nat} (h : M.len9 n) : 40 ≤ n ∧ n ≤ 120 := by rcases h with rfl | rfl | rfl | rfl <;> omega
theorem tab_b {B : Nat} {w w' : World} (h : Below B w w') (hB : w.heap.size ≤ B) (hT : Wave.Tab w) : Wave.Tab w' := Bank.tab_below h hB hT

theorem length_any (u : Int) (w : World) (u0 : 0 ≤ u) (u1 : u ≤ 255) :
    Calls Tryd.prog 15 #[.int .u8 u] w fun e w' => ∃ n : Nat, e = .returned (.int .i64 n) ∧ M.len9 n ∧ Below w.heap.size w w' := by
  have hcell : ∀ w1, Blk w1 w.heap.size lens 96 → w1.cell? ⟨w.heap.size, 0, none⟩ = some (.int .i64 40) ∧ w1.cell? ⟨w.heap.size, 1, none⟩ = some (.int .i64 60) ∧ w1.cell? ⟨w.heap.size, 2, none⟩ = some (.int .i64 80) ∧ w1.cell? ⟨w.heap.size, 3, none⟩ = some (.int .i64 120) := fun w1 h => ⟨h.cell rfl, h.cell rfl, h.cell rfl, h.cell rfl⟩
  have ht : u.tmod 4 = u % 4 := Int.tmod_eq_emod_of_nonneg u0
  rcases (by omega : u % 4 = 0 ∨ u % 4 = 1 ∨ u % 4 = 2 ∨ u % 4 = 3) with h | h | h | h
  · rw [h] at ht
    have h' : u % 4 = 0 := h
    go_enter Tryd.func15, Tryd.ntmps15
    go_wp2_with (go_at_call 25; refine (Lengths_any w).mono ?_; rintro e w1 ⟨rfl, hb1, bel1, -⟩; obtain ⟨c0, c1, c2, c3⟩ := hcell w1 hb1)
    go_ret
    exact ⟨40, rfl, .inl rfl, bel1⟩
  · rw [h] at ht
    go_enter Tryd.func15, Tryd.ntmps15
    go_wp2_with (go_at_call 25; refine (Lengths_any w).mono ?_; rintro e w1 ⟨rfl, hb1, bel1, -⟩; obtain ⟨c0, c1, c2, c3⟩ := hcell w1 hb1)
    go_ret
    exact ⟨60, rfl, .inr (.inl rfl), bel1⟩
  · rw [h] at ht
    go_enter Tryd.func15, Tryd.ntmps15
    go_wp2_with (go_at_call 25; refine (Lengths_any w).mono ?_; rintro e w1 ⟨rfl, hb1, bel1, -⟩; obtain ⟨c0, c1, c2, c3⟩ := hcell w1 hb1)
    go_ret
    exact ⟨80, rfl, .inr (.inr (.inl rfl)), bel1⟩
  · rw [h] at ht
    go_enter Tryd.func15, Tryd.ntmps15
    go_wp2_with (go_at_call 25; refine (Lengths_any w).mono ?_; rintro e w1 ⟨rfl, hb1, bel1, -⟩; obtain ⟨c0, c1, c2, c3⟩ := hcell w1 hb1)
    go_ret
    exact ⟨120, rfl, .inr (.inr (.inr rfl)), bel1⟩

/-- a block that is being filled with samples -/
def Pad (K : IntKind) (t : TypeId) (g n : Nat) (l : List Int) (p k : Nat) (w : World) : Prop := Blk w g (enc K (M.pp n l p k)).toArray t
theorem Pad.start {K : IntKind} {t : TypeId} {g n p : Nat} {l : List Int} {w : World} (h : Blk w g (enc K (List.replicate n 0)).toArray t) : Pad K t g n l p 0 w := by unfold Pad; rw [M.pp_zero]; exact h
theorem Pad.step {K : IntKind} {t : TypeId} {g n p k : Nat} {l : List Int} {w : World} (h : Pad K t g n l p k w) (hk : k < n) : Pad K t g n l p (k + 1) (w.setCell ⟨g, k, none⟩ (.int K (l.getD (p + k) 0))) := by
  have := Blk.set h k (.int K (l.getD (p + k) 0))
  have e : (enc K (M.pp n l p k)).toArray.setIfInBounds k (.int K (l.getD (p + k) 0)) = (enc K (M.pp n l p (k + 1))).toArray := by
    rw [← M.pp_set hk]
    simp [enc, List.map_set]
  rw [e] at this
  exact this
theorem Pad.cell {K : IntKind} {t : TypeId} {g n p k : Nat} {l : List Int} {w : World} (h : Pad K t g n l p k w) {j : Nat} (hj : j < n) : (∃ u, w.cell? ⟨g, j, none⟩ = some u) ∧ w.frozen? ⟨g, j, none⟩ = false :=
  ⟨⟨_, Blk.cell h (by rw [List.getElem?_toArray]; exact enc_get (by rw [M.pp_length]; exact hj))⟩, Blk.free h j⟩
theorem Pad.reads {K : IntKind} {t : TypeId} {g n p k : Nat} {l : List Int} {w : World} (h : Pad K t g n l p k w) (hk : k = n ∨ l.length ≤ p + k) (hw : ∀ z ∈ M.pd n l p, (Lit.int K z).wf = true) : Reads K g (g + 1) w (.slice (some ⟨g, 0, none⟩) n n) (M.pd n l p) := by
  unfold Pad at h
  rw [M.pp_end hk] at h
  have := reads_blk h hw
  rw [M.pd_length] at this
  exact this

set_option maxRecDepth 100000 in
set_option maxHeartbeats 1000000 in
theorem padded_any (n p lo hi : Nat) (l : List Int) (vl : Value) (w : World) (hr : Reads .i16 lo hi w vl l) (h1 : hi ≤ w.heap.size) (hp : p < l.length) (hl : l.length ≤ 300) (n0 : 1 ≤ n) (n1 : n ≤ 120) :
    Calls Tryd.prog 16 #[vl, .int .i64 p, .int .i64 n] w fun e w' => ∃ g, e = .returned (.slice (some ⟨g, 0, none⟩) n n) ∧ w.heap.size ≤ g ∧ w'.heap.size = g + 1 ∧ Reads .i16 g (g + 1) w' (.slice (some ⟨g, 0, none⟩) n n) (M.pd n l p) ∧ Below w.heap.size w w' := by
  have hlf : M.fits16 l := by obtain ⟨_, _, _, _, hw, _⟩ := hr; exact fit16.1 hw
  have HFit : Hid (∀ z ∈ M.pd n l p, (Lit.int .i16 z).wf = true) := fit16.2 (M.pd_fits hlf (by decide) (by decide) p)
  obtain ⟨a, c, rfl⟩ := hr.form
  obtain ⟨b, off, rfl, _, q1, hc⟩ := hr.cell (by omega)
  obtain ⟨L, hL⟩ : ∃ L, l.length = L := ⟨_, rfl⟩
  rw [hL] at hc hp hl ⊢
  have hmk := make16 w n (by omega)
  have hst : Pad .i16 56 w.heap.size n l p 0 (w.alloc (.cells (enc .i16 (List.replicate n 0)).toArray 56)) := Pad.start (Blk.new w _ _)
  generalize (enc .i16 (List.replicate n 0)).toArray = cs at hmk hst
  have bel0 : Below w.heap.size w (w.alloc (.cells cs 56)) := (Below.refl _ _).alloc (Nat.le_refl _) _
  have HC : Hid _ := hc
  have HL : Hid (l.length = L) := hL
  have HQ : Hid (b < w.heap.size) := by show b < w.heap.size; omega
  have b1 : (n : Int) ≤ 120 := by omega
  have bp : (p : Int) ≤ 300 := by omega
  have bL : (L : Int) ≤ 300 := by omega
  clear hr hlf hc hL q1 h1
  go_enter Tryd.func16, Tryd.ntmps16
  go_wp2
  go_loopw [8] (fun i wr => ∃ k : Nat, k ≤ n ∧ i = .int .i64 k ∧ Pad .i16 56 w.heap.size n l p k wr ∧ Below w.heap.size w wr ∧ wr.heap.size = w.heap.size + 1) (fun i _ => n - (intOf i).toNat)
  case atStart => exact ⟨0, by omega, rfl, hst, bel0, by simp⟩
  case round =>
    clear hst bel0 hmk
    obtain ⟨k, hk, rfl, hP, hB, hs⟩ := hrel
    by_cases hlt : k < n
    · have hlt' : (k : Int) < n := by omega
      by_cases hin : p + k < L
      · obtain ⟨q, hq⟩ : ∃ q, q = p + k := ⟨_, rfl⟩
        have hq' : (p : Int) + (k : Int) = (q : Int) := by omega
        have hq2 : (q : Int) < L := by omega
        have c1 := (cell_keep (hB.block b HQ.out)).trans (HC.out q (by omega))
        have hstep := hP.step hlt
        rw [← hq] at hstep
        obtain ⟨⟨u, hu⟩, hfz⟩ := hP.cell hlt
        have HS : Hid (Pad _ _ _ _ _ _ _ _) := hstep
        have HB : Hid (Below _ _ _) := hB
        generalize l.getD q 0 = y at *
        clear hP hstep hq hB
        go_wp2
        go_roundw
        case rel => exact ⟨k + 1, by omega, by go_num, HS.out, HB.out.setCell (Nat.le_refl _) _, by simpa [World.setCell] using hs⟩
        case measure => simp [intOf]; omega
      · have hin' : ¬ (p : Int) + (k : Int) < L := by omega
        have hr := hP.reads (.inr (by rw [HL.out]; omega)) HFit.out
        have HR : Hid (Reads _ _ _ _ _ _) := hr
        have HB : Hid (Below _ _ _) := hB
        clear hP hr hB
        go_wp2
        go_ret
        exact ⟨_, rfl, Nat.le_refl _, hs, HR.out, HB.out⟩
    · obtain rfl : k = n := by omega
      have hr := hP.reads (.inl rfl) HFit.out
      have HR : Hid (Reads _ _ _ _ _ _) := hr
      have HB : Hid (Below _ _ _) := hB
      clear hP hr hB
      go_wp2
      go_ret
      exact ⟨_, rfl, Nat.le_refl _, hs, HR.out, HB.out⟩

theorem may_any (n : Int) (w : World) : Calls Tryd.prog 12 #[.int .i64 n] w fun e w' => ∃ r : Bool, e = .returned (.bool r) ∧ w' = w ∧ (r = true ↔ (n = 40 ∨ n = 60 ∨ n = 80 ∨ n = 120)) := by
  rcases (by omega : n = 40 ∨ n = 60 ∨ n = 80 ∨ n = 120 ∨ (n ≠ 40 ∧ n ≠ 60 ∧ n ≠ 80 ∧ n ≠ 120)) with rfl | rfl | rfl | rfl | ⟨n0, n1, n2, n3⟩
  · go_enter Tryd.func12, Tryd.ntmps12
    go_wp2
    go_ret
    exact ⟨true, rfl, rfl, by decide⟩
  · go_enter Tryd.func12, Tryd.ntmps12
    go_wp2
    go_ret
    exact ⟨true, rfl, rfl, by decide⟩
  · go_enter Tryd.func12, Tryd.ntmps12
    go_wp2
    go_ret
    exact ⟨true, rfl, rfl, by decide⟩
  · go_enter Tryd.func12, Tryd.ntmps12
    go_wp2
    go_ret
    exact ⟨true, rfl, rfl, by decide⟩
  · have e0 : (n == 40) = false := by simpa using n0
    have e1 : (n == 60) = false := by simpa using n1
    have e2 : (n == 80) = false := by simpa using n2
    have e3 : (n == 120) = false := by simpa using n3
    go_enter Tryd.func12, Tryd.ntmps12
    go_wp2
    go_ret
    exact ⟨false, rfl, rfl, by simp; omega⟩

/-- one call of a lapper, of an unlapper, by the length alone -/
theorem feedL {n lo gl lo' hi' : Nat} {o x : List Int} {vx : Value} {w : World} (hn : M.len9 n) (h : Lap lo gl n o w) (hx : Reads .i16 lo' hi' w vx x) (hxl : x.length = n) (h1 : hi' ≤ w.heap.size) (hg : gl < lo' ∨ hi' ≤ gl) :
    Calls Tryd.prog 17 #[.pointer (some ⟨gl + 1, 0, none⟩), vx] w fun e w' => ∃ g, e = .returned (.tuple #[.slice (some ⟨g, 0, none⟩) n n, .int .i64 0]) ∧ Lap lo gl n x w' ∧ But gl w w' ∧ w.heap.size ≤ g ∧ w'.heap.size = g + 1 ∧ Reads .i32 g (g + 1) w' (.slice (some ⟨g, 0, none⟩) n n) (M.lp n o x) :=
  have hb := len_bd hn
  lapFeed n (2 * n) (8 * n) lo gl lo' hi' o x vx w h hx hxl h1 hg rfl rfl (by omega) (by omega)
theorem feedU {n lo gl lo' hi' : Nat} {o c : List Int} {vc : Value} {w : World} (hn : M.len9 n) (h : Unl lo gl n o w) (hc : Reads .i32 lo' hi' w vc c) (hcl : c.length = n) (h1 : hi' ≤ w.heap.size) (hg : gl < lo' ∨ hi' ≤ gl) :
    Calls Tryd.prog 20 #[.pointer (some ⟨gl + 1, 0, none⟩), vc] w fun e w' => ∃ g, e = .returned (.tuple #[.slice (some ⟨g, 0, none⟩) n n, .int .i64 0]) ∧ Unl lo gl n (M.ov n c) w' ∧ But gl w w' ∧ w.heap.size ≤ g ∧ w'.heap.size = g + 1 ∧ Reads .i32 g (g + 1) w' (.slice (some ⟨g, 0, none⟩) n n) (M.un n o c) :=
  have hb := len_bd hn
  unlFeed n (2 * n) (8 * n) lo gl lo' hi' o c vc w h hc hcl h1 hg rfl rfl (by omega) (by omega)

/-- a new bank, and a lapper on it -/
theorem madeL {n : Nat} (hn : M.len9 n) {w : World} (hT : Wave.Tab w) :
    Calls Tryd.prog 9 #[] w fun e w1 => ∃ bp, e = .returned (.pointer bp) ∧ Calls Tryd.prog 10 #[.pointer bp, .int .i64 n] w1 fun e w2 => ∃ gl, e = .returned (.tuple #[.pointer (some ⟨gl + 1, 0, none⟩), .int .i64 0]) ∧ Lap w.heap.size gl n (List.replicate n 0) w2 ∧ w2.heap.size = gl + 2 ∧ Below w.heap.size w w2 := by
  refine (Bank.new_any w).mono ?_
  rintro e w1 ⟨rfl, s1, hB1, bel1⟩
  refine ⟨_, rfl, (newLapper_ok n (2 * n) (n / 2) (n / 4) (8 * n) _ _ [] 0 w1 (lens_of hn) (tab_b bel1 (Nat.le_refl _) hT) hB1 (by simp) (by omega) (by omega)).mono ?_⟩
  rintro e w2 ⟨gl, rfl, hL, s2, -, bt⟩
  exact ⟨gl, rfl, hL.mono (by omega), s2, below_but bel1 bt (Nat.le_refl _) (Nat.le_refl _)⟩
theorem madeU {n : Nat} (hn : M.len9 n) {w : World} (hT : Wave.Tab w) :
    Calls Tryd.prog 9 #[] w fun e w1 => ∃ bp, e = .returned (.pointer bp) ∧ Calls Tryd.prog 11 #[.pointer bp, .int .i64 n] w1 fun e w2 => ∃ gl, e = .returned (.tuple #[.pointer (some ⟨gl + 1, 0, none⟩), .int .i64 0]) ∧ Unl w.heap.size gl n (List.replicate n 0) w2 ∧ w2.heap.size = gl + 2 ∧ Below w.heap.size w w2 := by
  refine (Bank.new_any w).mono ?_
  rintro e w1 ⟨rfl, s1, hB1, bel1⟩
  refine ⟨_, rfl, (newUnlapper_ok n (2 * n) (n / 2) (n / 4) (8 * n) _ _ [] 0 w1 (lens_of hn) (tab_b bel1 (Nat.le_refl _) hT) hB1 (by simp) (by omega) (by omega)).mono ?_⟩
  rintro e w2 ⟨gl, rfl, hL, s2, -, bt⟩
  exact ⟨gl, rfl, hL.mono (by omega), s2, below_but bel1 bt (Nat.le_refl _) (Nat.le_refl _)⟩

end Lapd
end Go.Proofs.YtjfhlaahgfdmnaaDoor
