/-
  The lists of conditions, and Check. Conditions: none.
-/
import Derived.Test.YthlpbekfjolenaaDoorFormConds
import Derived.Shelf.Abstract
namespace Go.Proofs.YthlpbekfjolenaaDoor
set_option linter.unusedVariables false
open Go.RowKit
namespace Form
open Bank (Blk But)
open Poly (alloc_size)

/-- the conditions of Sub, as they lie -/
def fnS : Array Value := #[.func (.func 36) #[] #[], .func (.func 37) #[] #[], .func (.func 38) #[] #[], .func (.func 39) #[] #[], .func (.func 41) #[] #[],
  .func (.func 42) #[] #[], .func (.func 43) #[] #[], .func (.func 44) #[] #[], .func (.func 45) #[] #[]]
def fnL : Array Value := #[.func (.func 36) #[] #[], .func (.func 37) #[] #[], .func (.func 47) #[] #[], .func (.func 50) #[] #[], .func (.func 51) #[] #[], .func (.func 52) #[] #[]]

theorem subConditions_any (w : World) : Calls Tryd.prog 34 #[] w fun e w' => e = .returned (.slice (some ⟨w.heap.size, 0, none⟩) 9 9) ∧ w' = w.alloc (.cells fnS 54) := by
  go_enter Tryd.func34, Tryd.ntmps34
  go_wp2
  go_ret
  exact ⟨rfl, rfl⟩
theorem lapConditions_any (w : World) : Calls Tryd.prog 35 #[] w fun e w' => e = .returned (.slice (some ⟨w.heap.size, 0, none⟩) 6 6) ∧ w' = w.alloc (.cells fnL 54) := by
  go_enter Tryd.func35, Tryd.ntmps35
  go_wp2
  go_ret
  exact ⟨rfl, rfl⟩

theorem conditionsOf_1 (w : World) : Calls Tryd.prog 31 #[.int .i64 1] w fun e w' => e = .returned (.slice (some ⟨w.heap.size, 0, none⟩) 9 9) ∧ w' = w.alloc (.cells fnS 54) := by
  go_enter Tryd.func31, Tryd.ntmps31
  go_wp2_with (go_at_call 34; refine (subConditions_any _).mono ?_; rintro e w' ⟨rfl, hw⟩; rw [hw]; clear hw w')
  go_ret
  exact ⟨rfl, rfl⟩
theorem conditionsOf_2 (w : World) : Calls Tryd.prog 31 #[.int .i64 2] w fun e w' => e = .returned (.slice (some ⟨w.heap.size, 0, none⟩) 6 6) ∧ w' = w.alloc (.cells fnL 54) := by
  go_enter Tryd.func31, Tryd.ntmps31
  go_wp2_with (go_at_call 35; refine (lapConditions_any _).mono ?_; rintro e w' ⟨rfl, hw⟩; rw [hw]; clear hw w')
  go_ret
  exact ⟨rfl, rfl⟩
theorem conditionsOf_no (c : Int) (w : World) (h1 : c ≠ 1) (h2 : c ≠ 2) : Calls Tryd.prog 31 #[.int .i64 c] w fun e w' => e = .returned (.slice none 0 0) ∧ w' = w := by
  have e1 : (c == 1) = false := by simpa using h1
  have e2 : (c == 2) = false := by simpa using h2
  go_enter Tryd.func31, Tryd.ntmps31
  go_wp2
  go_ret
  exact ⟨rfl, rfl⟩

/-- each condition of a list answers, if those ahead of it hold -/
def Each (f : M.Fmt) (fs : Array Value) (n : Nat) (C : Nat → Prop) : Prop :=
  ∀ k, k < n → (∀ i, i < k → C i) → ∃ K, fs[k]? = some (.func (.func K) #[] #[]) ∧ Enters Tryd.prog K ∧ ∀ w, Calls Tryd.prog K #[fv f] w fun e w' => Says (C k) w e w'

theorem each_S (f : M.Fmt) : Each f fnS 9 (M.cS f) := by
  intro k hk hp
  match k, hk with
  | 0, _ => exact ⟨_, rfl, enters_of Tryd.func36 (by kernel_rfl) rfl, hasRate_any f⟩
  | 1, _ => exact ⟨_, rfl, enters_of Tryd.func37 (by kernel_rfl) rfl, hasChannels_any f⟩
  | 2, _ => exact ⟨_, rfl, enters_of Tryd.func38 (by kernel_rfl) rfl, bands_any f⟩
  | 3, _ => exact ⟨_, rfl, enters_of Tryd.func39 (by kernel_rfl) rfl, blocks_any f⟩
  | 4, _ => exact ⟨_, rfl, enters_of Tryd.func41 (by kernel_rfl) rfl, method_any f⟩
  | 5, _ => exact ⟨_, rfl, enters_of Tryd.func42 (by kernel_rfl) rfl, joint_any f⟩
  | 6, _ => exact ⟨_, rfl, enters_of Tryd.func43 (by kernel_rfl) rfl, fun w => pool_any f w (hp 2 (by omega)) (hp 1 (by omega))⟩
  | 7, _ => exact ⟨_, rfl, enters_of Tryd.func44 (by kernel_rfl) rfl, zeros_any f⟩
  | 8, _ =>
    have h1 : 1 ≤ f.h ∧ f.h ≤ 2 := hp 1 (by omega)
    have h3 : (4 ≤ f.k ∧ f.k ≤ 16) ∧ f.k % 4 = 0 := hp 3 (by omega)
    have h6 : 2 ≤ f.p ∧ f.p ≤ 16 * f.b * f.h ∧ f.p ≤ 250 := hp 6 (by omega)
    exact ⟨_, rfl, enters_of Tryd.func45 (by kernel_rfl) rfl, fun w => subFits_any f w (hp 2 (by omega)) (by omega) (by omega) (by omega)⟩
theorem each_L (f : M.Fmt) : Each f fnL 6 (M.cL f) := by
  intro k hk hp
  match k, hk with
  | 0, _ => exact ⟨_, rfl, enters_of Tryd.func36 (by kernel_rfl) rfl, hasRate_any f⟩
  | 1, _ => exact ⟨_, rfl, enters_of Tryd.func37 (by kernel_rfl) rfl, hasChannels_any f⟩
  | 2, _ => exact ⟨_, rfl, enters_of Tryd.func47 (by kernel_rfl) rfl, length_any f⟩
  | 3, _ => exact ⟨_, rfl, enters_of Tryd.func50 (by kernel_rfl) rfl, bytes_any f⟩
  | 4, _ => exact ⟨_, rfl, enters_of Tryd.func51 (by kernel_rfl) rfl, only_any f⟩
  | 5, _ =>
    have h1 : 1 ≤ f.h ∧ f.h ≤ 2 := hp 1 (by omega)
    have h3 : 20 ≤ f.y ∧ f.y ≤ 120 := hp 3 (by omega)
    exact ⟨_, rfl, enters_of Tryd.func52 (by kernel_rfl) rfl, fun w => lapFits_any f w (by omega) (by omega)⟩

theorem blk_below {B k : Nat} {w w' : World} {cur : Array Value} {t : TypeId} (h : Below B w w') (hb : Blk w k cur t) (hk : k < B) : Blk w' k cur t := (h.block k hk).trans hb

/-- Check's answer: 0 where C holds, else the error -/
def Tells (C : Prop) (w : World) (e : Ending) (w' : World) : Prop := ∃ q : Bool, e = .returned (.int .i64 (if q then 0 else 110)) ∧ Below w.heap.size w w' ∧ (q = true ↔ C)

theorem Check_run (f : M.Fmt) (fs : Array Value) (n : Nat) (C : Nat → Prop) (w : World) (hE : Each f fs n C) (h0 : 0 < n) (h9 : n ≤ 9)
    (hC : ∀ wx, Calls Tryd.prog 31 #[.int .i64 f.c] wx fun e w' => e = .returned (.slice (some ⟨wx.heap.size, 0, none⟩) n n) ∧ w' = wx.alloc (.cells fs 54)) :
    Calls Tryd.prog 21 #[fv f] w fun e w' => Tells (∀ i, i < n → C i) w e w' := by
  obtain ⟨c, r, h, b, k, m, j, p, l, y⟩ := f
  have HE : Hid _ := hE
  clear hE
  unfold fv
  dsimp only at hC ⊢
  have n0 : ¬ (n : Int) = 0 := by omega
  have n1 : ((n : Int) == 0) = false := by simpa using n0
  have n9 : (n : Int) ≤ 9 := by omega
  go_enter Tryd.func21, Tryd.ntmps21
  go_wp2_with (go_at_call 31; refine (hC _).mono ?_; rintro e w2 ⟨rfl, hw2⟩; have hlist : Blk w2 (w.heap.size + 1) fs 54 := (by rw [hw2, ← alloc_size w (.cells (fc ⟨c, r, h, b, k, m, j, p, l, y⟩) 23)]; exact Blk.new _ _ _); have hbox : Blk w2 w.heap.size (fc ⟨c, r, h, b, k, m, j, p, l, y⟩) 23 := (by rw [hw2]; exact (Blk.new w _ _).alloc _); have bel2 : Below w.heap.size w w2 := (by rw [hw2]; exact (bel1 _ _).alloc (bel1 _ _).size _); clear hw2)
  clear hC
  go_loopw [14] (fun i wr => ∃ q : Nat, q ≤ n ∧ i = .int .i64 q ∧ (∀ i, i < q → C i) ∧ Below w.heap.size w wr ∧ Blk wr w.heap.size (fc ⟨c, r, h, b, k, m, j, p, l, y⟩) 23 ∧ Blk wr (w.heap.size + 1) fs 54) (fun i _ => n - (intOf i).toNat)
  case atStart => exact ⟨0, by omega, rfl, fun i hi => absurd hi (by omega), bel2, hbox, hlist⟩
  case round =>
    clear hbox hlist bel2
    obtain ⟨q, hq, rfl, hall, belr, hbox, hlist⟩ := hrel
    by_cases hlt : q < n
    · obtain ⟨K, hK, hent, hcall⟩ := HE.out q hlt hall
      have hc := hlist.cell hK
      have x0 : wr.cell? ⟨w.heap.size, 0, none⟩ = some (.int .i64 c) := hbox.cell rfl
      have x1 : wr.cell? ⟨w.heap.size, 1, none⟩ = some (.int .i64 r) := hbox.cell rfl
      have x2 : wr.cell? ⟨w.heap.size, 2, none⟩ = some (.int .i64 h) := hbox.cell rfl
      have x3 : wr.cell? ⟨w.heap.size, 3, none⟩ = some (.int .i64 b) := hbox.cell rfl
      have x4 : wr.cell? ⟨w.heap.size, 4, none⟩ = some (.int .i64 k) := hbox.cell rfl
      have x5 : wr.cell? ⟨w.heap.size, 5, none⟩ = some (.int .i64 m) := hbox.cell rfl
      have x6 : wr.cell? ⟨w.heap.size, 6, none⟩ = some (.int .i64 j) := hbox.cell rfl
      have x7 : wr.cell? ⟨w.heap.size, 7, none⟩ = some (.int .i64 p) := hbox.cell rfl
      have x8 : wr.cell? ⟨w.heap.size, 8, none⟩ = some (.int .i64 l) := hbox.cell rfl
      have x9 : wr.cell? ⟨w.heap.size, 9, none⟩ = some (.int .i64 y) := hbox.cell rfl
      have HA : Hid (∀ i, i < q → C i) := hall
      have HB : Hid (Blk wr w.heap.size (fc ⟨c, r, h, b, k, m, j, p, l, y⟩) 23) := hbox
      have HL : Hid (Blk wr (w.heap.size + 1) fs 54) := hlist
      clear hall hbox hlist hK
      have hlt' : (q : Int) < n := by omega
      unfold fv at hcall
      dsimp only at hcall
      unfold Enters at hent
      have HC := Classical.em (C q)
      rcases HC with HC | HC
      · replace HC : Hid (C q) := HC
        go_wp2_with (go_at_fn K; refine (hcall _).mono ?_; rintro e w3 ⟨z, rfl, bel3, hz⟩; obtain rfl : z = true := hz.2 HC.out; clear hz)
        go_roundw
        case rel =>
          refine ⟨q + 1, by omega, by go_num, fun i hi => ?_, belr.trans (bel3.mono belr.size), blk_below bel3 HB.out HB.out.lt, blk_below bel3 HL.out HL.out.lt⟩
          rcases (by omega : i < q ∨ i = q) with h | h
          · exact HA.out i h
          · rw [h]; exact HC.out
        case measure => simp [intOf]; omega
      · replace HC : Hid (¬ C q) := HC
        go_wp2_with (go_at_fn K; refine (hcall _).mono ?_; rintro e w3 ⟨z, rfl, bel3, hz⟩; obtain rfl : z = false := Bool.eq_false_iff.2 (fun h => HC.out (hz.1 h)); clear hz)
        go_ret
        exact ⟨false, rfl, belr.trans (bel3.mono belr.size), by simp; exact ⟨q, hlt, HC.out⟩⟩
    · obtain rfl : q = n := by omega
      have HA : Hid (∀ i, i < q → C i) := hall
      clear hall
      go_wp2
      go_ret
      exact ⟨true, rfl, belr, by simp; exact HA.out⟩

/-- Check answers 0 of a format, 110 of anything else -/
theorem Check_any (f : M.Fmt) (w : World) : Calls Tryd.prog 21 #[fv f] w fun e w' => Tells (M.okF f) w e w' := by
  rcases (by omega : f.c = 1 ∨ f.c = 2 ∨ (f.c ≠ 1 ∧ f.c ≠ 2)) with hc | hc | ⟨h1, h2⟩
  · refine (Check_run f fnS 9 (M.cS f) w (each_S f) (by omega) (by omega) (fun wx => by rw [hc]; exact conditionsOf_1 wx)).mono ?_
    rintro e w' ⟨q, he, hb, hq⟩
    refine ⟨q, he, hb, hq.trans ((M.cS_all f hc).trans ⟨.inl, fun h => h.resolve_right (fun h' => ?_)⟩)⟩
    have := h'.1
    omega
  · refine (Check_run f fnL 6 (M.cL f) w (each_L f) (by omega) (by omega) (fun wx => by rw [hc]; exact conditionsOf_2 wx)).mono ?_
    rintro e w' ⟨q, he, hb, hq⟩
    refine ⟨q, he, hb, hq.trans ((M.cL_all f hc).trans ⟨.inr, fun h => h.resolve_left (fun h' => ?_)⟩)⟩
    have := h'.1
    omega
  · have hno : ¬ M.okF f := by
      rintro (h | h)
      · exact h1 h.1
      · exact h2 h.1
    have HN : Hid (¬ M.okF f) := hno
    clear hno
    have hc := fun wx => conditionsOf_no f.c wx h1 h2
    clear h1 h2
    generalize M.okF f = O at *
    obtain ⟨c, r, h, b, k, m, j, p, l, y⟩ := f
    unfold fv
    dsimp only at hc ⊢
    go_enter Tryd.func21, Tryd.ntmps21
    go_wp2_with (go_at_call 31; refine (hc _).mono ?_; rintro e w2 ⟨rfl, hw2⟩; rw [hw2]; clear hw2 w2)
    go_ret
    exact ⟨false, rfl, bel1 _ _, by simp; exact HN.out⟩

end Form
end Go.Proofs.YthlpbekfjolenaaDoor
