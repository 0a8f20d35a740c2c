import Derived.Shelf.Abstract
import Derived.Test.YtcaifpjbjghhaaaGreatDoorSubP18
import Derived.Test.YtcaifpjbjghhaaaGreatDoorSubP12
import Derived.Deep.RegionHeld3
import Derived.BigQuiet
/-
  The lists of conditions, and Check. Conditions: none.
-/
namespace Go.Proofs.YtcaifpjbjghhaaaGreatDoor
set_option linter.unusedVariables false
open Go.RowKit
namespace Form
open Bank (Blk But)
open Poly (alloc_size)

def fnS : Array Value := #[.func (.func 224) #[] #[], .func (.func 225) #[] #[], .func (.func 226) #[] #[], .func (.func 227) #[] #[], .func (.func 229) #[] #[],
  .func (.func 230) #[] #[], .func (.func 231) #[] #[], .func (.func 232) #[] #[], .func (.func 233) #[] #[]]
def fnL : Array Value := #[.func (.func 224) #[] #[], .func (.func 225) #[] #[], .func (.func 234) #[] #[], .func (.func 237) #[] #[], .func (.func 238) #[] #[], .func (.func 239) #[] #[]]

theorem subConditions_any (w : World) : Calls Tryz.prog 198 #[] w fun e w' => e = .returned (.slice (some ⟨w.heap.size, 0, none⟩) 9 9) ∧ w' = w.alloc (.cells fnS 259) := by
  go_enter Tryz.func198, Tryz.ntmps198
  go_wp2
  go_ret
  exact ⟨rfl, rfl⟩
theorem lapConditions_any (w : World) : Calls Tryz.prog 199 #[] w fun e w' => e = .returned (.slice (some ⟨w.heap.size, 0, none⟩) 6 6) ∧ w' = w.alloc (.cells fnL 259) := by
  go_enter Tryz.func199, Tryz.ntmps199
  go_wp2
  go_ret
  exact ⟨rfl, rfl⟩

theorem conditionsOf_1 (w : World) : Calls Tryz.prog 156 #[.int .i64 1] w fun e w' => e = .returned (.slice (some ⟨w.heap.size, 0, none⟩) 9 9) ∧ w' = w.alloc (.cells fnS 259) := by
  go_enter Tryz.func156, Tryz.ntmps156
  go_wp2_with (go_at_call 198; refine (subConditions_any _).mono ?_; rintro e w' ⟨rfl, hw⟩; rw [hw]; clear hw w')
  go_ret
  exact ⟨rfl, rfl⟩
theorem conditionsOf_2 (w : World) : Calls Tryz.prog 156 #[.int .i64 2] w fun e w' => e = .returned (.slice (some ⟨w.heap.size, 0, none⟩) 6 6) ∧ w' = w.alloc (.cells fnL 259) := by
  go_enter Tryz.func156, Tryz.ntmps156
  go_wp2_with (go_at_call 199; refine (lapConditions_any _).mono ?_; rintro e w' ⟨rfl, hw⟩; rw [hw]; clear hw w')
  go_ret
  exact ⟨rfl, rfl⟩
theorem conditionsOf_no (c : Int) (w : World) (h1 : c ≠ 1) (h2 : c ≠ 2) : Calls Tryz.prog 156 #[.int .i64 c] w fun e w' => e = .returned (.slice none 0 0) ∧ w' = w := by
  have e1 : (c == 1) = false := by simpa using h1
  have e2 : (c == 2) = false := by simpa using h2
  go_enter Tryz.func156, Tryz.ntmps156
  go_wp2
  go_ret
  exact ⟨rfl, rfl⟩

def Each (f : M.Fmt) (fs : Array Value) (n : Nat) (C : Nat → Prop) : Prop :=
  ∀ k, k < n → (∀ i, i < k → C i) → ∃ K, fs[k]? = some (.func (.func K) #[] #[]) ∧ Enters Tryz.prog K ∧ ∀ w, Calls Tryz.prog K #[fv f] w fun e w' => Says (C k) w e w'

theorem each_S (f : M.Fmt) : Each f fnS 9 (M.cS f) := by
  intro k hk hp
  match k, hk with
  | 0, _ => exact ⟨_, rfl, enters_of Tryz.func224 (by kernel_rfl) rfl, hasRate_any f⟩
  | 1, _ => exact ⟨_, rfl, enters_of Tryz.func225 (by kernel_rfl) rfl, hasChannels_any f⟩
  | 2, _ => exact ⟨_, rfl, enters_of Tryz.func226 (by kernel_rfl) rfl, bands_any f⟩
  | 3, _ => exact ⟨_, rfl, enters_of Tryz.func227 (by kernel_rfl) rfl, blocks_any f⟩
  | 4, _ => exact ⟨_, rfl, enters_of Tryz.func229 (by kernel_rfl) rfl, method_any f⟩
  | 5, _ => exact ⟨_, rfl, enters_of Tryz.func230 (by kernel_rfl) rfl, joint_any f⟩
  | 6, _ => exact ⟨_, rfl, enters_of Tryz.func231 (by kernel_rfl) rfl, fun w => pool_any f w (hp 2 (by omega)) (hp 1 (by omega))⟩
  | 7, _ => exact ⟨_, rfl, enters_of Tryz.func232 (by kernel_rfl) rfl, zeros_any f⟩
  | 8, _ =>
    have h1 : 1 ≤ f.h ∧ f.h ≤ 2 := hp 1 (by omega)
    have h3 : (4 ≤ f.k ∧ f.k ≤ 16) ∧ f.k % 4 = 0 := hp 3 (by omega)
    have h6 : 2 ≤ f.p ∧ f.p ≤ 16 * f.b * f.h ∧ f.p ≤ 250 := hp 6 (by omega)
    exact ⟨_, rfl, enters_of Tryz.func233 (by kernel_rfl) rfl, fun w => subFits_any f w (hp 2 (by omega)) (by omega) (by omega) (by omega)⟩
theorem each_L (f : M.Fmt) : Each f fnL 6 (M.cL f) := by
  intro k hk hp
  match k, hk with
  | 0, _ => exact ⟨_, rfl, enters_of Tryz.func224 (by kernel_rfl) rfl, hasRate_any f⟩
  | 1, _ => exact ⟨_, rfl, enters_of Tryz.func225 (by kernel_rfl) rfl, hasChannels_any f⟩
  | 2, _ => exact ⟨_, rfl, enters_of Tryz.func234 (by kernel_rfl) rfl, length_any f⟩
  | 3, _ => exact ⟨_, rfl, enters_of Tryz.func237 (by kernel_rfl) rfl, bytes_any f⟩
  | 4, _ => exact ⟨_, rfl, enters_of Tryz.func238 (by kernel_rfl) rfl, only_any f⟩
  | 5, _ =>
    have h1 : 1 ≤ f.h ∧ f.h ≤ 2 := hp 1 (by omega)
    have h3 : 20 ≤ f.y ∧ f.y ≤ 120 := hp 3 (by omega)
    exact ⟨_, rfl, enters_of Tryz.func239 (by kernel_rfl) rfl, fun w => lapFits_any f w (by omega) (by omega)⟩

theorem blk_below {B k : Nat} {w w' : World} {cur : Array Value} {t : TypeId} (h : Below B w w') (hb : Blk w k cur t) (hk : k < B) : Blk w' k cur t := (h.block k hk).trans hb

def Tells (C : Prop) (w : World) (e : Ending) (w' : World) : Prop := ∃ q : Bool, e = .returned (.int .i64 (if q then 0 else 110)) ∧ Below w.heap.size w w' ∧ (q = true ↔ C)

theorem Check_run (f : M.Fmt) (fs : Array Value) (n : Nat) (C : Nat → Prop) (w : World) (hE : Each f fs n C) (h0 : 0 < n) (h9 : n ≤ 9)
    (hC : ∀ wx, Calls Tryz.prog 156 #[.int .i64 f.c] wx fun e w' => e = .returned (.slice (some ⟨wx.heap.size, 0, none⟩) n n) ∧ w' = wx.alloc (.cells fs 259)) :
    Calls Tryz.prog 100 #[fv f] w fun e w' => Tells (∀ i, i < n → C i) w e w' := by
  obtain ⟨c, r, h, b, k, m, j, p, l, y⟩ := f
  have HE : Hid _ := hE
  clear hE
  unfold fv
  dsimp only at hC ⊢
  have n0 : ¬ (n : Int) = 0 := by omega
  have n1 : ((n : Int) == 0) = false := by simpa using n0
  have n9 : (n : Int) ≤ 9 := by omega
  go_enter Tryz.func100, Tryz.ntmps100
  go_wp2_with (go_at_call 156; refine (hC _).mono ?_; rintro e w2 ⟨rfl, hw2⟩; have hlist : Blk w2 (w.heap.size + 1) fs 259 := (by rw [hw2, ← alloc_size w (.cells (fc ⟨c, r, h, b, k, m, j, p, l, y⟩) 23)]; exact Blk.new _ _ _); have hbox : Blk w2 w.heap.size (fc ⟨c, r, h, b, k, m, j, p, l, y⟩) 23 := (by rw [hw2]; exact (Blk.new w _ _).alloc _); have bel2 : Below w.heap.size w w2 := (by rw [hw2]; exact (bel1 _ _).alloc (bel1 _ _).size _); clear hw2)
  clear hC
  go_loopw [14] (fun i wr => ∃ q : Nat, q ≤ n ∧ i = .int .i64 q ∧ (∀ i, i < q → C i) ∧ Below w.heap.size w wr ∧ Blk wr w.heap.size (fc ⟨c, r, h, b, k, m, j, p, l, y⟩) 23 ∧ Blk wr (w.heap.size + 1) fs 259) (fun i _ => n - (intOf i).toNat)
  case atStart => exact ⟨0, by omega, rfl, fun i hi => absurd hi (by omega), bel2, hbox, hlist⟩
  case round =>
    clear hbox hlist bel2
    obtain ⟨q, hq, rfl, hall, belr, hbox, hlist⟩ := hrel
    by_cases hlt : q < n
    · obtain ⟨K, hK, hent, hcall⟩ := HE.out q hlt hall
      have hc := hlist.cell hK
      have x0 : wr.cell? ⟨w.heap.size, 0, none⟩ = some (.int .i64 c) := hbox.cell rfl
      have x1 : wr.cell? ⟨w.heap.size, 1, none⟩ = some (.int .i64 r) := hbox.cell rfl
      have x2 : wr.cell? ⟨w.heap.size, 2, none⟩ = some (.int .i64 h) := hbox.cell rfl
      have x3 : wr.cell? ⟨w.heap.size, 3, none⟩ = some (.int .i64 b) := hbox.cell rfl
      have x4 : wr.cell? ⟨w.heap.size, 4, none⟩ = some (.int .i64 k) := hbox.cell rfl
      have x5 : wr.cell? ⟨w.heap.size, 5, none⟩ = some (.int .i64 m) := hbox.cell rfl
      have x6 : wr.cell? ⟨w.heap.size, 6, none⟩ = some (.int .i64 j) := hbox.cell rfl
      have x7 : wr.cell? ⟨w.heap.size, 7, none⟩ = some (.int .i64 p) := hbox.cell rfl
      have x8 : wr.cell? ⟨w.heap.size, 8, none⟩ = some (.int .i64 l) := hbox.cell rfl
      have x9 : wr.cell? ⟨w.heap.size, 9, none⟩ = some (.int .i64 y) := hbox.cell rfl
      have HA : Hid (∀ i, i < q → C i) := hall
      have HB : Hid (Blk wr w.heap.size (fc ⟨c, r, h, b, k, m, j, p, l, y⟩) 23) := hbox
      have HL : Hid (Blk wr (w.heap.size + 1) fs 259) := hlist
      clear hall hbox hlist hK
      have hlt' : (q : Int) < n := by omega
      unfold fv at hcall
      dsimp only at hcall
      unfold Enters at hent
      have HC := Classical.em (C q)
      rcases HC with HC | HC
      · replace HC : Hid (C q) := HC
        go_wp2_with (go_at_fn K; refine (hcall _).mono ?_; rintro e w3 ⟨z, rfl, bel3, hz⟩; obtain rfl : z = true := hz.2 HC.out; clear hz)
        go_roundw
        case rel =>
          refine ⟨q + 1, by omega, by go_num, fun i hi => ?_, belr.trans (bel3.mono belr.size), blk_below bel3 HB.out HB.out.lt, blk_below bel3 HL.out HL.out.lt⟩
          rcases (by omega : i < q ∨ i = q) with h | h
          · exact HA.out i h
          · rw [h]; exact HC.out
        case measure => simp [intOf]; omega
      · replace HC : Hid (¬ C q) := HC
        go_wp2_with (go_at_fn K; refine (hcall _).mono ?_; rintro e w3 ⟨z, rfl, bel3, hz⟩; obtain rfl : z = false := Bool.eq_false_iff.2 (fun h => HC.out (hz.1 h)); clear hz)
        go_ret
        exact ⟨false, rfl, belr.trans (bel3.mono belr.size), by simp; exact ⟨q, hlt, HC.out⟩⟩
    · obtain rfl : q = n := by omega
      have HA : Hid (∀ i, i < q → C i) := hall
      clear hall
      go_wp2
      go_ret
      exact ⟨true, rfl, belr, by simp; exact HA.out⟩

theorem Check_any (f : M.Fmt) (w : World) : Calls Tryz.prog 100 #[fv f] w fun e w' => Tells (M.okF f) w e w' := by
  rcases (by omega : f.c = 1 ∨ f.c = 2 ∨ (f.c ≠ 1 ∧ f.c ≠ 2)) with hc | hc | ⟨h1, h2⟩
  · refine (Check_run f fnS 9 (M.cS f) w (each_S f) (by omega) (by omega) (fun wx => by rw [hc]; exact conditionsOf_1 wx)).mono ?_
    rintro e w' ⟨q, he, hb, hq⟩
    refine ⟨q, he, hb, hq.trans ((M.cS_all f hc).trans ⟨.inl, fun h => h.resolve_right (fun h' => ?_)⟩)⟩
    have := h'.1
    omega
  · refine (Check_run f fnL 6 (M.cL f) w (each_L f) (by omega) (by omega) (fun wx => by rw [hc]; exact conditionsOf_2 wx)).mono ?_
    rintro e w' ⟨q, he, hb, hq⟩
    refine ⟨q, he, hb, hq.trans ((M.cL_all f hc).trans ⟨.inr, fun h => h.resolve_left (fun h' => ?_)⟩)⟩
    have := h'.1
    omega
  · have hno : ¬ M.okF f := by
      rintro (h | h)
      · exact h1 h.1
      · exact h2 h.1
    have HN : Hid (¬ M.okF f) := hno
    clear hno
    have hc := fun wx => conditionsOf_no f.c wx h1 h2
    clear h1 h2
    generalize M.okF f = O at *
    obtain ⟨c, r, h, b, k, m, j, p, l, y⟩ := f
    unfold fv
    dsimp only at hc ⊢
    go_enter Tryz.func100, Tryz.ntmps100
    go_wp2_with (go_at_call 156; refine (hc _).mono ?_; rintro e w2 ⟨rfl, hw2⟩; rw [hw2]; clear hw2 w2)
    go_ret
    exact ⟨false, rfl, bel1 _ _, by simp; exact HN.out⟩

end Form
end Go.Proofs.YtcaifpjbjghhaaaGreatDoor

/-
  Samples, Payload, Bits: of a format what the chapter says, of anything else 0. Conditions: none.
-/
namespace Go.Proofs.YtcaifpjbjghhaaaGreatDoor
set_option linter.unusedVariables false
open Go.RowKit
namespace Form
open Bank (Blk But)
open Poly (alloc_size)

theorem Check_ok (f : M.Fmt) (w : World) (h : M.okF f) : Calls Tryz.prog 100 #[fv f] w fun e w' => e = .returned (.int .i64 0) ∧ Below w.heap.size w w' := by
  refine (Check_any f w).mono ?_
  rintro e w' ⟨q, rfl, hb, hq⟩
  obtain rfl : q = true := hq.2 h
  exact ⟨rfl, hb⟩
theorem Check_no (f : M.Fmt) (w : World) (h : ¬ M.okF f) : Calls Tryz.prog 100 #[fv f] w fun e w' => e = .returned (.int .i64 110) ∧ Below w.heap.size w w' := by
  refine (Check_any f w).mono ?_
  rintro e w' ⟨q, rfl, hb, hq⟩
  obtain rfl : q = false := Bool.eq_false_iff.2 (fun h' => h (hq.1 h'))
  exact ⟨rfl, hb⟩

theorem box_cells {w : World} {g : Nat} {f : M.Fmt} (h : Blk w g (fc f) 23) : w.cell? ⟨g, 0, none⟩ = some (.int .i64 f.c) ∧ w.cell? ⟨g, 1, none⟩ = some (.int .i64 f.r) ∧ w.cell? ⟨g, 2, none⟩ = some (.int .i64 f.h) ∧ w.cell? ⟨g, 3, none⟩ = some (.int .i64 f.b) ∧ w.cell? ⟨g, 4, none⟩ = some (.int .i64 f.k) ∧
    w.cell? ⟨g, 5, none⟩ = some (.int .i64 f.m) ∧ w.cell? ⟨g, 6, none⟩ = some (.int .i64 f.j) ∧ w.cell? ⟨g, 7, none⟩ = some (.int .i64 f.p) ∧ w.cell? ⟨g, 8, none⟩ = some (.int .i64 f.l) ∧ w.cell? ⟨g, 9, none⟩ = some (.int .i64 f.y) :=
  ⟨h.cell rfl, h.cell rfl, h.cell rfl, h.cell rfl, h.cell rfl, h.cell rfl, h.cell rfl, h.cell rfl, h.cell rfl, h.cell rfl⟩
theorem box_behind {w w2 : World} {f : M.Fmt} (h : Below (w.alloc (.cells (fc f) 23)).heap.size (w.alloc (.cells (fc f) 23)) w2) : Blk w2 w.heap.size (fc f) 23 ∧ Below w.heap.size w w2 :=
  ⟨blk_below h (Blk.new _ _ _) (by simp), (bel1 _ _).trans (h.mono (bel1 _ _).size)⟩

theorem Samples_S (f : M.Fmt) (w : World) (h : M.okS f) : Calls Tryz.prog 86 #[fv f] w fun e w' => e = .returned (.int .i64 (f.b * f.k)) ∧ Below w.heap.size w w' := by
  have hc := fun wx => Check_ok f wx (.inl h)
  obtain ⟨h1, -, hh, hb, hk, -, -, hp0, -, hp1, -⟩ := id h
  have hx : 0 ≤ f.b * f.k ∧ f.b * f.k ≤ 128 := by rcases hb with h | h <;> rcases hk with h2 | h2 | h2 | h2 <;> rw [h, h2] <;> omega
  clear hb hk hh
  clear h
  obtain ⟨c, r, h, b, k, m, j, p, l, y⟩ := f
  unfold fv at hc ⊢
  dsimp only at hc h1 hx ⊢
  subst h1
  go_enter Tryz.func86, Tryz.ntmps86
  go_wp2_with (first
    | (go_at_call 100; refine (hc _).mono ?_; rintro e w2 ⟨rfl, bel2⟩; obtain ⟨hb2, belw⟩ := box_behind (f := ⟨1, r, h, b, k, m, j, p, l, y⟩) bel2; clear bel2; have xs := box_cells hb2; dsimp only at xs; obtain ⟨x0, x1, x2, x3, x4, x5, x6, x7, x8, x9⟩ := xs; clear hb2; clear hc))
  go_ret
  exact ⟨rfl, belw⟩

theorem Samples_L (f : M.Fmt) (w : World) (h : M.okL f) : Calls Tryz.prog 86 #[fv f] w fun e w' => e = .returned (.int .i64 (f.l)) ∧ Below w.heap.size w w' := by
  have hc := fun wx => Check_ok f wx (.inr h)
  obtain ⟨h1, -, hh, -, -, hy0, hy1⟩ := id h
  clear h
  obtain ⟨c, r, h, b, k, m, j, p, l, y⟩ := f
  unfold fv at hc ⊢
  dsimp only at hc h1 hy0 ⊢
  subst h1
  go_enter Tryz.func86, Tryz.ntmps86
  go_wp2_with (first
    | (go_at_call 100; refine (hc _).mono ?_; rintro e w2 ⟨rfl, bel2⟩; obtain ⟨hb2, belw⟩ := box_behind (f := ⟨2, r, h, b, k, m, j, p, l, y⟩) bel2; clear bel2; have xs := box_cells hb2; dsimp only at xs; obtain ⟨x0, x1, x2, x3, x4, x5, x6, x7, x8, x9⟩ := xs; clear hb2; clear hc))
  go_ret
  exact ⟨rfl, belw⟩

theorem Samples_ok (f : M.Fmt) (w : World) (h : M.okF f) : Calls Tryz.prog 86 #[fv f] w fun e w' => e = .returned (.int .i64 (M.sam f)) ∧ Below w.heap.size w w' := by
  rcases h with h | h
  · rw [show M.sam f = f.b * f.k from if_pos h.1]
    exact Samples_S f w h
  · rw [show M.sam f = f.l from if_neg (by have := h.1; omega)]
    exact Samples_L f w h

theorem Payload_S (f : M.Fmt) (w : World) (h : M.okS f) : Calls Tryz.prog 69 #[fv f] w fun e w' => e = .returned (.int .i64 ((M.bitS f + 7) / 8)) ∧ Below w.heap.size w w' := by
  have hc := fun wx => Check_ok f wx (.inl h)
  obtain ⟨h1, -, hh, hb, hk, -, -, hp0, -, hp1, -⟩ := id h
  have hd := fun wx => subBytes_any f wx hb hh hk (by omega)
  generalize (M.bitS f + 7) / 8 = V at *
  clear hb hk hh
  clear h
  obtain ⟨c, r, h, b, k, m, j, p, l, y⟩ := f
  unfold fv at hc ⊢
  dsimp only at hc h1 hd ⊢
  subst h1
  go_enter Tryz.func69, Tryz.ntmps69
  go_wp2_with (first
    | (go_at_call 100; refine (hc _).mono ?_; rintro e w2 ⟨rfl, bel2⟩; obtain ⟨hb2, belw⟩ := box_behind (f := ⟨1, r, h, b, k, m, j, p, l, y⟩) bel2; clear bel2; have xs := box_cells hb2; dsimp only at xs; obtain ⟨x0, x1, x2, x3, x4, x5, x6, x7, x8, x9⟩ := xs; clear hb2; clear hc)
    | (go_at_call 129; refine (hd _).mono ?_; rintro e w3 ⟨rfl, bel3⟩))
  go_ret
  exact ⟨rfl, belw.trans (bel3.mono belw.size)⟩

theorem Payload_L (f : M.Fmt) (w : World) (h : M.okL f) : Calls Tryz.prog 69 #[fv f] w fun e w' => e = .returned (.int .i64 (f.y * f.h)) ∧ Below w.heap.size w w' := by
  have hc := fun wx => Check_ok f wx (.inr h)
  obtain ⟨h1, -, hh, -, -, hy0, hy1⟩ := id h
  have hd := fun wx => lapBytes_any f wx hh (by omega)
  generalize f.y * f.h = V at *
  clear hh
  clear h
  obtain ⟨c, r, h, b, k, m, j, p, l, y⟩ := f
  unfold fv at hc ⊢
  dsimp only at hc h1 hd ⊢
  subst h1
  go_enter Tryz.func69, Tryz.ntmps69
  go_wp2_with (first
    | (go_at_call 100; refine (hc _).mono ?_; rintro e w2 ⟨rfl, bel2⟩; obtain ⟨hb2, belw⟩ := box_behind (f := ⟨2, r, h, b, k, m, j, p, l, y⟩) bel2; clear bel2; have xs := box_cells hb2; dsimp only at xs; obtain ⟨x0, x1, x2, x3, x4, x5, x6, x7, x8, x9⟩ := xs; clear hb2; clear hc)
    | (go_at_call 130; refine (hd _).mono ?_; rintro e w3 ⟨rfl, bel3⟩))
  go_ret
  exact ⟨rfl, belw.trans (bel3.mono belw.size)⟩

theorem Payload_ok (f : M.Fmt) (w : World) (h : M.okF f) : Calls Tryz.prog 69 #[fv f] w fun e w' => e = .returned (.int .i64 (M.pay f)) ∧ Below w.heap.size w w' := by
  rcases h with h | h
  · rw [show M.pay f = (M.bitS f + 7) / 8 from if_pos h.1]
    exact Payload_S f w h
  · rw [show M.pay f = f.y * f.h from if_neg (by have := h.1; omega)]
    exact Payload_L f w h

end Form
end Go.Proofs.YtcaifpjbjghhaaaGreatDoor

/-
  Numbers of channels' bands in memory, and the walk that tells each band. Conditions: as told at each.
-/
namespace Go.Proofs.YtcaifpjbjghhaaaGreatDoor
set_option linter.unusedVariables false
open Go.RowKit
namespace Alloc
open Bank (Blk But)
open Poly (alloc_size)
open _root_.Go.Proofs.YtcaifpjbjghhaaaGreatDoor.Form (fv fc bel1 blk_below)

structure Grid (a C B : Nat) (F : Nat → Int) (w : World) : Prop where
  head : ∃ hd : Array Value, Blk w a hd 25 ∧ hd.size = C ∧ ∀ c, c < C → hd[c]? = some (.slice (some ⟨a + 1 + c, 0, none⟩) B B)
  row : ∀ c, c < C → ∃ tab : Array Value, Blk w (a + 1 + c) tab 3 ∧ tab.size = B ∧ ∀ b, b < B → tab[b]? = some (.int .i64 (F (b * C + c)))
theorem Grid.keep {a C B : Nat} {F : Nat → Int} {w w' : World} (h : Grid a C B F w) (hk : ∀ b, a ≤ b → b ≤ a + C → w'.heap[b]? = w.heap[b]?) : Grid a C B F w' := by
  obtain ⟨⟨hd, h1, h2⟩, h3⟩ := h
  refine ⟨⟨hd, (hk a (Nat.le_refl _) (by omega)).trans h1, h2⟩, fun c hc => ?_⟩
  obtain ⟨tab, t1, t2⟩ := h3 c hc
  exact ⟨tab, (hk _ (by omega) (by omega)).trans t1, t2⟩
theorem Grid.lt {a C B : Nat} {F : Nat → Int} {w : World} (h : Grid a C B F w) : a + C < w.heap.size := by
  rcases Nat.eq_zero_or_pos C with h0 | h0
  · obtain ⟨⟨hd, h1, _⟩, _⟩ := h
    have := h1.lt; omega
  · obtain ⟨tab, t1, _⟩ := h.row (C - 1) (by omega)
    have := t1.lt; omega
theorem Grid.below {a C B N : Nat} {F : Nat → Int} {w w' : World} (h : Grid a C B F w) (hb : Below N w w') (hN : a + C < N) : Grid a C B F w' := h.keep fun b h0 h1 => hb.block b (by omega)
theorem Grid.grow {a C B : Nat} {F : Nat → Int} {w w' : World} (h : Grid a C B F w) (hb : Below w.heap.size w w') : Grid a C B F w' := h.below hb h.lt
theorem Grid.at_head {a C B : Nat} {F : Nat → Int} {w : World} (h : Grid a C B F w) {c : Nat} (hc : c < C) : w.cell? ⟨a, c, none⟩ = some (.slice (some ⟨a + 1 + c, 0, none⟩) B B) := by
  obtain ⟨⟨hd, h1, _, h2⟩, _⟩ := h
  exact h1.cell (h2 c hc)
theorem Grid.at {a C B : Nat} {F : Nat → Int} {w : World} (h : Grid a C B F w) {c b : Nat} (hc : c < C) (hb : b < B) : w.cell? ⟨a + 1 + c, b, none⟩ = some (.int .i64 (F (b * C + c))) := by
  obtain ⟨tab, t1, _, t2⟩ := h.row c hc
  exact t1.cell (t2 b hb)
theorem Grid.free {a C B : Nat} {F : Nat → Int} {w : World} (h : Grid a C B F w) {c : Nat} (hc : c < C) (b : Nat) : w.frozen? ⟨a + 1 + c, b, none⟩ = false := by
  obtain ⟨tab, t1, _⟩ := h.row c hc
  exact t1.free b
theorem place {C c c' b b' : Nat} (h : c < C) (h' : c' < C) (e : b * C + c = b' * C + c') : b = b' ∧ c = c' := by
  have h1 : (b * C + c) % C = c := by rw [Nat.mul_comm, Nat.mul_add_mod, Nat.mod_eq_of_lt h]
  have h2 : (b' * C + c') % C = c' := by rw [Nat.mul_comm, Nat.mul_add_mod, Nat.mod_eq_of_lt h']
  have hc : c = c' := by rw [← h1, ← h2, e]
  subst hc
  have : b * C = b' * C := by omega
  exact ⟨Nat.eq_of_mul_eq_mul_right (by omega) this, rfl⟩
theorem Grid.set {a C B : Nat} {F G : Nat → Int} {w : World} (h : Grid a C B F w) {c b : Nat} (hc : c < C) (hb : b < B) {x : Int} (hx : x = G (b * C + c)) (ho : ∀ j, j ≠ b * C + c → G j = F j) : Grid a C B G (w.setCell ⟨a + 1 + c, b, none⟩ (.int .i64 x)) := by
  obtain ⟨⟨hd, h1, h2⟩, h3⟩ := h
  refine ⟨⟨hd, h1.set_ne (by show a ≠ a + 1 + c; omega) _, h2⟩, fun c' hc' => ?_⟩
  obtain ⟨tab, t1, t2, t3⟩ := h3 c' hc'
  by_cases e : c' = c
  · subst e
    refine ⟨_, t1.set b _, by simpa using t2, fun b' hb' => ?_⟩
    rw [Array.getElem?_setIfInBounds]
    split
    · rename_i e; subst e; rw [if_pos (by omega), hx]
    · rename_i e
      rw [t3 b' hb', ho _ (fun e' => e (place hc' hc' e').1.symm)]
  · refine ⟨tab, t1.set_ne (by show a + 1 + c' ≠ a + 1 + c; omega) _, t2, fun b' hb' => ?_⟩
    rw [t3 b' hb', ho _ (fun e' => e (place hc' hc e').2)]
theorem Grid.set_ne {a C B : Nat} {F : Nat → Int} {w : World} (h : Grid a C B F w) {p : Addr} (hp : p.block < a ∨ a + C < p.block) (v : Value) : Grid a C B F (w.setCell p v) :=
  h.keep fun b h0 h1 => Below.heap_setCell _ _ _ _ (by omega)
theorem Grid.ext {a C B : Nat} {F G : Nat → Int} {w : World} (h : Grid a C B F w) (e : ∀ j, j < B * C → F j = G j) : Grid a C B G w := by
  refine ⟨h.head, fun c hc => ?_⟩
  obtain ⟨tab, t1, t2, t3⟩ := h.row c hc
  refine ⟨tab, t1, t2, fun b hb => ?_⟩
  have h1 : (b + 1) * C ≤ B * C := Nat.mul_le_mul_right C hb
  rw [Nat.succ_mul] at h1
  rw [t3 b hb, e _ (by omega)]
theorem Grid.drew {a C B : Nat} {F : Nat → Int} {w : World} (h : Grid a C B F w) : Grid a C B F w.drew := ⟨h.head, h.row⟩
theorem Grid.drewN {a C B : Nat} {F : Nat → Int} {w : World} (h : Grid a C B F w) (m : Nat) : Grid a C B F (w.drewN m) := ⟨h.head, h.row⟩

structure Stay (N : Nat) (w w' : World) : Prop where
  size : w.heap.size ≤ w'.heap.size
  block : ∀ k, N ≤ k → k < w.heap.size → w'.heap[k]? = w.heap[k]?
theorem Stay.refl (N : Nat) (w : World) : Stay N w w := ⟨Nat.le_refl _, fun _ _ _ => rfl⟩
theorem Stay.trans {N : Nat} {a b c : World} (h : Stay N a b) (k : Stay N b c) : Stay N a c :=
  ⟨Nat.le_trans h.size k.size, fun i h0 h1 => (k.block i h0 (Nat.lt_of_lt_of_le h1 h.size)).trans (h.block i h0 h1)⟩
theorem Stay.blk {N : Nat} {w w' : World} (h : Stay N w w') {k : Nat} {cur : Array Value} {t : TypeId} (hk : Blk w k cur t) (hN : N ≤ k) : Blk w' k cur t := (h.block k hN hk.lt).trans hk
theorem Stay.of_below {N : Nat} {w w' : World} (h : Below w.heap.size w w') : Stay N w w' := ⟨h.size, fun k _ hk => h.block k hk⟩
theorem Stay.drew {N : Nat} {w w' : World} (h : Stay N w w') : Stay N w w'.drew := ⟨h.size, h.block⟩
theorem Stay.set {N : Nat} {w w' : World} (h : Stay N w w') {p : Addr} (hp : p.block < N) (v : Value) : Stay N w (w'.setCell p v) :=
  ⟨by simpa [World.setCell] using h.size, fun k h0 h1 => by rw [Below.heap_setCell _ _ _ _ (by omega)]; exact h.block k h0 h1⟩
theorem Stay.alloc {N : Nat} {w w' : World} (h : Stay N w w') (o : Obj) : Stay N w (w'.alloc o) :=
  ⟨by rw [alloc_size]; have := h.size; omega, fun k h0 h1 => by rw [Below.heap_alloc _ _ _ (Nat.lt_of_lt_of_le h1 h.size)]; exact h.block k h0 h1⟩

def Told (C B N : Nat) (K : FuncId) (caps : Array Value) (I : Nat → World → Prop) : Prop :=
  ∀ (c b : Nat) (w : World), c < C → b < B → N < w.heap.size → I (b * C + c) w → Calls Tryz.prog K (#[.int .i64 (c : Int), .int .i64 (b : Int)] ++ caps) w fun e w' => e = .returned (.tuple #[]) ∧ I (b * C + c + 1) w' ∧ Stay N w w'

set_option maxRecDepth 100000 in
theorem through_any (f : M.Fmt) (C B : Nat) (K : FuncId) (caps : Array Value) (I : Nat → World → Prop) (w : World) (hC : f.h = C) (hB : f.b = B) (c2 : C ≤ 2) (b8 : B ≤ 8)
    (hK : Enters Tryz.prog K) (hI : ∀ k w w', I k w → Below w.heap.size w w' → I k w') (hT : Told C B w.heap.size K caps I) (h0 : I 0 w) :
    Calls Tryz.prog 200 #[fv f, .func (.func K) #[] caps] w fun e w' => e = .returned (.tuple #[]) ∧ I (B * C) w' := by
  obtain ⟨c, r, h, b, k, m, j, p, l, y⟩ := f
  obtain rfl : h = C := hC
  obtain rfl : b = B := hB
  have HT : Hid _ := hT
  have HI : Hid (I 0 (w.alloc (.cells (fc ⟨c, r, C, B, k, m, j, p, l, y⟩) 23))) := hI 0 _ _ h0 (bel1 w _)
  have HB : Hid (Blk (w.alloc (.cells (fc ⟨c, r, C, B, k, m, j, p, l, y⟩) 23)) w.heap.size (fc ⟨c, r, C, B, k, m, j, p, l, y⟩) 23) := Blk.new w _ _
  clear hT hI h0
  have C1 : (C : Int) ≤ 2 := by omega
  have B1 : (B : Int) ≤ 8 := by omega
  unfold Enters at hK
  unfold fv
  dsimp only
  go_enter Tryz.func200, Tryz.ntmps200
  go_wp2
  go_loopw [8] (fun i wr => ∃ n : Nat, n ≤ B ∧ i = .int .i64 n ∧ I (n * C) wr ∧ Blk wr w.heap.size (fc ⟨c, r, C, B, k, m, j, p, l, y⟩) 23) (fun i _ => B - (intOf i).toNat)
  case atStart => exact ⟨0, by omega, rfl, by rw [Nat.zero_mul]; exact HI.out, HB.out⟩
  case round =>
    clear HI HB
    obtain ⟨n, hn, rfl, hi, hb⟩ := hrel
    have HI : Hid (I (n * C) wr) := hi
    have HB : Hid (Blk wr w.heap.size (fc ⟨c, r, C, B, k, m, j, p, l, y⟩) 23) := hb
    have x2 : wr.cell? ⟨w.heap.size, 2, none⟩ = some (.int .i64 C) := hb.cell rfl
    clear hi hb
    by_cases hlt : n < B
    · have hlt' : (n : Int) < B := by omega
      go_wp2
      go_loopw [13] (fun i w2 => ∃ q : Nat, q ≤ C ∧ i = .int .i64 q ∧ I (n * C + q) w2 ∧ Blk w2 w.heap.size (fc ⟨c, r, C, B, k, m, j, p, l, y⟩) 23) (fun i _ => C - (intOf i).toNat)
      case atStart => exact ⟨0, by omega, rfl, HI.out, HB.out⟩
      case round =>
        clear HI HB x2
        obtain ⟨q, hq, rfl, hi, hb⟩ := hrel
        by_cases hql : q < C
        · have hql' : (q : Int) < C := by omega
          have hcall := HT.out q n wr hql hlt hb.lt hi
          have HB : Hid (Blk wr w.heap.size (fc ⟨c, r, C, B, k, m, j, p, l, y⟩) 23) := hb
          clear hi hb
          go_wp2_with (go_at_fn K; refine hcall.mono ?_; rintro e w3 ⟨rfl, h1, h2⟩; replace h1 : Hid (I (n * C + q + 1) w3) := h1)
          go_roundw
          case rel => exact ⟨q + 1, by omega, by go_num, h1.out, h2.blk HB.out (Nat.le_refl _)⟩
          case measure => simp [intOf]; omega
        · obtain rfl : q = C := by omega
          have HI : Hid (I (n * q + q) wr) := hi
          have HB : Hid (Blk wr w.heap.size (fc ⟨c, r, q, B, k, m, j, p, l, y⟩) 23) := hb
          clear hi hb
          go_wp2
          go_roundw
          case rel => exact ⟨n + 1, by omega, by go_num, by rw [Nat.succ_mul]; exact HI.out, HB.out⟩
          case measure => simp [intOf]; omega
    · obtain rfl : n = B := by omega
      go_wp2
      go_end0
      exact ⟨rfl, HI.out⟩

end Alloc
end Go.Proofs.YtcaifpjbjghhaaaGreatDoor

/-
  Contracts of package alloc: what bands need. Conditions: as told at each; the offsets stand as their initialisers lay them.
-/
namespace Go.Proofs.YtcaifpjbjghhaaaGreatDoor
set_option linter.unusedVariables false
open Go.RowKit
namespace Alloc
open Bank (Blk But)
open Poly (alloc_size Rows Reads enc madeCells_rep enc_rep cell_keep enc_get)
open _root_.Go.Proofs.YtcaifpjbjghhaaaGreatDoor.Form (fv fc bel1 blk_below box_cells box_behind)

abbrev arr4 : Array Value := #[.int .i64 (-1), .int .i64 0, .int .i64 0, .int .i64 0, .int .i64 (-2), .int .i64 0, .int .i64 0, .int .i64 1, .int .i64 (-2), .int .i64 0, .int .i64 0, .int .i64 1, .int .i64 (-2), .int .i64 0, .int .i64 0, .int .i64 1]
abbrev arr8 : Array Value := #[.int .i64 (-2), .int .i64 0, .int .i64 0, .int .i64 0, .int .i64 0, .int .i64 0, .int .i64 0, .int .i64 1, .int .i64 (-3), .int .i64 0, .int .i64 0, .int .i64 0, .int .i64 0, .int .i64 0, .int .i64 1, .int .i64 2,
  .int .i64 (-4), .int .i64 0, .int .i64 0, .int .i64 0, .int .i64 0, .int .i64 0, .int .i64 1, .int .i64 2, .int .i64 (-4), .int .i64 0, .int .i64 0, .int .i64 0, .int .i64 0, .int .i64 0, .int .i64 1, .int .i64 2]
def Tabs (w : World) : Prop := (∃ t fr, w.heap[0]? = some (.cells arr4 t fr)) ∧ ∃ t fr, w.heap[1]? = some (.cells arr8 t fr)
theorem Tabs.below {w w' : World} {N : Nat} (h : Tabs w) (hb : Below N w w') (hN : w.heap.size ≤ N) : Tabs w' := by
  obtain ⟨⟨t, fr, h1⟩, ⟨t2, fr2, h2⟩⟩ := h
  have l1 := (Array.getElem?_eq_some_iff.1 h1).1
  have l2 := (Array.getElem?_eq_some_iff.1 h2).1
  exact ⟨⟨t, fr, (hb.block _ (by omega)).trans h1⟩, ⟨t2, fr2, (hb.block _ (by omega)).trans h2⟩⟩
theorem tab4_cell {w : World} (h : Tabs w) {i : Nat} (hi : i < 16) : w.cell? ⟨0, i, none⟩ = some (.int .i64 (M.tab4.getD i 0)) := by
  obtain ⟨⟨t, fr, h1⟩, _⟩ := h
  have e : arr4[i]? = some (.int .i64 (M.tab4.getD i 0)) := by
    have : arr4 = (enc .i64 M.tab4).toArray := rfl
    rw [this, List.getElem?_toArray]; exact enc_get (by show i < 16; exact hi)
  simp only [World.cell?, h1]; exact e
theorem tab8_cell {w : World} (h : Tabs w) {i : Nat} (hi : i < 32) : w.cell? ⟨1, i, none⟩ = some (.int .i64 (M.tab8.getD i 0)) := by
  obtain ⟨_, ⟨t, fr, h1⟩⟩ := h
  have e : arr8[i]? = some (.int .i64 (M.tab8.getD i 0)) := by
    have : arr8 = (enc .i64 M.tab8).toArray := rfl
    rw [this, List.getElem?_toArray]; exact enc_get (by show i < 32; exact hi)
  simp only [World.cell?, h1]; exact e

theorem byLoudness_any (x o : Int) (w : World) (h0 : 0 ≤ x) (h1 : x ≤ 15) (o0 : -4 ≤ o) (o1 : o ≤ 2) : Calls Tryz.prog 202 #[.int .i64 x, .int .i64 o] w fun e w' => e = .returned (.int .i64 (M.loud x o)) ∧ w' = w := by
  by_cases hx : x = 0
  · subst hx
    go_enter Tryz.func202, Tryz.ntmps202
    go_wp2
    go_ret
    exact ⟨rfl, rfl⟩
  · have e1 : (x == 0) = false := by simpa using hx
    by_cases hn : 0 < x - o
    · have H : Hid ((x - o).tdiv 2 = M.loud x o) := by
        show (x - o).tdiv 2 = M.loud x o
        unfold M.loud
        rw [if_neg hx, if_pos hn, Int.tdiv_eq_ediv_of_nonneg (by omega)]
      go_enter Tryz.func202, Tryz.ntmps202
      go_wp2
      go_ret
      refine ⟨Form.ret_int ?_, rfl⟩
      first | exact H.out | (have := H.out; rw [Int.tdiv_eq_ediv_of_nonneg (by omega)] at this; exact this)
    · have H : Hid (x - o = M.loud x o) := by
        show x - o = M.loud x o
        unfold M.loud
        rw [if_neg hx, if_neg hn]
      go_enter Tryz.func202, Tryz.ntmps202
      go_wp2
      go_ret
      exact ⟨Form.ret_int H.out, rfl⟩

theorem offset_4 (f : M.Fmt) (r b : Nat) (w : World) (hT : Tabs w) (hB : f.b = 4) (hr : f.r = r) (r3 : r ≤ 3) (hb : b < 4) : Calls Tryz.prog 203 #[fv f, .int .i64 (b : Int)] w fun e w' => e = .returned (.int .i64 (M.off 4 r b)) ∧ Below w.heap.size w w' := by
  have hc := tab4_cell (w := w.alloc (.cells (fc f) 23)) (hT.below (bel1 w _) (Nat.le_refl _)) (i := r * 4 + b) (by omega)
  have HO : Hid (M.tab4.getD (r * 4 + b) 0 = M.off 4 r b) := by show _ = M.off 4 r b; unfold M.off; rw [if_pos rfl, Nat.mul_comm]
  generalize M.tab4.getD (r * 4 + b) 0 = y at *
  generalize M.off 4 r b = z at *
  obtain ⟨c, r', h, b', k, m, j, p, l, y'⟩ := f
  obtain rfl : r' = r := hr
  obtain rfl : b' = 4 := hB
  have r3' : (r : Int) ≤ 3 := by omega
  have hb' : (b : Int) < 4 := by omega
  unfold fc at hc
  unfold fv
  dsimp only at hc ⊢
  clear hT
  go_enter Tryz.func203, Tryz.ntmps203
  go_wp2
  go_ret
  exact ⟨Form.ret_int HO.out, bel1 _ _⟩

theorem offset_8 (f : M.Fmt) (r b : Nat) (w : World) (hT : Tabs w) (hB : f.b = 8) (hr : f.r = r) (r3 : r ≤ 3) (hb : b < 8) : Calls Tryz.prog 203 #[fv f, .int .i64 (b : Int)] w fun e w' => e = .returned (.int .i64 (M.off 8 r b)) ∧ Below w.heap.size w w' := by
  have hc := tab8_cell (w := w.alloc (.cells (fc f) 23)) (hT.below (bel1 w _) (Nat.le_refl _)) (i := r * 8 + b) (by omega)
  have HO : Hid (M.tab8.getD (r * 8 + b) 0 = M.off 8 r b) := by show _ = M.off 8 r b; unfold M.off; rw [if_neg (by decide), Nat.mul_comm]
  generalize M.tab8.getD (r * 8 + b) 0 = y at *
  generalize M.off 8 r b = z at *
  obtain ⟨c, r', h, b', k, m, j, p, l, y'⟩ := f
  obtain rfl : r' = r := hr
  obtain rfl : b' = 8 := hB
  have r3' : (r : Int) ≤ 3 := by omega
  have hb' : (b : Int) < 8 := by omega
  unfold fc at hc
  unfold fv
  dsimp only at hc ⊢
  clear hT
  go_enter Tryz.func203, Tryz.ntmps203
  go_wp2
  go_ret
  exact ⟨Form.ret_int HO.out, bel1 _ _⟩

theorem offset_any (f : M.Fmt) (B r b : Nat) (w : World) (hT : Tabs w) (h48 : B = 4 ∨ B = 8) (hB : f.b = B) (hr : f.r = r) (r3 : r ≤ 3) (hb : b < B) : Calls Tryz.prog 203 #[fv f, .int .i64 (b : Int)] w fun e w' => e = .returned (.int .i64 (M.off B r b)) ∧ Below w.heap.size w w' := by
  rcases h48 with rfl | rfl
  · exact offset_4 f r b w hT hB hr r3 hb
  · exact offset_8 f r b w hT hB hr r3 hb

theorem infoI : (Tryz.prog.info? 3).map (fun i => (i.zero, i.size, i.bytes)) = some (some (.int .i64 0), 1, 8) := by kernel_rfl
theorem infoSI : (Tryz.prog.info? 25).map (fun i => (i.zero, i.size, i.bytes)) = some (some (.slice none 0 0), 1, 24) := by kernel_rfl
theorem makeI (w : World) (n : Nat) (hn : n ≤ 65536) : (Instr.makeSlice 25 (.int .i64 n) (.int .i64 n)).run Tryz.prog w = .ok (.slice (some ⟨w.heap.size, 0, none⟩) n n) (w.alloc (.cells (enc .i64 (List.replicate n 0)).toArray 3)) := by
  obtain ⟨i0, hi, hz0, hz1, hz2⟩ := info_parts infoI
  have := run_make (P := Tryz.prog) w 25 3 i0 (.int .i64 0) Tryz.underlying25 hi hz0 .i64 .i64 n n (by omega) (by omega) (by rw [hz2]; omega) (by omega)
  rw [this, hz1, enc_rep, ← madeCells_rep]; simp [Value.cells]
theorem makeSI (w : World) (n : Nat) (hn : n ≤ 65536) : (Instr.makeSlice 26 (.int .i64 n) (.int .i64 n)).run Tryz.prog w = .ok (.slice (some ⟨w.heap.size, 0, none⟩) n n) (w.alloc (.cells (List.replicate n (.slice none 0 0)).toArray 25)) := by
  obtain ⟨i0, hi, hz0, hz1, hz2⟩ := info_parts infoSI
  have := run_make (P := Tryz.prog) w 26 25 i0 (.slice none 0 0) Tryz.underlying26 hi hz0 .i64 .i64 n n (by omega) (by omega) (by rw [hz2]; omega) (by omega)
  rw [this, hz1, ← madeCells_rep]; simp [Value.cells]

structure Laid (a C B k : Nat) (w : World) : Prop where
  head : ∃ hd : Array Value, Blk w a hd 25 ∧ hd.size = C ∧ ∀ c, c < k → hd[c]? = some (.slice (some ⟨a + 1 + c, 0, none⟩) B B)
  row : ∀ c, c < k → Blk w (a + 1 + c) (enc .i64 (List.replicate B 0)).toArray 3
  size : w.heap.size = a + 1 + k
theorem Laid.step {a C B k : Nat} {w : World} (h : Laid a C B k w) (hk : k < C) : Laid a C B (k + 1) ((w.alloc (.cells (enc .i64 (List.replicate B 0)).toArray 3)).setCell ⟨a, k, none⟩ (.slice (some ⟨a + 1 + k, 0, none⟩) B B)) := by
  obtain ⟨⟨hd, h1, h2, h3⟩, h4, h5⟩ := h
  refine ⟨⟨_, (h1.alloc _).set _ _, by simpa using h2, fun r hr => ?_⟩, fun r hr => ?_, ?_⟩
  · rw [Array.getElem?_setIfInBounds]
    split
    · rename_i e; subst e; rw [if_pos (by omega)]
    · exact h3 r (by omega)
  · rcases (by omega : r < k ∨ r = k) with h' | rfl
    · exact ((h4 r h').alloc _).set_ne (by show a + 1 + r ≠ a; omega) _
    · refine Blk.set_ne ?_ (by show a + 1 + r ≠ a; omega) _
      rw [← h5]; exact Blk.new w _ _
  · simp [World.setCell, h5]; omega
theorem Laid.cell {a C B k : Nat} {w : World} (h : Laid a C B k w) (hk : k < C) : (∃ u, (w.alloc (.cells (enc .i64 (List.replicate B 0)).toArray 3)).cell? ⟨a, k, none⟩ = some u) ∧ (w.alloc (.cells (enc .i64 (List.replicate B 0)).toArray 3)).frozen? ⟨a, k, none⟩ = false := by
  obtain ⟨⟨hd, h1, h2, h3⟩, h4, h5⟩ := h
  exact ⟨⟨hd[k]'(by omega), (h1.alloc _).cell (by simp [h2, hk])⟩, (h1.alloc _).free k⟩
theorem Laid.grid {a C B : Nat} {w : World} (h : Laid a C B C w) : Grid a C B (fun _ => 0) w := by
  refine ⟨h.head, fun c hc => ⟨_, h.row c hc, by simp [enc], fun b hb => ?_⟩⟩
  rw [List.getElem?_toArray, enc_get (by simpa using hb)]
  rw [List.getD_eq_getElem?_getD, List.getElem?_replicate, if_pos hb]; rfl

set_option maxRecDepth 100000 in
theorem blank_any (f : M.Fmt) (C B : Nat) (w : World) (hC : f.h = C) (hB : f.b = B) (c2 : C ≤ 2) (b8 : B ≤ 8) : Calls Tryz.prog 162 #[fv f] w fun e w' =>
    e = .returned (.slice (some ⟨w.heap.size + 1, 0, none⟩) C C) ∧ Below w.heap.size w w' ∧ Grid (w.heap.size + 1) C B (fun _ => 0) w' ∧ w'.heap.size = w.heap.size + 2 + C := by
  have hmk := makeSI (w.alloc (.cells (fc f) 23)) C (by omega)
  rw [alloc_size] at hmk
  have hst : Laid (w.heap.size + 1) C B 0 ((w.alloc (.cells (fc f) 23)).alloc (.cells (List.replicate C (.slice none 0 0)).toArray 25)) :=
    ⟨⟨_, by rw [← alloc_size w (.cells (fc f) 23)]; exact Blk.new _ _ _, by simp, fun c hc => absurd hc (by omega)⟩, fun c hc => absurd hc (by omega), by simp⟩
  have hbel : Below w.heap.size w ((w.alloc (.cells (fc f) 23)).alloc (.cells (List.replicate C (.slice none 0 0)).toArray 25)) := (bel1 _ _).alloc (bel1 _ _).size _
  have hbox : Blk ((w.alloc (.cells (fc f) 23)).alloc (.cells (List.replicate C (.slice none 0 0)).toArray 25)) w.heap.size (fc f) 23 := (Blk.new w _ _).alloc _
  have HS : Hid _ := hst
  have HL : Hid (Below w.heap.size w _) := hbel
  have HX : Hid (Blk _ w.heap.size (fc f) 23) := hbox
  clear hst hbel hbox
  generalize (List.replicate C (Value.slice none 0 0)).toArray = cs at *
  obtain ⟨c, r, h, b, k, m, j, p, l, y⟩ := f
  obtain rfl : h = C := hC
  obtain rfl : b = B := hB
  have C1 : (C : Int) ≤ 2 := by omega
  have B1 : (B : Int) ≤ 8 := by omega
  unfold fv
  unfold fc at hmk HS HL HX
  dsimp only at hmk ⊢
  go_enter Tryz.func162, Tryz.ntmps162
  go_wp2
  go_loopw [10] (fun i wr => ∃ n : Nat, n ≤ C ∧ i = .int .i64 n ∧ Laid (w.heap.size + 1) C B n wr ∧ Below w.heap.size w wr ∧ Blk wr w.heap.size (fc ⟨c, r, C, B, k, m, j, p, l, y⟩) 23) (fun i _ => C - (intOf i).toNat)
  case atStart => exact ⟨0, by omega, rfl, HS.out, HL.out, HX.out⟩
  case round =>
    clear HS HL HX hmk
    obtain ⟨n, hn, rfl, hl, hbw, hx⟩ := hrel
    by_cases hlt : n < C
    · have hlt' : (n : Int) < C := by omega
      have x3 : wr.cell? ⟨w.heap.size, 3, none⟩ = some (.int .i64 B) := hx.cell rfl
      have hmk := makeI wr B (by omega)
      rw [hl.size] at hmk
      obtain ⟨⟨u, hu⟩, hfz⟩ := hl.cell hlt
      have HS : Hid (Laid (w.heap.size + 1) C B (n + 1) _) := hl.step hlt
      have HL : Hid (Below w.heap.size w ((wr.alloc (.cells (enc .i64 (List.replicate B 0)).toArray 3)).setCell ⟨w.heap.size + 1, n, none⟩ (.slice (some ⟨w.heap.size + 1 + 1 + n, 0, none⟩) B B))) := (hbw.alloc hbw.size _).setCell (by show w.heap.size ≤ w.heap.size + 1; omega) _
      have HX : Hid (Blk ((wr.alloc (.cells (enc .i64 (List.replicate B 0)).toArray 3)).setCell ⟨w.heap.size + 1, n, none⟩ (.slice (some ⟨w.heap.size + 1 + 1 + n, 0, none⟩) B B)) w.heap.size (fc ⟨c, r, C, B, k, m, j, p, l, y⟩) 23) := (hx.alloc _).set_ne (by show w.heap.size ≠ w.heap.size + 1; omega) _
      clear hl hbw hx
      generalize (enc .i64 (List.replicate B 0)).toArray = cs2 at *
      go_wp2
      go_roundw
      case rel => exact ⟨n + 1, by omega, by go_num, HS.out, HL.out, HX.out⟩
      case measure => simp [intOf]; omega
    · obtain rfl : n = C := by omega
      have HS : Hid _ := hl
      clear hl hx
      go_wp2
      go_ret
      exact ⟨rfl, hbw, HS.out.grid, HS.out.size⟩

end Alloc
end Go.Proofs.YtcaifpjbjghhaaaGreatDoor

/-
  Contracts of package alloc: needsOf. Conditions: as told at each; the offsets stand as their initialisers lay them.
-/
namespace Go.Proofs.YtcaifpjbjghhaaaGreatDoor
set_option linter.unusedVariables false
open Go.RowKit
namespace Alloc
open Bank (Blk But)
open Poly (alloc_size enc cell_keep below_drew)
open _root_.Go.Proofs.YtcaifpjbjghhaaaGreatDoor.Form (fv fc bel1 blk_below box_cells of_drew)

theorem cell_set_ne {w : World} {p q o : Nat} (v : Value) {b : Nat} (h : b ≠ p) : (w.setCell ⟨p, q, none⟩ v).cell? ⟨b, o, none⟩ = w.cell? ⟨b, o, none⟩ := by
  simp [World.cell?, Below.heap_setCell _ _ _ _ (show b ≠ (⟨p, q, none⟩ : Addr).block from h)]

structure Nds (W : World) (f : M.Fmt) (vs : Value) (q a C B : Nat) (n : Nat → Int) (k : Nat) (wr : World) : Prop where
  bel : Below W.heap.size W wr
  fmt : Blk wr W.heap.size (fc f) 23
  sca : Blk wr (W.heap.size + 1) #[vs] 26
  lst : Blk wr q #[.slice (some ⟨a, 0, none⟩) C C] 26
  grid : Grid a C B (fun j => if j < k then n j else 0) wr
theorem Nds.grow {W : World} {f : M.Fmt} {vs : Value} {q a C B : Nat} {n : Nat → Int} {k : Nat} {w w' : World} (h : Nds W f vs q a C B n k w) (hb : Below w.heap.size w w') : Nds W f vs q a C B n k w' :=
  ⟨h.bel.trans (hb.mono h.bel.size), blk_below hb h.fmt h.fmt.lt, blk_below hb h.sca h.sca.lt, blk_below hb h.lst h.lst.lt, h.grid.grow hb⟩
theorem Nds.drew {W : World} {f : M.Fmt} {vs : Value} {q a C B : Nat} {n : Nat → Int} {k : Nat} {w : World} (h : Nds W f vs q a C B n k w) : Nds W f vs q a C B n k w.drew := ⟨below_drew h.bel, h.fmt, h.sca, h.lst, h.grid.drew⟩
theorem Nds.step {W : World} {f : M.Fmt} {vs : Value} {q a C B : Nat} {n : Nat → Int} {c b : Nat} {w : World} (h : Nds W f vs q a C B n (b * C + c) w) (hc : c < C) (hb : b < B) (ha : W.heap.size + 1 < a) (hq : a + C < q) {x : Int} (hx : x = n (b * C + c)) : Nds W f vs q a C B n (b * C + c + 1) (w.setCell ⟨a + 1 + c, b, none⟩ (.int .i64 x)) := by
  refine ⟨h.bel.setCell (by show W.heap.size ≤ a + 1 + c; omega) _, h.fmt.set_ne (by show W.heap.size ≠ a + 1 + c; omega) _, h.sca.set_ne (by show W.heap.size + 1 ≠ a + 1 + c; omega) _, h.lst.set_ne (by show q ≠ a + 1 + c; omega) _, h.grid.set hc hb ?_ ?_⟩
  · rw [if_pos (by omega), hx]
  · intro j hj
    by_cases h1 : j < b * C + c
    · rw [if_pos (by omega), if_pos h1]
    · rw [if_neg (by omega), if_neg h1]

theorem rows_at {lo hi : Nat} {w : World} {vs : Value} {zss : List (List Int)} (h : Poly.Rows .i64 lo hi w vs zss) {C B c b : Nat} (hl : zss.length = C) (hz : ∀ zs ∈ zss, zs.length = B) (hc : c < C) (hb : b < B) :
    ∃ b0 o0 cp b1 o1 cp1, vs = .slice (some ⟨b0, o0, none⟩) C cp ∧ b0 < hi ∧ b1 < hi ∧ w.cell? ⟨b0, o0 + c, none⟩ = some (.slice (some ⟨b1, o1, none⟩) B cp1) ∧ w.cell? ⟨b1, o1 + b, none⟩ = some (.int .i64 (M.sca zss c b)) := by
  obtain ⟨a, cp, rfl, _⟩ := h.form
  obtain ⟨b0, o0, rfl, _, l0, hx⟩ := h.cell (by omega)
  obtain ⟨u, hu, hr⟩ := hx c (by omega)
  have hm : zss.getD c [] ∈ zss := by rw [List.getD_eq_getElem?_getD, List.getElem?_eq_getElem (by omega)]; exact List.getElem_mem _
  have hB := hz _ hm
  obtain ⟨a1, cp1, rfl⟩ := hr.form
  obtain ⟨b1, o1, rfl, _, l1, hy⟩ := hr.cell (by omega)
  exact ⟨b0, o0, cp, b1, o1, cp1, by rw [hl], l0, l1, by rw [hu, hB], hy b (by omega)⟩

theorem needs_told (W : World) (f : M.Fmt) (vs : Value) (zss : List (List Int)) (q a C B r N : Nat) (hT : Tabs W) (hZ : Poly.Rows .i64 0 W.heap.size W vs zss) (hl : zss.length = C) (ok : M.okZ B zss) (h48 : B = 4 ∨ B = 8) (hC : f.h = C) (hB : f.b = B) (hr : f.r = r) (r3 : r ≤ 3) (hm : f.m = 0 ∨ f.m = 1)
    (c2 : C ≤ 2) (ha : W.heap.size + 1 < a) (hq : a + C < q) (hN : q < N) :
    Told C B N 201 #[.pointer (some ⟨W.heap.size + 1, 0, none⟩), .pointer (some ⟨W.heap.size, 0, none⟩), .pointer (some ⟨q, 0, none⟩)] (Nds W f vs q a C B (M.nd f.m C B r zss)) := by
  intro c b w hc hb hNw hI
  have hTw : Tabs w := hT.below hI.bel (Nat.le_refl _)
  obtain ⟨b0, o0, cp, b1, o1, cp1, rfl, l0, l1, s0, s1⟩ := rows_at hZ hl (fun zs h => (ok zs h).1) hc hb
  replace s0 := (cell_keep (hI.bel.block b0 l0)).trans s0
  replace s1 := (cell_keep (hI.bel.block b1 l1)).trans s1
  have bd := M.sca_bd ok c b
  have od := M.off_bd B r b
  have hn : M.nd f.m C B r zss (b * C + c) = if f.m = 1 then M.sca zss c b else M.loud (M.sca zss c b) (M.off B r b) := M.nd_at hc
  have hoff : ∀ wx, Tabs wx → Calls Tryz.prog 203 #[fv f, .int .i64 (b : Int)] wx fun e w' => e = .returned (.int .i64 (M.off B r b)) ∧ Below wx.heap.size wx w' := fun wx hw => offset_any f B r b wx hw h48 hB hr r3 hb
  have hlou : ∀ wx, Calls Tryz.prog 202 #[.int .i64 (M.sca zss c b), .int .i64 (M.off B r b)] wx fun e w' => e = .returned (.int .i64 (M.loud (M.sca zss c b) (M.off B r b))) ∧ w' = wx := fun wx => byLoudness_any _ _ wx (by omega) (by omega) (by omega) (by omega)
  generalize M.nd f.m C B r zss = n at *
  generalize M.off B r b = o at *
  generalize M.loud (M.sca zss c b) o = y at *
  generalize M.sca zss c b = x at *
  have k0 : w.cell? ⟨W.heap.size + 1, 0, none⟩ = some (.slice (some ⟨b0, o0, none⟩) C cp) := hI.sca.cell rfl
  have k1 : w.cell? ⟨q, 0, none⟩ = some (.slice (some ⟨a, 0, none⟩) C C) := hI.lst.cell rfl
  have k2 := hI.grid.at_head hc
  have k3 := hI.grid.at hc hb
  have k4 := hI.grid.free hc b
  rw [if_neg (by omega)] at k3
  have xs := box_cells hI.fmt
  have HL : Hid (b0 < W.heap.size ∧ b1 < W.heap.size ∧ W.heap.size + 1 < a ∧ a + C < q ∧ q < w.heap.size) := ⟨l0, l1, ha, hq, by omega⟩
  have HI : Hid _ := hI
  have HN : Hid (n (b * C + c) = if f.m = 1 then x else y) := hn
  have hc' : (c : Int) < C := by omega
  have hb' : (b : Int) < B := by omega
  have hC' : (C : Int) ≤ 2 := by omega
  have hB' : (B : Int) ≤ 8 := by omega
  have HT : Hid (Tabs w) := hTw
  have hoff' := hoff w.drew hTw
  have HNN : Hid (q < N ∧ N < w.heap.size) := ⟨hN, hNw⟩
  have Hc : Hid (c < C) := hc
  have Hb : Hid (b < B) := hb
  clear hI hn hTw hT hZ hl ok hoff bd od l0 l1 ha hq hN hNw c2 h48 r3 hc hb
  obtain ⟨c_, r_, h_, b_, k_, m_, j_, p_, l_, y_⟩ := f
  unfold fv at hoff'
  dsimp only at xs hoff' HN hC hB hr hm
  clear hC hB hr
  show Calls _ _ #[_, _, _, _, _] _ _
  rcases hm with rfl | rfl
  · obtain ⟨x0, x1, x2, x3, x4, x5, x6, x7, x8, x9⟩ := xs
    have xs : w.cell? ⟨W.heap.size, 0, none⟩ = some (.int .i64 c_) ∧ w.cell? ⟨W.heap.size, 1, none⟩ = some (.int .i64 r_) ∧ w.cell? ⟨W.heap.size, 2, none⟩ = some (.int .i64 h_) ∧ w.cell? ⟨W.heap.size, 3, none⟩ = some (.int .i64 b_) ∧ w.cell? ⟨W.heap.size, 4, none⟩ = some (.int .i64 k_) ∧ w.cell? ⟨W.heap.size, 5, none⟩ = some (.int .i64 0) ∧ w.cell? ⟨W.heap.size, 6, none⟩ = some (.int .i64 j_) ∧ w.cell? ⟨W.heap.size, 7, none⟩ = some (.int .i64 p_) ∧ w.cell? ⟨W.heap.size, 8, none⟩ = some (.int .i64 l_) ∧ w.cell? ⟨W.heap.size, 9, none⟩ = some (.int .i64 y_) ∧ w.cell? ⟨q, 0, none⟩ = some (.slice (some ⟨a, 0, none⟩) C C) ∧ w.cell? ⟨a, c, none⟩ = some (.slice (some ⟨a + 1 + c, 0, none⟩) B B) :=
      ⟨x0, x1, x2, x3, x4, x5, x6, x7, x8, x9, k1, k2⟩
    have HXs : Hid _ := xs
    have HSet : Hid (∀ (wx : World) (v : Value), (wx.cell? ⟨W.heap.size, 0, none⟩ = some (.int .i64 c_) ∧ wx.cell? ⟨W.heap.size, 1, none⟩ = some (.int .i64 r_) ∧ wx.cell? ⟨W.heap.size, 2, none⟩ = some (.int .i64 h_) ∧ wx.cell? ⟨W.heap.size, 3, none⟩ = some (.int .i64 b_) ∧ wx.cell? ⟨W.heap.size, 4, none⟩ = some (.int .i64 k_) ∧ wx.cell? ⟨W.heap.size, 5, none⟩ = some (.int .i64 0) ∧ wx.cell? ⟨W.heap.size, 6, none⟩ = some (.int .i64 j_) ∧ wx.cell? ⟨W.heap.size, 7, none⟩ = some (.int .i64 p_) ∧ wx.cell? ⟨W.heap.size, 8, none⟩ = some (.int .i64 l_) ∧ wx.cell? ⟨W.heap.size, 9, none⟩ = some (.int .i64 y_) ∧ wx.cell? ⟨q, 0, none⟩ = some (.slice (some ⟨a, 0, none⟩) C C) ∧ wx.cell? ⟨a, c, none⟩ = some (.slice (some ⟨a + 1 + c, 0, none⟩) B B)) →
        ((wx.setCell ⟨a + 1 + c, b, none⟩ v).cell? ⟨W.heap.size, 0, none⟩ = some (.int .i64 c_) ∧ (wx.setCell ⟨a + 1 + c, b, none⟩ v).cell? ⟨W.heap.size, 1, none⟩ = some (.int .i64 r_) ∧ (wx.setCell ⟨a + 1 + c, b, none⟩ v).cell? ⟨W.heap.size, 2, none⟩ = some (.int .i64 h_) ∧ (wx.setCell ⟨a + 1 + c, b, none⟩ v).cell? ⟨W.heap.size, 3, none⟩ = some (.int .i64 b_) ∧ (wx.setCell ⟨a + 1 + c, b, none⟩ v).cell? ⟨W.heap.size, 4, none⟩ = some (.int .i64 k_) ∧ (wx.setCell ⟨a + 1 + c, b, none⟩ v).cell? ⟨W.heap.size, 5, none⟩ = some (.int .i64 0) ∧ (wx.setCell ⟨a + 1 + c, b, none⟩ v).cell? ⟨W.heap.size, 6, none⟩ = some (.int .i64 j_) ∧ (wx.setCell ⟨a + 1 + c, b, none⟩ v).cell? ⟨W.heap.size, 7, none⟩ = some (.int .i64 p_) ∧ (wx.setCell ⟨a + 1 + c, b, none⟩ v).cell? ⟨W.heap.size, 8, none⟩ = some (.int .i64 l_) ∧ (wx.setCell ⟨a + 1 + c, b, none⟩ v).cell? ⟨W.heap.size, 9, none⟩ = some (.int .i64 y_) ∧ (wx.setCell ⟨a + 1 + c, b, none⟩ v).cell? ⟨q, 0, none⟩ = some (.slice (some ⟨a, 0, none⟩) C C) ∧ (wx.setCell ⟨a + 1 + c, b, none⟩ v).cell? ⟨a, c, none⟩ = some (.slice (some ⟨a + 1 + c, 0, none⟩) B B))) := by
      intro wx v h
      obtain ⟨l1, l2, l3, l4, l5⟩ := HL.out
      rw [cell_set_ne v (by omega), cell_set_ne v (by omega), cell_set_ne v (by omega), cell_set_ne v (by omega), cell_set_ne v (by omega), cell_set_ne v (by omega), cell_set_ne v (by omega), cell_set_ne v (by omega), cell_set_ne v (by omega), cell_set_ne v (by omega), cell_set_ne v (by have := Hc.out; omega), cell_set_ne v (by omega)]
      exact h
    go_enter Tryz.func201, Tryz.ntmps201
    go_wp2
    go_region_held3 (fun wx => wx.cell? ⟨W.heap.size, 0, none⟩ = some (.int .i64 c_) ∧ wx.cell? ⟨W.heap.size, 1, none⟩ = some (.int .i64 r_) ∧ wx.cell? ⟨W.heap.size, 2, none⟩ = some (.int .i64 h_) ∧ wx.cell? ⟨W.heap.size, 3, none⟩ = some (.int .i64 b_) ∧ wx.cell? ⟨W.heap.size, 4, none⟩ = some (.int .i64 k_) ∧ wx.cell? ⟨W.heap.size, 5, none⟩ = some (.int .i64 0) ∧ wx.cell? ⟨W.heap.size, 6, none⟩ = some (.int .i64 j_) ∧ wx.cell? ⟨W.heap.size, 7, none⟩ = some (.int .i64 p_) ∧ wx.cell? ⟨W.heap.size, 8, none⟩ = some (.int .i64 l_) ∧ wx.cell? ⟨W.heap.size, 9, none⟩ = some (.int .i64 y_) ∧ wx.cell? ⟨q, 0, none⟩ = some (.slice (some ⟨a, 0, none⟩) C C) ∧ wx.cell? ⟨a, c, none⟩ = some (.slice (some ⟨a + 1 + c, 0, none⟩) B B))
      (first | exact HXs.out | exact HYs.out | exact HSet.out _ _ HYs.out)
      (first
        | (go_at_call 203; refine hoff'.mono ?_; clear hoff'; rintro e w2 ⟨rfl, bel2⟩; have HI2 : Hid _ := Nds.grow HI.out.drew bel2; have ys : w2.cell? ⟨W.heap.size, 0, none⟩ = some (.int .i64 c_) ∧ w2.cell? ⟨W.heap.size, 1, none⟩ = some (.int .i64 r_) ∧ w2.cell? ⟨W.heap.size, 2, none⟩ = some (.int .i64 h_) ∧ w2.cell? ⟨W.heap.size, 3, none⟩ = some (.int .i64 b_) ∧ w2.cell? ⟨W.heap.size, 4, none⟩ = some (.int .i64 k_) ∧ w2.cell? ⟨W.heap.size, 5, none⟩ = some (.int .i64 0) ∧ w2.cell? ⟨W.heap.size, 6, none⟩ = some (.int .i64 j_) ∧ w2.cell? ⟨W.heap.size, 7, none⟩ = some (.int .i64 p_) ∧ w2.cell? ⟨W.heap.size, 8, none⟩ = some (.int .i64 l_) ∧ w2.cell? ⟨W.heap.size, 9, none⟩ = some (.int .i64 y_) ∧ w2.cell? ⟨q, 0, none⟩ = some (.slice (some ⟨a, 0, none⟩) C C) ∧ w2.cell? ⟨a, c, none⟩ = some (.slice (some ⟨a + 1 + c, 0, none⟩) B B) := ⟨HI2.out.fmt.cell rfl, HI2.out.fmt.cell rfl, HI2.out.fmt.cell rfl, HI2.out.fmt.cell rfl, HI2.out.fmt.cell rfl, HI2.out.fmt.cell rfl, HI2.out.fmt.cell rfl, HI2.out.fmt.cell rfl, HI2.out.fmt.cell rfl, HI2.out.fmt.cell rfl, HI2.out.lst.cell rfl, HI2.out.grid.at_head Hc.out⟩; have HYs : Hid _ := ys; clear ys; obtain ⟨u2, v3⟩ : ∃ u, w2.cell? ⟨a + 1 + c, b, none⟩ = some u := ⟨_, HI2.out.grid.at Hc.out Hb.out⟩; have v4 := HI2.out.grid.free Hc.out b)
        | (go_at_call 202; refine (hlou _).mono ?_; clear hlou; rintro e w3 ⟨rfl, hw3⟩; rw [hw3]; clear hw3 w3))
    all_goals (
      go_wp2
      go_end0
      refine ⟨rfl, Nds.step HI2.out Hc.out Hb.out HL.out.2.2.1 HL.out.2.2.2.1 (by rw [HN.out]; rfl), ?_⟩
      exact (Stay.of_below (of_drew bel2)).set (by show a + 1 + c < N; have := HL.out; have := HNN.out; have := Hc.out; omega) _)
  · obtain ⟨x0, x1, x2, x3, x4, x5, x6, x7, x8, x9⟩ := xs
    clear hoff' hlou
    go_enter Tryz.func201, Tryz.ntmps201
    go_wp2
    go_end0
    refine ⟨rfl, Nds.step HI.out Hc.out Hb.out HL.out.2.2.1 HL.out.2.2.2.1 (by rw [HN.out]; rfl), ?_⟩
    exact (Stay.refl _ _).set (by show a + 1 + c < N; have := HL.out; have := HNN.out; have := Hc.out; omega) _

theorem needsOf_any (f : M.Fmt) (vs : Value) (zss : List (List Int)) (C B r : Nat) (w : World) (hT : Tabs w) (hZ : Poly.Rows .i64 0 w.heap.size w vs zss) (hl : zss.length = C) (ok : M.okZ B zss) (h48 : B = 4 ∨ B = 8) (hC : f.h = C) (hB : f.b = B) (hr : f.r = r) (r3 : r ≤ 3) (hm : f.m = 0 ∨ f.m = 1) (c2 : C ≤ 2) :
    Calls Tryz.prog 161 #[fv f, vs] w fun e w' => e = .returned (.slice (some ⟨w.heap.size + 3, 0, none⟩) C C) ∧ Below w.heap.size w w' ∧ Grid (w.heap.size + 3) C B (M.nd f.m C B r zss) w' := by
  have hth : ∀ (q : Nat) (wx : World), Nds w f vs q (w.heap.size + 3) C B (M.nd f.m C B r zss) 0 wx → w.heap.size + 3 + C < q → q < wx.heap.size → Calls Tryz.prog 200 #[fv f, .func (.func 201) #[] #[.pointer (some ⟨w.heap.size + 1, 0, none⟩), .pointer (some ⟨w.heap.size, 0, none⟩), .pointer (some ⟨q, 0, none⟩)]] wx fun e w' => e = .returned (.tuple #[]) ∧ Nds w f vs q (w.heap.size + 3) C B (M.nd f.m C B r zss) (B * C) w' :=
    fun q wx h hq hs => through_any f C B _ _ _ wx hC hB c2 (by omega) (enters_of Tryz.func201 (by kernel_rfl) rfl) (fun k a b ha hb => ha.grow hb) (needs_told w f vs zss _ _ C B r _ hT hZ hl ok h48 hC hB hr r3 hm c2 (by omega) (by omega) hs) h
  obtain ⟨W2, hW2⟩ : ∃ W2, W2 = (w.alloc (.cells (fc f) 23)).alloc (.cells #[vs] 26) := ⟨_, rfl⟩
  have s2 : W2.heap.size = w.heap.size + 2 := by rw [hW2]; simp
  have q1 : Blk W2 w.heap.size (fc f) 23 := by rw [hW2]; exact (Blk.new w _ _).alloc _
  have q2 : Blk W2 (w.heap.size + 1) #[vs] 26 := by rw [hW2, ← alloc_size w (.cells (fc f) 23)]; exact Blk.new _ _ _
  have q3 : Below w.heap.size w W2 := by rw [hW2]; exact (bel1 _ _).alloc (bel1 _ _).size _
  have hbl : Calls Tryz.prog 162 #[fv f] W2 fun e w3 => e = .returned (.slice (some ⟨w.heap.size + 3, 0, none⟩) C C) ∧ Nds w f vs w3.heap.size (w.heap.size + 3) C B (M.nd f.m C B r zss) 0 (w3.alloc (.cells #[.slice (some ⟨w.heap.size + 3, 0, none⟩) C C] 26)) ∧ w.heap.size + 3 + C < w3.heap.size := by
    have hbl := blank_any f C B W2 hC hB c2 (by omega)
    rw [s2] at hbl
    refine hbl.mono ?_
    rintro e w3 ⟨rfl, b3, g3, s3⟩
    have fb := blk_below b3 q1 (by omega)
    have hb : Below w.heap.size w w3 := q3.trans (b3.mono (by omega))
    refine ⟨rfl, ⟨hb.alloc hb.size _, fb.alloc _, (blk_below b3 q2 (by omega)).alloc _, Blk.new w3 _ _, ?_⟩, by omega⟩
    exact (g3.grow ((Below.refl _ w3).alloc (Nat.le_refl _) _)).ext fun j _ => by rw [if_neg (by omega)]
  have hz : ∃ ax cx, vs = .slice ax zss.length cx := by obtain ⟨ax, cx, h, _⟩ := hZ.form; exact ⟨ax, cx, h⟩
  rw [hW2] at hbl
  clear q1 q2 q3 s2 hT hZ ok h48 hC hB hr r3 hm c2 hW2 W2
  obtain ⟨ax, cx, rfl⟩ := hz
  rw [hl] at *
  clear hl
  generalize M.nd f.m C B r zss = n at *
  obtain ⟨c_, r_, h_, b_, k_, m_, j_, p_, l_, y_⟩ := f
  unfold fv at hth hbl ⊢
  dsimp only [fc] at hth hbl ⊢
  have HT : Hid _ := hth
  clear hth
  go_enter Tryz.func161, Tryz.ntmps161
  go_wp2_with (first
    | (go_at_call 162; refine hbl.mono ?_; clear hbl; rintro e w3 ⟨rfl, h3, q3⟩; have xs := box_cells h3.fmt; dsimp only at xs; obtain ⟨x0, x1, x2, x3, x4, x5, x6, x7, x8, x9⟩ := xs; have H3 : Hid _ := h3; have HQ : Hid _ := q3; clear h3 q3)
    | (go_at_call 200; refine (HT.out w3.heap.size _ H3.out HQ.out (by rw [alloc_size]; exact Nat.lt_succ_self _)).mono ?_; clear HT H3 HQ; rintro e w4 ⟨rfl, h4⟩; have k4 : w4.cell? ⟨w3.heap.size, 0, none⟩ = some (.slice (some ⟨w.heap.size + 3, 0, none⟩) C C) := h4.lst.cell rfl; have H4 : Hid _ := h4; clear h4))
  go_ret
  exact ⟨rfl, H4.out.bel, H4.out.grid.ext (fun j hj => if_pos hj)⟩

end Alloc
end Go.Proofs.YtcaifpjbjghhaaaGreatDoor

/-
  Contracts of package alloc: a sharing, its greatest need, the costs of its slice, what it gives. Conditions: as told at each.
-/
namespace Go.Proofs.YtcaifpjbjghhaaaGreatDoor
set_option linter.unusedVariables false
open Go.RowKit
namespace Alloc
open Bank (Blk But)
open Poly (alloc_size enc cell_keep below_drew)
open _root_.Go.Proofs.YtcaifpjbjghhaaaGreatDoor.Form (fv fc bel1 blk_below box_cells of_drew)

def sc (f : M.Fmt) (a d C : Nat) (s x : Int) : Array Value := #[.int .i64 f.c, .int .i64 f.r, .int .i64 f.h, .int .i64 f.b, .int .i64 f.k, .int .i64 f.m, .int .i64 f.j, .int .i64 f.p, .int .i64 f.l, .int .i64 f.y, .slice (some ⟨a, 0, none⟩) C C, .slice (some ⟨d, 0, none⟩) C C, .int .i64 s, .int .i64 x]
structure Shr (W : World) (g : Nat) (f : M.Fmt) (a d C B : Nat) (n β : Nat → Int) (s x : Int) (wr : World) : Prop where
  bel : Below W.heap.size W wr
  obj : Blk wr g (sc f a d C s x) 269
  nds : Grid a C B n wr
  bts : Grid d C B β wr
  p0 : W.heap.size ≤ a
  p1 : a + C < d
  p2 : d + C < g
variable {W : World} {g : Nat} {f : M.Fmt} {a d C B : Nat} {n β : Nat → Int} {s x : Int} {w w' : World}
theorem Shr.grow (h : Shr W g f a d C B n β s x w) (hb : Below w.heap.size w w') : Shr W g f a d C B n β s x w' :=
  ⟨h.bel.trans (hb.mono h.bel.size), blk_below hb h.obj h.obj.lt, h.nds.grow hb, h.bts.grow hb, h.p0, h.p1, h.p2⟩
theorem Shr.drewN (h : Shr W g f a d C B n β s x w) (m : Nat) : Shr W g f a d C B n β s x (w.drewN m) := ⟨Poly.below_drewN h.bel m, h.obj, h.nds.drewN m, h.bts.drewN m, h.p0, h.p1, h.p2⟩
theorem Shr.drew (h : Shr W g f a d C B n β s x w) : Shr W g f a d C B n β s x w.drew := ⟨below_drew h.bel, h.obj, h.nds.drew, h.bts.drew, h.p0, h.p1, h.p2⟩
theorem Shr.else (h : Shr W g f a d C B n β s x w) {q : Nat} (hq : g < q) (o : Nat) (v : Value) : Shr W g f a d C B n β s x (w.setCell ⟨q, o, none⟩ v) := by
  have := h.p0; have := h.p1; have := h.p2
  exact ⟨h.bel.setCell (by show W.heap.size ≤ q; omega) _, h.obj.set_ne (by show g ≠ q; omega) _, h.nds.set_ne (by show q < a ∨ a + C < q; omega) _, h.bts.set_ne (by show q < d ∨ d + C < q; omega) _, h.p0, h.p1, h.p2⟩
theorem Shr.slice (h : Shr W g f a d C B n β s x w) (s' : Int) : Shr W g f a d C B n β s' x (w.setCell ⟨g, 12, none⟩ (.int .i64 s')) := by
  have := h.p0; have := h.p1; have := h.p2
  exact ⟨h.bel.setCell (by show W.heap.size ≤ g; omega) _, h.obj.set 12 (.int .i64 s'), h.nds.set_ne (by show g < a ∨ a + C < g; omega) _, h.bts.set_ne (by show g < d ∨ d + C < g; omega) _, h.p0, h.p1, h.p2⟩
theorem Shr.sum (h : Shr W g f a d C B n β s x w) (x' : Int) : Shr W g f a d C B n β s x' (w.setCell ⟨g, 13, none⟩ (.int .i64 x')) := by
  have := h.p0; have := h.p1; have := h.p2
  exact ⟨h.bel.setCell (by show W.heap.size ≤ g; omega) _, h.obj.set 13 (.int .i64 x'), h.nds.set_ne (by show g < a ∨ a + C < g; omega) _, h.bts.set_ne (by show g < d ∨ d + C < g; omega) _, h.p0, h.p1, h.p2⟩
theorem Shr.give (h : Shr W g f a d C B n β s x w) {β' : Nat → Int} {c b : Nat} (hc : c < C) (hb : b < B) {z : Int} (hz : z = β' (b * C + c)) (ho : ∀ j, j ≠ b * C + c → β' j = β j) : Shr W g f a d C B n β' s x (w.setCell ⟨d + 1 + c, b, none⟩ (.int .i64 z)) := by
  have := h.p0; have := h.p1; have := h.p2
  exact ⟨h.bel.setCell (by show W.heap.size ≤ d + 1 + c; omega) _, h.obj.set_ne (by show g ≠ d + 1 + c; omega) _, h.nds.set_ne (by show d + 1 + c < a ∨ a + C < d + 1 + c; omega) _, h.bts.set hc hb hz ho, h.p0, h.p1, h.p2⟩
theorem Shr.ext (h : Shr W g f a d C B n β s x w) {β' : Nat → Int} (e : ∀ j, j < B * C → β j = β' j) : Shr W g f a d C B n β' s x w := ⟨h.bel, h.obj, h.nds, h.bts.ext e, h.p0, h.p1, h.p2⟩

def Box (g H : Nat) (w : World) : Prop := Blk w H #[.pointer (some ⟨g, 0, none⟩)] 265 ∧ g < H

structure Num (W : World) (g : Nat) (f : M.Fmt) (a d C B : Nat) (n β : Nat → Int) (s x : Int) (H : Nat) (F : Nat → Int) (k : Nat) (wr : World) : Prop where
  shr : Shr W g f a d C B n β s x wr
  box : Box g H wr
  num : Blk wr (H + 1) #[.int .i64 (F k)] 3
theorem Num.grow {H k : Nat} {F : Nat → Int} (h : Num W g f a d C B n β s x H F k w) (hb : Below w.heap.size w w') : Num W g f a d C B n β s x H F k w' :=
  ⟨h.shr.grow hb, ⟨blk_below hb h.box.1 h.box.1.lt, h.box.2⟩, blk_below hb h.num h.num.lt⟩
theorem Num.drewN {H k : Nat} {F : Nat → Int} (h : Num W g f a d C B n β s x H F k w) (m : Nat) : Num W g f a d C B n β s x H F k (w.drewN m) := ⟨h.shr.drewN m, ⟨h.box.1.drewN m, h.box.2⟩, h.num.drewN m⟩
theorem Num.drew {H k : Nat} {F : Nat → Int} (h : Num W g f a d C B n β s x H F k w) : Num W g f a d C B n β s x H F k w.drew := ⟨h.shr.drew, ⟨h.box.1.drew, h.box.2⟩, h.num.drew⟩
theorem Num.step {H k : Nat} {F : Nat → Int} (h : Num W g f a d C B n β s x H F k w) {z : Int} (hz : z = F (k + 1)) : Num W g f a d C B n β s x H F (k + 1) (w.setCell ⟨H + 1, 0, none⟩ (.int .i64 z)) := by
  have := h.box.2
  subst hz
  exact ⟨h.shr.else (by omega) _ _, ⟨h.box.1.set_ne (by show H ≠ H + 1; omega) _, h.box.2⟩, h.num.set 0 _⟩

theorem Stay.drewN {N : Nat} (h : Stay N w w') (m : Nat) : Stay N w (w'.drewN m) := ⟨h.size, h.block⟩
theorem greatest_told (H N : Nat) (hN : H + 1 < N) (hn : ∀ j, -5 ≤ n j ∧ n j ≤ 15) (c2 : C ≤ 2) (b8 : B ≤ 8) :
    Told C B N 240 #[.pointer (some ⟨H + 1, 0, none⟩), .pointer (some ⟨H, 0, none⟩)] (Num W g f a d C B n β s x H (M.mx n)) := by
  intro c b w hc hb hNw hI
  have k0 : w.cell? ⟨H, 0, none⟩ = some (.pointer (some ⟨g, 0, none⟩)) := hI.box.1.cell rfl
  have k1 : w.cell? ⟨H + 1, 0, none⟩ = some (.int .i64 (M.mx n (b * C + c))) := hI.num.cell rfl
  have k5 := hI.num.free 0
  have k2 : w.cell? ⟨g, 10, none⟩ = some (.slice (some ⟨a, 0, none⟩) C C) := hI.shr.obj.cell rfl
  have k3 := hI.shr.nds.at_head hc
  have k4 := hI.shr.nds.at hc hb
  have HX : Hid ((if M.mx n (b * C + c) < n (b * C + c) then n (b * C + c) else M.mx n (b * C + c)) = M.mx n (b * C + c + 1)) := rfl
  have HI : Hid _ := hI
  have hc' : (c : Int) < C := by omega
  have hb' : (b : Int) < B := by omega
  have hC' : (C : Int) ≤ 2 := by omega
  have hB' : (B : Int) ≤ 8 := by omega
  have HNN : Hid (H + 1 < N) := hN
  clear hI hN hNw hn
  generalize n (b * C + c) = y at *
  generalize M.mx n (b * C + c) = z at *
  clear hc hb
  show Calls _ _ #[_, _, _, _] _ _
  go_enter Tryz.func240, Tryz.ntmps240
  go_region
  all_goals (
    go_end0
    exact ⟨rfl, (HI.out.step HX.out).drew, ((Stay.refl _ _).set (by show H + 1 < N; exact HNN.out) _).drew⟩)

theorem obj_cells (h : Blk w g (sc f a d C s x) 269) : w.cell? ⟨g, 0, none⟩ = some (.int .i64 f.c) ∧ w.cell? ⟨g, 1, none⟩ = some (.int .i64 f.r) ∧ w.cell? ⟨g, 2, none⟩ = some (.int .i64 f.h) ∧ w.cell? ⟨g, 3, none⟩ = some (.int .i64 f.b) ∧ w.cell? ⟨g, 4, none⟩ = some (.int .i64 f.k) ∧
    w.cell? ⟨g, 5, none⟩ = some (.int .i64 f.m) ∧ w.cell? ⟨g, 6, none⟩ = some (.int .i64 f.j) ∧ w.cell? ⟨g, 7, none⟩ = some (.int .i64 f.p) ∧ w.cell? ⟨g, 8, none⟩ = some (.int .i64 f.l) ∧ w.cell? ⟨g, 9, none⟩ = some (.int .i64 f.y) ∧
    w.cell? ⟨g, 10, none⟩ = some (.slice (some ⟨a, 0, none⟩) C C) ∧ w.cell? ⟨g, 11, none⟩ = some (.slice (some ⟨d, 0, none⟩) C C) ∧ w.cell? ⟨g, 12, none⟩ = some (.int .i64 s) ∧ w.cell? ⟨g, 13, none⟩ = some (.int .i64 x) :=
  ⟨h.cell rfl, h.cell rfl, h.cell rfl, h.cell rfl, h.cell rfl, h.cell rfl, h.cell rfl, h.cell rfl, h.cell rfl, h.cell rfl, h.cell rfl, h.cell rfl, h.cell rfl, h.cell rfl⟩

theorem greatest_any (w : World) (h : Shr W g f a d C B n β s x w) (hC : f.h = C) (hB : f.b = B) (hn : ∀ j, -5 ≤ n j ∧ n j ≤ 15) (c2 : C ≤ 2) (b8 : B ≤ 8) :
    Calls Tryz.prog 204 #[.pointer (some ⟨g, 0, none⟩)] w fun e w' => e = .returned (.int .i64 (M.mx n (B * C))) ∧ Shr W g f a d C B n β s x w' := by
  have hth : ∀ (wx : World), Num W g f a d C B n β s x w.heap.size (fun k => M.mx n k) 0 wx → w.heap.size + 1 < wx.heap.size → Calls Tryz.prog 200 #[fv f, .func (.func 240) #[] #[.pointer (some ⟨w.heap.size + 1, 0, none⟩), .pointer (some ⟨w.heap.size, 0, none⟩)]] wx fun e w' => e = .returned (.tuple #[]) ∧ Num W g f a d C B n β s x w.heap.size (fun k => M.mx n k) (B * C) w' :=
    fun wx h hs => through_any f C B _ _ _ wx hC hB c2 b8 (enters_of Tryz.func240 (by kernel_rfl) rfl) (fun k a b ha hb => ha.grow hb) (greatest_told _ _ hs hn c2 b8) h
  have h2 : Num W g f a d C B n β s x w.heap.size (fun k => M.mx n k) 0 ((w.alloc (.cells #[.pointer (some ⟨g, 0, none⟩)] 265)).alloc (.cells #[.int .i64 (-5)] 3)) :=
    ⟨h.grow ((bel1 _ _).alloc (bel1 _ _).size _), ⟨(Blk.new w _ _).alloc _, h.obj.lt⟩, by rw [← alloc_size w (.cells #[.pointer (some ⟨g, 0, none⟩)] 265)]; exact Blk.new _ _ _⟩
  have s2 : w.heap.size + 1 < ((w.alloc (.cells #[.pointer (some ⟨g, 0, none⟩)] 265)).alloc (.cells #[.int .i64 (-5)] 3)).heap.size := by simp
  replace hth := hth _ h2 s2
  have xs := obj_cells h2.shr.obj
  have x14 : ((w.alloc (.cells #[.pointer (some ⟨g, 0, none⟩)] 265)).alloc (.cells #[.int .i64 (-5)] 3)).cell? ⟨w.heap.size, 0, none⟩ = some (.pointer (some ⟨g, 0, none⟩)) := h2.box.1.cell rfl
  clear h h2 s2 hC hB hn c2 b8
  generalize hF : (fun k => M.mx n k) = F at *
  have HF : Hid (F (B * C) = M.mx n (B * C)) := by rw [← hF]; rfl
  clear hF
  generalize M.mx n (B * C) = z at *
  obtain ⟨c_, r_, h_, b_, k_, m_, j_, p_, l_, y_⟩ := f
  unfold fv at hth
  dsimp only at xs hth
  obtain ⟨x0, x1, x2, x3, x4, x5, x6, x7, x8, x9, x10, x11, x12, x13⟩ := xs
  go_enter Tryz.func204, Tryz.ntmps204
  go_wp2_with (first
    | (go_at_call 200; refine hth.mono ?_; clear hth; rintro e w4 ⟨rfl, h4⟩; have k4 : w4.cell? ⟨w.heap.size + 1, 0, none⟩ = some (.int .i64 (F (B * C))) := h4.num.cell rfl; have H4 : Hid _ := h4; clear h4))
  go_ret
  exact ⟨Form.ret_int HF.out, H4.out.shr⟩

theorem costs_told (H N : Nat) (hN : H + 1 < N) (hn : ∀ j, -5 ≤ n j ∧ n j ≤ 15) (c2 : C ≤ 2) (b8 : B ≤ 8) (s0 : -100 ≤ s ∧ s ≤ 100) :
    Told C B N 241 #[.pointer (some ⟨H, 0, none⟩), .pointer (some ⟨H + 1, 0, none⟩)] (Num W g f a d C B n β s x H (fun k => M.cst n k s)) := by
  intro c b w hc hb hNw hI
  have k0 : w.cell? ⟨H, 0, none⟩ = some (.pointer (some ⟨g, 0, none⟩)) := hI.box.1.cell rfl
  have k1 : w.cell? ⟨H + 1, 0, none⟩ = some (.int .i64 (M.cst n (b * C + c) s)) := hI.num.cell rfl
  have k5 := hI.num.free 0
  have k2 : w.cell? ⟨g, 10, none⟩ = some (.slice (some ⟨a, 0, none⟩) C C) := hI.shr.obj.cell rfl
  have k6 : w.cell? ⟨g, 12, none⟩ = some (.int .i64 s) := hI.shr.obj.cell rfl
  have k3 := hI.shr.nds.at_head hc
  have k4 := hI.shr.nds.at hc hb
  have HX : Hid (M.cst n (b * C + c + 1) s = M.cst n (b * C + c) s + M.c16 (n (b * C + c) - s)) := rfl
  have hcb := M.cst_bd n (b * C + c) s
  have hlt : b * C + c ≤ 1000 := by
    have h1 : b * C ≤ 8 * 2 := Nat.mul_le_mul (by omega) c2
    omega
  have hy := hn (b * C + c)
  have HI : Hid _ := hI
  have hc' : (c : Int) < C := by omega
  have hb' : (b : Int) < B := by omega
  have hC' : (C : Int) ≤ 2 := by omega
  have hB' : (B : Int) ≤ 8 := by omega
  have HNN : Hid (H + 1 < N) := hN
  have z0 : 0 ≤ M.cst n (b * C + c) s := hcb.1
  have z1 : M.cst n (b * C + c) s ≤ 2000 := by omega
  clear hI hN hNw hn hcb hlt
  generalize n (b * C + c) = y at *
  generalize M.cst n (b * C + c) s = z at *
  clear hc hb
  obtain ⟨s0, s1⟩ := s0
  obtain ⟨y0, y1⟩ := hy
  have same : Num W g f a d C B n β s x H (fun k => M.cst n k s) (b * C + c) w → M.c16 (y - s) = 0 → Num W g f a d C B n β s x H (fun k => M.cst n k s) (b * C + c + 1) w := by
    intro h e
    refine ⟨h.shr, h.box, ?_⟩
    have h1 := h.num
    have e1 : M.cst n (b * C + c) s = M.cst n (b * C + c + 1) s := by
      have e2 : Blk w (H + 1) #[.int .i64 z] 3 := by
        have := h.num
        unfold Bank.Blk at this ⊢
        have k := k1
        simp [World.cell?, this] at k
        rw [← k]; exact this
      have e3 := (h.num.same e2).1
      simp at e3
      rw [HX.out, e]; omega
    show Blk w (H + 1) #[.int .i64 (M.cst n (b * C + c + 1) s)] 3
    rw [← e1]; exact h1
  have HS : Hid _ := same
  clear same
  show Calls _ _ #[_, _, _, _] _ _
  rcases (by omega : y - s = 1 ∨ (2 ≤ y - s ∧ y - s < 16) ∨ (¬ y - s = 1 ∧ 2 ≤ y - s ∧ ¬ y - s < 16) ∨ (¬ y - s = 1 ∧ ¬ 2 ≤ y - s)) with h1 | ⟨h1, h2⟩ | ⟨h0, h1, h2⟩ | ⟨h0, h1⟩
  · have HE : Hid (M.c16 (y - s) = 2) := by show M.c16 (y - s) = 2; unfold M.c16; rw [if_pos h1]
    go_enter Tryz.func241, Tryz.ntmps241
    go_wp2
    go_quiet (fail)
    go_wp2
    go_end0
    exact ⟨rfl, (HI.out.drewN _).step (by show _ = M.cst n (b * C + c + 1) s; rw [HX.out, HE.out]), ((Stay.refl _ _).drewN _).set (by show H + 1 < N; exact HNN.out) _⟩
  · have h0 : (y - s == 1) = false := by simp; omega
    have HE : Hid (M.c16 (y - s) = 1) := by show M.c16 (y - s) = 1; unfold M.c16; rw [if_neg (by omega), if_pos (by omega)]
    go_enter Tryz.func241, Tryz.ntmps241
    go_wp2
    go_quiet (fail)
    go_wp2
    go_end0
    exact ⟨rfl, (HI.out.drewN _).step (by show _ = M.cst n (b * C + c + 1) s; rw [HX.out, HE.out]), ((Stay.refl _ _).drewN _).set (by show H + 1 < N; exact HNN.out) _⟩
  · have h0 : (y - s == 1) = false := by simp; omega
    have HE : Hid (M.c16 (y - s) = 0) := by show M.c16 (y - s) = 0; unfold M.c16; rw [if_neg (by omega), if_neg (by omega)]
    go_enter Tryz.func241, Tryz.ntmps241
    go_wp2
    go_quiet (fail)
    go_wp2
    go_end0
    exact ⟨rfl, (HS.out HI.out HE.out).drewN _, (Stay.refl _ _).drewN _⟩
  · have h0 : (y - s == 1) = false := by simp; omega
    have HE : Hid (M.c16 (y - s) = 0) := by show M.c16 (y - s) = 0; unfold M.c16; rw [if_neg (by omega), if_neg (by omega)]
    go_enter Tryz.func241, Tryz.ntmps241
    go_wp2
    go_quiet (fail)
    go_wp2
    go_end0
    exact ⟨rfl, (HS.out HI.out HE.out).drewN _, (Stay.refl _ _).drewN _⟩

theorem costs_any (w : World) (h : Shr W g f a d C B n β s x w) (hC : f.h = C) (hB : f.b = B) (hn : ∀ j, -5 ≤ n j ∧ n j ≤ 15) (c2 : C ≤ 2) (b8 : B ≤ 8) (s0 : -100 ≤ s ∧ s ≤ 100) :
    Calls Tryz.prog 205 #[.pointer (some ⟨g, 0, none⟩)] w fun e w' => e = .returned (.int .i64 (M.cst n (B * C) s)) ∧ Shr W g f a d C B n β s x w' := by
  have hth : ∀ (wx : World), Num W g f a d C B n β s x w.heap.size (fun k => M.cst n k s) 0 wx → w.heap.size + 1 < wx.heap.size → Calls Tryz.prog 200 #[fv f, .func (.func 241) #[] #[.pointer (some ⟨w.heap.size, 0, none⟩), .pointer (some ⟨w.heap.size + 1, 0, none⟩)]] wx fun e w' => e = .returned (.tuple #[]) ∧ Num W g f a d C B n β s x w.heap.size (fun k => M.cst n k s) (B * C) w' :=
    fun wx h hs => through_any f C B _ _ _ wx hC hB c2 b8 (enters_of Tryz.func241 (by kernel_rfl) rfl) (fun k a b ha hb => ha.grow hb) (costs_told _ _ hs hn c2 b8 s0) h
  have h2 : Num W g f a d C B n β s x w.heap.size (fun k => M.cst n k s) 0 ((w.alloc (.cells #[.pointer (some ⟨g, 0, none⟩)] 265)).alloc (.cells #[.int .i64 (0)] 3)) :=
    ⟨h.grow ((bel1 _ _).alloc (bel1 _ _).size _), ⟨(Blk.new w _ _).alloc _, h.obj.lt⟩, by rw [← alloc_size w (.cells #[.pointer (some ⟨g, 0, none⟩)] 265)]; exact Blk.new _ _ _⟩
  have s2 : w.heap.size + 1 < ((w.alloc (.cells #[.pointer (some ⟨g, 0, none⟩)] 265)).alloc (.cells #[.int .i64 (0)] 3)).heap.size := by simp
  replace hth := hth _ h2 s2
  have xs := obj_cells h2.shr.obj
  have x14 : ((w.alloc (.cells #[.pointer (some ⟨g, 0, none⟩)] 265)).alloc (.cells #[.int .i64 (0)] 3)).cell? ⟨w.heap.size, 0, none⟩ = some (.pointer (some ⟨g, 0, none⟩)) := h2.box.1.cell rfl
  clear h h2 s2 hC hB hn c2 b8
  generalize hF : (fun k => M.cst n k s) = F at *
  have HF : Hid (F (B * C) = M.cst n (B * C) s) := by rw [← hF]; rfl
  clear hF
  generalize M.cst n (B * C) s = z at *
  obtain ⟨c_, r_, h_, b_, k_, m_, j_, p_, l_, y_⟩ := f
  unfold fv at hth
  dsimp only at xs hth
  obtain ⟨x0, x1, x2, x3, x4, x5, x6, x7, x8, x9, x10, x11, x12, x13⟩ := xs
  go_enter Tryz.func205, Tryz.ntmps205
  go_wp2_with (first
    | (go_at_call 200; refine hth.mono ?_; clear hth; rintro e w4 ⟨rfl, h4⟩; have k4 : w4.cell? ⟨w.heap.size + 1, 0, none⟩ = some (.int .i64 (F (B * C))) := h4.num.cell rfl; have H4 : Hid _ := h4; clear h4))
  go_ret
  exact ⟨Form.ret_int HF.out, H4.out.shr⟩

end Alloc
end Go.Proofs.YtcaifpjbjghhaaaGreatDoor

/-
  Contracts of package alloc: what a slice has paid for is given, and what is left of the pool is filled in. Conditions: as told at each.
-/
namespace Go.Proofs.YtcaifpjbjghhaaaGreatDoor
set_option linter.unusedVariables false
open Go.RowKit
namespace Alloc
open Bank (Blk But)
open Poly (alloc_size enc cell_keep below_drew)
open _root_.Go.Proofs.YtcaifpjbjghhaaaGreatDoor.Form (fv fc bel1 blk_below box_cells of_drew)
variable {W : World} {g : Nat} {f : M.Fmt} {a d C B : Nat} {n β : Nat → Int} {s x : Int} {w w' : World}

structure Giv (W : World) (g : Nat) (f : M.Fmt) (a d C B : Nat) (n : Nat → Int) (s : Int) (H : Nat) (β : Nat → Nat → Int) (X : Nat → Int) (k : Nat) (wr : World) : Prop where
  shr : Shr W g f a d C B n (β k) s (X k) wr
  box : Box g H wr
theorem Giv.grow {H k : Nat} {β : Nat → Nat → Int} {X : Nat → Int} (h : Giv W g f a d C B n s H β X k w) (hb : Below w.heap.size w w') : Giv W g f a d C B n s H β X k w' := ⟨h.shr.grow hb, ⟨blk_below hb h.box.1 h.box.1.lt, h.box.2⟩⟩
theorem Giv.drewN {H k : Nat} {β : Nat → Nat → Int} {X : Nat → Int} (h : Giv W g f a d C B n s H β X k w) (m : Nat) : Giv W g f a d C B n s H β X k (w.drewN m) := ⟨h.shr.drewN m, ⟨h.box.1.drewN m, h.box.2⟩⟩
theorem Giv.bits {H : Nat} {β : Nat → Nat → Int} {X : Nat → Int} {c b : Nat} (h : Giv W g f a d C B n s H β X (b * C + c) w) (hc : c < C) (hb : b < B) (hX : X (b * C + c + 1) = X (b * C + c)) {z : Int} (hz : z = β (b * C + c + 1) (b * C + c)) (ho : ∀ j, j ≠ b * C + c → β (b * C + c + 1) j = β (b * C + c) j) :
    Giv W g f a d C B n s H β X (b * C + c + 1) (w.setCell ⟨d + 1 + c, b, none⟩ (.int .i64 z)) := by
  have := h.shr.p2; have := h.box.2
  refine ⟨?_, ⟨h.box.1.set_ne (by show H ≠ d + 1 + c; omega) _, h.box.2⟩⟩
  rw [hX]; exact h.shr.give hc hb hz ho
theorem Giv.both {H : Nat} {β : Nat → Nat → Int} {X : Nat → Int} {c b : Nat} (h : Giv W g f a d C B n s H β X (b * C + c) w) (hc : c < C) (hb : b < B) {y : Int} (hX : y = X (b * C + c + 1)) {z : Int} (hz : z = β (b * C + c + 1) (b * C + c)) (ho : ∀ j, j ≠ b * C + c → β (b * C + c + 1) j = β (b * C + c) j) :
    Giv W g f a d C B n s H β X (b * C + c + 1) ((w.setCell ⟨d + 1 + c, b, none⟩ (.int .i64 z)).setCell ⟨g, 13, none⟩ (.int .i64 y)) := by
  have := h.shr.p2; have := h.box.2
  refine ⟨?_, ⟨(h.box.1.set_ne (by show H ≠ d + 1 + c; omega) _).set_ne (by show H ≠ g; omega) _, h.box.2⟩⟩
  rw [← hX]; exact (h.shr.give hc hb hz ho).sum y
theorem Giv.none {H : Nat} {β : Nat → Nat → Int} {X : Nat → Int} {k : Nat} (h : Giv W g f a d C B n s H β X k w) (hX : X (k + 1) = X k) (ho : ∀ j, β (k + 1) j = β k j) : Giv W g f a d C B n s H β X (k + 1) w := by
  refine ⟨?_, h.box⟩
  rw [hX]; exact h.shr.ext fun j _ => (ho j).symm

theorem give_told (H N : Nat) (hN : H < N) (hn : ∀ j, -5 ≤ n j ∧ n j ≤ 15) (c2 : C ≤ 2) (b8 : B ≤ 8) (s0 : -100 ≤ s ∧ s ≤ 100) :
    Told C B N 206 #[.pointer (some ⟨H, 0, none⟩)] (Giv W g f a d C B n s H (fun k j => if j < k then M.h16 (n j - s) else 0) (fun _ => x)) := by
  intro c b w hc hb hNw hI
  have k0 : w.cell? ⟨H, 0, none⟩ = some (.pointer (some ⟨g, 0, none⟩)) := hI.box.1.cell rfl
  have k2 : w.cell? ⟨g, 10, none⟩ = some (.slice (some ⟨a, 0, none⟩) C C) := hI.shr.obj.cell rfl
  have k6 : w.cell? ⟨g, 12, none⟩ = some (.int .i64 s) := hI.shr.obj.cell rfl
  have k7 : w.cell? ⟨g, 11, none⟩ = some (.slice (some ⟨d, 0, none⟩) C C) := hI.shr.obj.cell rfl
  have k3 := hI.shr.nds.at_head hc
  have k4 := hI.shr.nds.at hc hb
  have k8 := hI.shr.bts.at_head hc
  have k9 := hI.shr.bts.at hc hb
  have k10 := hI.shr.bts.free hc b
  rw [if_neg (by omega)] at k9
  have hy := hn (b * C + c)
  have HI : Hid _ := hI
  have hc' : (c : Int) < C := by omega
  have hb' : (b : Int) < B := by omega
  have hC' : (C : Int) ≤ 2 := by omega
  have hB' : (B : Int) ≤ 8 := by omega
  have HNN : Hid (d + 1 + c < N) := by
    show d + 1 + c < N
    have := hI.shr.p2; have := hI.box.2; omega
  have Hc : Hid (c < C) := hc
  have Hb : Hid (b < B) := hb
  have HO : Hid (∀ j, j ≠ b * C + c → (if j < b * C + c + 1 then M.h16 (n j - s) else 0) = if j < b * C + c then M.h16 (n j - s) else 0) := by
    intro j hj
    by_cases h1 : j < b * C + c
    · rw [if_pos (by omega), if_pos h1]
    · rw [if_neg (by omega), if_neg h1]
  have HZ : Hid ((if b * C + c < b * C + c + 1 then M.h16 (n (b * C + c) - s) else 0) = M.h16 (n (b * C + c) - s)) := if_pos (by omega)
  have HZ0 : Hid ((if b * C + c < b * C + c then M.h16 (n (b * C + c) - s) else 0) = 0) := if_neg (by omega)
  clear hI hN hNw hn hc hb
  obtain ⟨s0, s1⟩ := s0
  obtain ⟨y0, y1⟩ := hy
  obtain ⟨y, hY⟩ : ∃ y, n (b * C + c) = y := ⟨_, rfl⟩
  rw [hY] at k4 y0 y1
  have HY : Hid (n (b * C + c) = y) := hY
  clear hY
  show Calls _ _ #[_, _, _] _ _
  rcases (by omega : (2 ≤ y - s ∧ 16 < y - s) ∨ (2 ≤ y - s ∧ ¬ 16 < y - s) ∨ ¬ 2 ≤ y - s) with ⟨h1, h2⟩ | ⟨h1, h2⟩ | h1
  · have HE : Hid (M.h16 (y - s) = 16) := by show M.h16 (y - s) = 16; unfold M.h16; rw [if_neg (by omega), if_neg (by omega)]
    go_enter Tryz.func206, Tryz.ntmps206
    go_wp2
    go_quiet (fail)
    go_wp2
    go_end0
    exact ⟨rfl, (HI.out.drewN _).bits Hc.out Hb.out rfl (by show _ = if _ then _ else _; rw [HZ.out, HY.out, HE.out]) HO.out, ((Stay.refl _ _).drewN _).set (by show d + 1 + c < N; exact HNN.out) _⟩
  · have HE : Hid (M.h16 (y - s) = y - s) := by
      show M.h16 (y - s) = y - s
      unfold M.h16; rw [if_neg (by omega)]; split <;> omega
    go_enter Tryz.func206, Tryz.ntmps206
    go_wp2
    go_quiet (fail)
    go_wp2
    go_end0
    exact ⟨rfl, (HI.out.drewN _).bits Hc.out Hb.out rfl (by show _ = if _ then _ else _; rw [HZ.out, HY.out, HE.out]) HO.out, ((Stay.refl _ _).drewN _).set (by show d + 1 + c < N; exact HNN.out) _⟩
  · have HE : Hid (M.h16 (y - s) = 0) := by show M.h16 (y - s) = 0; unfold M.h16; rw [if_pos (by omega)]
    go_enter Tryz.func206, Tryz.ntmps206
    go_wp2
    go_quiet (fail)
    go_wp2
    go_end0
    refine ⟨rfl, (HI.out.drewN _).none rfl (fun j => ?_), (Stay.refl _ _).drewN _⟩
    by_cases hj : j = b * C + c
    · show (if _ then _ else _) = if _ then _ else _
      subst hj
      rw [HZ.out, HZ0.out, HY.out, HE.out]
    · exact HO.out j hj

theorem give_any (w : World) (h : Shr W g f a d C B n (fun _ => 0) s x w) (hC : f.h = C) (hB : f.b = B) (hn : ∀ j, -5 ≤ n j ∧ n j ≤ 15) (c2 : C ≤ 2) (b8 : B ≤ 8) (s0 : -100 ≤ s ∧ s ≤ 100) :
    Calls Tryz.prog 164 #[.pointer (some ⟨g, 0, none⟩)] w fun e w' => e = .returned (.tuple #[]) ∧ Shr W g f a d C B n (fun j => M.h16 (n j - s)) s x w' := by
  have h2 : Giv W g f a d C B n s w.heap.size (fun k j => if j < k then M.h16 (n j - s) else 0) (fun _ => x) 0 (w.alloc (.cells #[.pointer (some ⟨g, 0, none⟩)] 265)) :=
    ⟨(h.grow (bel1 _ _)).ext fun j _ => by rw [if_neg (by omega)], ⟨Blk.new w _ _, h.obj.lt⟩⟩
  have hth : Calls Tryz.prog 200 #[fv f, .func (.func 206) #[] #[.pointer (some ⟨w.heap.size, 0, none⟩)]] (w.alloc (.cells #[.pointer (some ⟨g, 0, none⟩)] 265)) fun e w' => e = .returned (.tuple #[]) ∧ Giv W g f a d C B n s w.heap.size (fun k j => if j < k then M.h16 (n j - s) else 0) (fun _ => x) (B * C) w' :=
    through_any f C B _ _ _ _ hC hB c2 b8 (enters_of Tryz.func206 (by kernel_rfl) rfl) (fun k a b ha hb => ha.grow hb) (give_told _ _ (by simp) hn c2 b8 s0) h2
  have xs := obj_cells h2.shr.obj
  have x14 : (w.alloc (.cells #[.pointer (some ⟨g, 0, none⟩)] 265)).cell? ⟨w.heap.size, 0, none⟩ = some (.pointer (some ⟨g, 0, none⟩)) := h2.box.1.cell rfl
  clear h h2 hC hB hn c2 b8 s0
  obtain ⟨c_, r_, h_, b_, k_, m_, j_, p_, l_, y_⟩ := f
  unfold fv at hth
  dsimp only at xs hth
  obtain ⟨x0, x1, x2, x3, x4, x5, x6, x7, x8, x9, x10, x11, x12, x13⟩ := xs
  go_enter Tryz.func164, Tryz.ntmps164
  go_wp2_with (go_at_call 200; refine hth.mono ?_; clear hth; rintro e w4 ⟨rfl, h4⟩; have H4 : Hid _ := h4; clear h4)
  go_end0
  exact ⟨rfl, H4.out.shr.ext fun j hj => if_pos hj⟩

end Alloc
end Go.Proofs.YtcaifpjbjghhaaaGreatDoor

/-
  Contracts of package alloc: what is left of the pool is filled in, once through the bands. Conditions: as told at each.
-/
namespace Go.Proofs.YtcaifpjbjghhaaaGreatDoor
set_option linter.unusedVariables false
open Go.RowKit
namespace Alloc
open Bank (Blk But)
open Poly (alloc_size enc cell_keep below_drew)
open _root_.Go.Proofs.YtcaifpjbjghhaaaGreatDoor.Form (fv fc bel1 blk_below box_cells of_drew)
variable {W : World} {g : Nat} {f : M.Fmt} {a d C B : Nat} {n β : Nat → Int} {s x : Int} {w w' : World}

structure Fil (W : World) (g : Nat) (f : M.Fmt) (a d C B : Nat) (n : Nat → Int) (s : Int) (H : Nat) (bg : Bool) (β : Nat → Nat → Int) (X : Nat → Int) (k : Nat) (wr : World) : Prop where
  giv : Giv W g f a d C B n s H β X k wr
  beg : Blk wr (H + 1) #[.bool bg] 4
theorem Fil.grow {H k : Nat} {bg : Bool} {β : Nat → Nat → Int} {X : Nat → Int} (h : Fil W g f a d C B n s H bg β X k w) (hb : Below w.heap.size w w') : Fil W g f a d C B n s H bg β X k w' := ⟨h.giv.grow hb, blk_below hb h.beg h.beg.lt⟩
theorem Fil.drewN {H k : Nat} {bg : Bool} {β : Nat → Nat → Int} {X : Nat → Int} (h : Fil W g f a d C B n s H bg β X k w) (m : Nat) : Fil W g f a d C B n s H bg β X k (w.drewN m) := ⟨h.giv.drewN m, h.beg.drewN m⟩
theorem Fil.both {H : Nat} {bg : Bool} {β : Nat → Nat → Int} {X : Nat → Int} {c b : Nat} (h : Fil W g f a d C B n s H bg β X (b * C + c) w) (hc : c < C) (hb : b < B) {y : Int} (hX : y = X (b * C + c + 1)) {z : Int} (hz : z = β (b * C + c + 1) (b * C + c)) (ho : ∀ j, j ≠ b * C + c → β (b * C + c + 1) j = β (b * C + c) j) :
    Fil W g f a d C B n s H bg β X (b * C + c + 1) ((w.setCell ⟨d + 1 + c, b, none⟩ (.int .i64 z)).setCell ⟨g, 13, none⟩ (.int .i64 y)) := by
  have := h.giv.shr.p2; have := h.giv.box.2
  exact ⟨h.giv.both hc hb hX hz ho, (h.beg.set_ne (by show H + 1 ≠ d + 1 + c; omega) _).set_ne (by show H + 1 ≠ g; omega) _⟩
theorem Fil.none {H : Nat} {bg : Bool} {β : Nat → Nat → Int} {X : Nat → Int} {k : Nat} (h : Fil W g f a d C B n s H bg β X k w) (hX : X (k + 1) = X k) (ho : ∀ j, β (k + 1) j = β k j) : Fil W g f a d C B n s H bg β X (k + 1) w := ⟨h.giv.none hX ho, h.beg⟩

set_option maxHeartbeats 4000000 in
theorem fill_told (H N : Nat) (hN : H < N) (bg : Bool) (hn : ∀ j, -5 ≤ n j ∧ n j ≤ 15) (hβ : ∀ j, 0 ≤ β j ∧ β j ≤ 16) (hx : 0 ≤ x ∧ x ≤ f.p) (hp : f.p ≤ 10000) (c2 : C ≤ 2) (b8 : B ≤ 8) (s0 : -100 ≤ s ∧ s ≤ 100) :
    Told C B N 207 #[.pointer (some ⟨H, 0, none⟩), .pointer (some ⟨H + 1, 0, none⟩)] (Fil W g f a d C B n s H bg (fun k => M.bts bg n s f.p β x k) (fun k => M.sg bg n s f.p β x k)) := by
  intro c b w hc hb hNw hI
  have k0 : w.cell? ⟨H, 0, none⟩ = some (.pointer (some ⟨g, 0, none⟩)) := hI.giv.box.1.cell rfl
  have k1 : w.cell? ⟨H + 1, 0, none⟩ = some (.bool bg) := hI.beg.cell rfl
  have k2 : w.cell? ⟨g, 10, none⟩ = some (.slice (some ⟨a, 0, none⟩) C C) := hI.giv.shr.obj.cell rfl
  have k6 : w.cell? ⟨g, 12, none⟩ = some (.int .i64 s) := hI.giv.shr.obj.cell rfl
  have k7 : w.cell? ⟨g, 11, none⟩ = some (.slice (some ⟨d, 0, none⟩) C C) := hI.giv.shr.obj.cell rfl
  have k11 : w.cell? ⟨g, 7, none⟩ = some (.int .i64 f.p) := hI.giv.shr.obj.cell rfl
  have k12 : w.cell? ⟨g, 13, none⟩ = some (.int .i64 (M.sg bg n s f.p β x (b * C + c))) := hI.giv.shr.obj.cell rfl
  have k13 := hI.giv.shr.obj.free 13
  have k3 := hI.giv.shr.nds.at_head hc
  have k4 := hI.giv.shr.nds.at hc hb
  have k8 := hI.giv.shr.bts.at_head hc
  have k9 := hI.giv.shr.bts.at hc hb
  have k10 := hI.giv.shr.bts.free hc b
  have hy := hn (b * C + c)
  have hz := hβ (b * C + c)
  have hv := M.sg_bd bg n s f.p β x hx (b * C + c)
  have hne : ¬ d + 1 + c = g := by have := hI.giv.shr.p2; omega
  have hne2 : ¬ d + 1 + c = H := by have := hI.giv.shr.p2; have := hI.giv.box.2; omega
  have HI : Hid _ := hI
  have hc' : (c : Int) < C := by omega
  have hb' : (b : Int) < B := by omega
  have hC' : (C : Int) ≤ 2 := by omega
  have hB' : (B : Int) ≤ 8 := by omega
  have HS : Hid (∀ (m : Nat) (u v : Value), Stay N w (((w.drewN m).setCell ⟨d + 1 + c, b, none⟩ u).setCell ⟨g, 13, none⟩ v)) := by
    intro m u v
    have := hI.giv.shr.p2; have := hI.giv.box.2
    exact (((Stay.refl _ _).drewN _).set (by show d + 1 + c < N; omega) _).set (by show g < N; omega) _
  have HO : Hid (∀ (m : Nat) (u y' : Int), M.bt1 bg (n (b * C + c)) s f.p (M.sg bg n s f.p β x (b * C + c)) (β (b * C + c)) = u → M.sg1 bg (n (b * C + c)) s f.p (M.sg bg n s f.p β x (b * C + c)) (β (b * C + c)) = y' →
      Fil W g f a d C B n s H bg (fun k => M.bts bg n s f.p β x k) (fun k => M.sg bg n s f.p β x k) (b * C + c + 1) (((w.drewN m).setCell ⟨d + 1 + c, b, none⟩ (.int .i64 u)).setCell ⟨g, 13, none⟩ (.int .i64 y'))) := by
    intro m u y' h1 h2
    exact (hI.drewN m).both hc hb h2.symm (by show u = M.bts _ _ _ _ _ _ _ _; rw [M.bts_new, h1]) fun j hj => M.bts_old bg n s f.p β x hj
  have HZ : Hid (∀ (m : Nat), M.bt1 bg (n (b * C + c)) s f.p (M.sg bg n s f.p β x (b * C + c)) (β (b * C + c)) = β (b * C + c) → M.sg1 bg (n (b * C + c)) s f.p (M.sg bg n s f.p β x (b * C + c)) (β (b * C + c)) = M.sg bg n s f.p β x (b * C + c) →
      Fil W g f a d C B n s H bg (fun k => M.bts bg n s f.p β x k) (fun k => M.sg bg n s f.p β x k) (b * C + c + 1) (w.drewN m)) := by
    intro m h1 h2
    refine (hI.drewN m).none h2 fun j => ?_
    show M.bts _ _ _ _ _ _ _ _ = M.bts _ _ _ _ _ _ _ _
    by_cases hj : j = b * C + c
    · subst hj; rw [M.bts_new, M.bts_self, h1]
    · exact M.bts_old bg n s f.p β x hj
  have HZ2 : Hid (∀ (m m' : Nat), M.bt1 bg (n (b * C + c)) s f.p (M.sg bg n s f.p β x (b * C + c)) (β (b * C + c)) = β (b * C + c) → M.sg1 bg (n (b * C + c)) s f.p (M.sg bg n s f.p β x (b * C + c)) (β (b * C + c)) = M.sg bg n s f.p β x (b * C + c) →
      Fil W g f a d C B n s H bg (fun k => M.bts bg n s f.p β x k) (fun k => M.sg bg n s f.p β x k) (b * C + c + 1) ((w.drewN m).drewN m')) := fun m m' h1 h2 => (HZ.out m h1 h2).drewN m'
  rw [M.bts_self] at k9
  clear hI hN hNw hn hc hb hβ hx HI
  obtain ⟨I, hI⟩ : ∃ I, Fil W g f a d C B n s H bg (fun k => M.bts bg n s f.p β x k) (fun k => M.sg bg n s f.p β x k) (b * C + c + 1) = I := ⟨_, rfl⟩
  rw [hI] at HO HZ HZ2 ⊢
  clear hI
  generalize M.sg bg n s f.p β x (b * C + c) = v at *
  generalize n (b * C + c) = y at *
  generalize β (b * C + c) = z at *
  generalize f.p = p at *
  obtain ⟨s0, s1⟩ := s0
  obtain ⟨y0, y1⟩ := hy
  obtain ⟨z0, z1⟩ := hz
  obtain ⟨v0, v1⟩ := hv
  show Calls _ _ #[_, _, _, _] _ _
  rcases (by omega : p - v ≤ 0 ∨ (¬ p - v ≤ 0 ∧ 2 ≤ z ∧ z < 16) ∨ ¬ p - v ≤ 0 ∧ ¬ (2 ≤ z ∧ z < 16)) with h1 | ⟨h1, h2, h3⟩ | ⟨h1, h2⟩
  · have HE : Hid (M.bt1 bg y s p v z = z ∧ M.sg1 bg y s p v z = v) := ⟨if_pos h1, if_pos h1⟩
    go_enter Tryz.func207, Tryz.ntmps207
    go_wp2
    go_quiet (fail)
    go_wp2
    go_end0
    exact ⟨rfl, HZ.out _ HE.out.1 HE.out.2, (Stay.refl _ _).drewN _⟩
  · have HE : Hid (M.bt1 bg y s p v z = z + 1 ∧ M.sg1 bg y s p v z = v + 1) := by
      show _ ∧ _
      unfold M.bt1 M.sg1
      rw [if_neg h1, if_pos ⟨h2, h3⟩, if_neg h1, if_pos ⟨h2, h3⟩]; exact ⟨rfl, rfl⟩
    go_enter Tryz.func207, Tryz.ntmps207
    go_wp2
    go_quiet (fail)
    go_wp2
    go_end0
    exact ⟨rfl, HO.out _ _ _ HE.out.1 HE.out.2, HS.out _ _ _⟩
  · rcases (by omega : (y = s + 1 ∧ 2 ≤ p - v) ∨ (y = s + 1 ∧ ¬ 2 ≤ p - v) ∨ ¬ y = s + 1) with ⟨h3, h4⟩ | ⟨h3, h4⟩ | h3
    · cases bg
      · have HE : Hid (M.bt1 false y s p v z = z ∧ M.sg1 false y s p v z = v) := by
          show _ ∧ _
          unfold M.bt1 M.sg1
          rw [if_neg h1, if_neg h2, if_neg (by simp), if_neg h1, if_neg h2, if_neg (by simp)]; exact ⟨rfl, rfl⟩
        clear h3 h4
        rcases (by omega : (2 ≤ z ∧ ¬ z < 16) ∨ ¬ 2 ≤ z) with ⟨h5, h6⟩ | h5
        all_goals (
          clear h2
          go_enter Tryz.func207, Tryz.ntmps207
          go_wp2
          go_quiet (fail)
          go_wp2
          go_quiet (fail)
          go_wp2
          go_end0
          first | exact ⟨rfl, HZ2.out _ _ HE.out.1 HE.out.2, ((Stay.refl _ _).drewN _).drewN _⟩ | exact ⟨rfl, HZ.out _ HE.out.1 HE.out.2, (Stay.refl _ _).drewN _⟩)
      · have HE : Hid (M.bt1 true y s p v z = 2 ∧ M.sg1 true y s p v z = v + 2) := by
          show _ ∧ _
          unfold M.bt1 M.sg1
          rw [if_neg h1, if_neg h2, if_pos ⟨rfl, h3, h4⟩, if_neg h1, if_neg h2, if_pos ⟨rfl, h3, h4⟩]; exact ⟨rfl, rfl⟩
        have h7 : (y == s + 1) = true := by simp [h3]
        clear h3
        rcases (by omega : (2 ≤ z ∧ ¬ z < 16) ∨ ¬ 2 ≤ z) with ⟨h5, h6⟩ | h5
        all_goals (
          clear h2
          go_enter Tryz.func207, Tryz.ntmps207
          go_wp2
          go_quiet (fail)
          go_wp2
          go_quiet (fail)
          go_wp2
          go_end0
          exact ⟨rfl, HO.out _ _ _ HE.out.1 HE.out.2, HS.out _ _ _⟩)
    · have HE : Hid (M.bt1 bg y s p v z = z ∧ M.sg1 bg y s p v z = v) := by
        show _ ∧ _
        unfold M.bt1 M.sg1
        rw [if_neg h1, if_neg h2, if_neg (by omega), if_neg h1, if_neg h2, if_neg (by omega)]; exact ⟨rfl, rfl⟩
      have h7 : (y == s + 1) = true := by simp [h3]
      clear h3
      rcases (by omega : (2 ≤ z ∧ ¬ z < 16) ∨ ¬ 2 ≤ z) with ⟨h5, h6⟩ | h5
      all_goals (
        clear h2
        cases bg
        all_goals (
          go_enter Tryz.func207, Tryz.ntmps207
          go_wp2
          go_quiet (fail)
          go_wp2
          go_quiet (fail)
          go_wp2
          go_end0
          first | exact ⟨rfl, HZ2.out _ _ HE.out.1 HE.out.2, ((Stay.refl _ _).drewN _).drewN _⟩ | exact ⟨rfl, HZ.out _ HE.out.1 HE.out.2, (Stay.refl _ _).drewN _⟩))
    · have HE : Hid (M.bt1 bg y s p v z = z ∧ M.sg1 bg y s p v z = v) := by
        show _ ∧ _
        unfold M.bt1 M.sg1
        rw [if_neg h1, if_neg h2, if_neg (by omega), if_neg h1, if_neg h2, if_neg (by omega)]; exact ⟨rfl, rfl⟩
      have h7 : (y == s + 1) = false := by simp [h3]
      rcases (by omega : (2 ≤ z ∧ ¬ z < 16) ∨ ¬ 2 ≤ z) with ⟨h5, h6⟩ | h5
      all_goals (
        clear h2
        cases bg
        all_goals (
          go_enter Tryz.func207, Tryz.ntmps207
          go_wp2
          go_quiet (fail)
          go_wp2
          go_quiet (fail)
          go_wp2
          go_end0
          first | exact ⟨rfl, HZ2.out _ _ HE.out.1 HE.out.2, ((Stay.refl _ _).drewN _).drewN _⟩ | exact ⟨rfl, HZ.out _ HE.out.1 HE.out.2, (Stay.refl _ _).drewN _⟩))

end Alloc
end Go.Proofs.YtcaifpjbjghhaaaGreatDoor

/-
  Contracts of package alloc: a go through the bands with what is left, and the fall of the slice. Conditions: as told at each.
-/
namespace Go.Proofs.YtcaifpjbjghhaaaGreatDoor
set_option linter.unusedVariables false
open Go.RowKit
namespace Alloc
open Bank (Blk But)
open Poly (alloc_size enc cell_keep below_drew)
open _root_.Go.Proofs.YtcaifpjbjghhaaaGreatDoor.Form (fv fc bel1 blk_below box_cells of_drew)
variable {W : World} {g : Nat} {f : M.Fmt} {a d C B : Nat} {n β : Nat → Int} {s x : Int} {w w' : World}

theorem fill_any (w : World) (bg : Bool) (h : Shr W g f a d C B n β s x w) (hC : f.h = C) (hB : f.b = B) (hn : ∀ j, -5 ≤ n j ∧ n j ≤ 15) (hβ : ∀ j, 0 ≤ β j ∧ β j ≤ 16) (hx : 0 ≤ x ∧ x ≤ f.p) (hp : f.p ≤ 10000) (c2 : C ≤ 2) (b8 : B ≤ 8) (s0 : -100 ≤ s ∧ s ≤ 100) :
    Calls Tryz.prog 165 #[.pointer (some ⟨g, 0, none⟩), .bool bg] w fun e w' => e = .returned (.tuple #[]) ∧ Shr W g f a d C B n (fun j => M.bts bg n s f.p β x (B * C) j) s (M.sg bg n s f.p β x (B * C)) w' := by
  have h2 : Fil W g f a d C B n s w.heap.size bg (fun k => M.bts bg n s f.p β x k) (fun k => M.sg bg n s f.p β x k) 0 ((w.alloc (.cells #[.pointer (some ⟨g, 0, none⟩)] 265)).alloc (.cells #[.bool bg] 4)) :=
    ⟨⟨(h.grow ((bel1 _ _).alloc (bel1 _ _).size _)).ext fun j _ => (M.bts_zero bg n s f.p β x j).symm, ⟨(Blk.new w _ _).alloc _, h.obj.lt⟩⟩, by rw [← alloc_size w (.cells #[.pointer (some ⟨g, 0, none⟩)] 265)]; exact Blk.new _ _ _⟩
  have hth : Calls Tryz.prog 200 #[fv f, .func (.func 207) #[] #[.pointer (some ⟨w.heap.size, 0, none⟩), .pointer (some ⟨w.heap.size + 1, 0, none⟩)]] ((w.alloc (.cells #[.pointer (some ⟨g, 0, none⟩)] 265)).alloc (.cells #[.bool bg] 4)) fun e w' => e = .returned (.tuple #[]) ∧ Fil W g f a d C B n s w.heap.size bg (fun k => M.bts bg n s f.p β x k) (fun k => M.sg bg n s f.p β x k) (B * C) w' :=
    through_any f C B _ _ _ _ hC hB c2 b8 (enters_of Tryz.func207 (by kernel_rfl) rfl) (fun k a b ha hb => ha.grow hb) (fill_told _ _ (by simp; omega) bg hn hβ hx hp c2 b8 s0) h2
  have xs := obj_cells h2.giv.shr.obj
  have x14 : ((w.alloc (.cells #[.pointer (some ⟨g, 0, none⟩)] 265)).alloc (.cells #[.bool bg] 4)).cell? ⟨w.heap.size, 0, none⟩ = some (.pointer (some ⟨g, 0, none⟩)) := h2.giv.box.1.cell rfl
  clear h h2 hC hB hn hβ c2 b8 s0 hx hp
  generalize hF : (fun k => M.bts bg n s f.p β x k) = F at *
  generalize hG : (fun k => M.sg bg n s f.p β x k) = G at *
  have HR : Hid (∀ w, Fil W g f a d C B n s w.heap.size bg F G (B * C) w → True) := fun _ _ => trivial
  obtain ⟨H, hH⟩ : ∃ H, H = w.heap.size := ⟨_, rfl⟩
  have HF : Hid (∀ w4 : World, Fil W g f a d C B n s w.heap.size bg F G (B * C) w4 → Shr W g f a d C B n (fun j => M.bts bg n s f.p β x (B * C) j) s (M.sg bg n s f.p β x (B * C)) w4) := by
    intro w4 h4
    have := h4.giv.shr
    rw [← hF, ← hG] at this
    exact this
  clear hF hG hH H HR
  generalize (fun j => M.bts bg n s f.p β x (B * C) j) = β' at *
  generalize M.sg bg n s f.p β x (B * C) = x' at *
  obtain ⟨c_, r_, h_, b_, k_, m_, j_, p_, l_, y_⟩ := f
  unfold fv at hth
  dsimp only at xs hth
  obtain ⟨x0, x1, x2, x3, x4, x5, x6, x7, x8, x9, x10, x11, x12, x13⟩ := xs
  go_enter Tryz.func165, Tryz.ntmps165
  go_wp2_with (go_at_call 200; refine hth.mono ?_; clear hth; rintro e w4 ⟨rfl, h4⟩; have H4 : Hid _ := h4; clear h4)
  go_end0
  exact ⟨rfl, HF.out _ H4.out⟩

set_option maxHeartbeats 2000000 in
theorem fall_any (w : World) {p sl : Int} {N : Nat} (h : Shr W g f a d C B n β 0 0 w) (hC : f.h = C) (hB : f.b = B) (hN : B * C = N) (hn : ∀ j, -5 ≤ n j ∧ n j ≤ 15) (c2 : C ≤ 2) (b8 : B ≤ 8) (hp : f.p = p) (p0 : 0 < p) (p1 : p ≤ 10000) (hl : M.lst n N p sl) (hs : -21 < sl) :
    Calls Tryz.prog 163 #[.pointer (some ⟨g, 0, none⟩)] w fun e w' => e = .returned (.tuple #[]) ∧ Shr W g f a d C B n β (M.fin n N p sl) (M.x0 n N p sl) w' := by
  have HG : Hid (∀ wx, Shr W g f a d C B n β 0 0 wx → Calls Tryz.prog 204 #[.pointer (some ⟨g, 0, none⟩)] wx fun e w' => e = .returned (.int .i64 (M.mx n N)) ∧ Shr W g f a d C B n β 0 0 w') := fun wx h => hN ▸ greatest_any wx h hC hB hn c2 b8
  have HC : Hid (∀ t x wx, Shr W g f a d C B n β t x wx → -100 ≤ t ∧ t ≤ 100 → Calls Tryz.prog 205 #[.pointer (some ⟨g, 0, none⟩)] wx fun e w' => e = .returned (.int .i64 (M.cst n N t)) ∧ Shr W g f a d C B n β t x w') := fun t x wx h ht => hN ▸ costs_any wx h hC hB hn c2 b8 ht
  have mb := M.mx_bd n N (fun j _ => (hn j).2)
  have HT : Hid (M.tot n N (M.mx n N + 1) = 0) := M.mx_top n N _ (by omega)
  have N16 : N ≤ 16 := by
    have : B * C ≤ 8 * 2 := Nat.mul_le_mul b8 c2
    omega
  have HTT : Hid (∀ t, M.tot n N (t - 1) = M.tot n N t + M.cst n N t ∧ 0 ≤ M.cst n N t ∧ M.cst n N t ≤ 32 ∧ 0 ≤ M.tot n N t) := fun t => ⟨M.tot_pred n N t, (M.cst_bd n N t).1, by have := (M.cst_bd n N t).2; omega, (M.tot_bd n N t).1⟩
  have HL : Hid (M.lst n N p sl) := hl
  have H : Hid _ := h
  have y1 := h.obj.free 12
  have y2 : w.cell? ⟨g, 12, none⟩ = some (.int .i64 0) := h.obj.cell rfl
  clear h hC hB hN hn c2 b8 N16 hl
  obtain ⟨z0, z1⟩ := mb
  generalize hz : M.mx n N = z at *
  clear hz
  go_enter Tryz.func163, Tryz.ntmps163
  go_wp2_with (first
    | (go_at_call 204; refine (HG.out _ H.out).mono ?_; clear HG H y1 y2; rintro e w2 ⟨rfl, h2⟩; have y1 := h2.obj.free 12; have y2 : w2.cell? ⟨g, 12, none⟩ = some (.int .i64 0) := h2.obj.cell rfl; have H2 : Hid _ := h2; clear h2)
    | (go_at_call 205; refine (HC.out _ _ _ (H2.out.slice _) ⟨by omega, by omega⟩).mono ?_; clear y1 y2 H2; rintro e w3 ⟨rfl, h3⟩; have H3 : Hid _ := h3; clear h3))
  go_loopw [2] (fun i wr => ∃ t : Int, i = .int .i64 (M.cst n N t) ∧ M.tot n N t < p ∧ -21 < t ∧ t ≤ 16 ∧ Shr W g f a d C B n β t (M.tot n N t) wr) (fun _ wr => ((wr.cell? ⟨g, 12, none⟩).elim 0 intOf + 21).toNat)
  case atStart => exact ⟨z + 1, rfl, by rw [HT.out]; exact p0, by omega, by omega, by rw [HT.out]; exact H3.out⟩
  case round =>
    clear H3 HT
    obtain ⟨t, rfl, ht, t0, t1, hs⟩ := hrel
    obtain ⟨e1, K0, K1, T0⟩ := HTT.out t
    have x7 : wr.cell? ⟨g, 7, none⟩ = some (.int .i64 p) := by rw [← hp]; exact hs.obj.cell rfl
    have x12 : wr.cell? ⟨g, 12, none⟩ = some (.int .i64 t) := hs.obj.cell rfl
    have x13 : wr.cell? ⟨g, 13, none⟩ = some (.int .i64 (M.tot n N t)) := hs.obj.cell rfl
    have f12 := hs.obj.free 12
    have f13 := hs.obj.free 13
    have HS : Hid _ := hs
    have HE : Hid (M.tot n N (t - 1) = M.tot n N t + M.cst n N t) := e1
    have Hp : Hid (f.p = p) := hp
    clear hs e1 hp
    by_cases hlt : M.tot n N t + M.cst n N t < p
    · have hst := M.lst_lt HL.out (by rw [HE.out]; exact hlt)
      generalize M.tot n N t = T at *
      generalize M.cst n N t = K at *
      go_wp2
      go_quiet (fail)
      go_wp2_with (go_at_call 205; refine (HC.out (t - 1) (T + K) _ (((HS.out.drewN _).sum _).slice _) ⟨by omega, by omega⟩).mono ?_; rintro e w3 ⟨rfl, h3⟩; have z12 : w3.cell? ⟨g, 12, none⟩ = some (.int .i64 (t - 1)) := h3.obj.cell rfl; have H3 : Hid _ := h3; clear h3)
      go_roundw
      case rel => exact ⟨t - 1, rfl, by rw [HE.out]; exact hlt, by omega, by omega, by rw [HE.out]; exact H3.out⟩
      case measure => simp [x12, z12, intOf]; omega
    · have hst : t = sl := M.lst_one ⟨ht, by rw [HE.out]; omega⟩ HL.out
      have HF : Hid (M.fin n N p sl = (if M.tot n N (t - 1) = p then t - 1 else t) ∧ M.x0 n N p sl = M.tot n N (if M.tot n N (t - 1) = p then t - 1 else t)) := by
        show _ ∧ _
        unfold M.x0 M.fin; rw [hst]; exact ⟨rfl, rfl⟩
      clear hst
      by_cases he : M.tot n N t + M.cst n N t = p
      · have HF2 : Hid (M.fin n N p sl = t - 1 ∧ M.x0 n N p sl = p) := by
          rw [← HE.out] at he
          show _ ∧ _
          rw [HF.out.1, HF.out.2, if_pos he]; exact ⟨rfl, he⟩
        clear HF
        generalize M.tot n N t = T at *
        generalize M.cst n N t = K at *
        go_wp2
        go_quiet (fail)
        go_wp2
        go_quiet (fail)
        go_wp2
        go_end0
        exact ⟨rfl, by rw [HF2.out.1, HF2.out.2]; exact ((HS.out.drewN _).sum _).slice _⟩
      · have HF2 : Hid (M.fin n N p sl = t ∧ M.x0 n N p sl = M.tot n N t) := by
          rw [← HE.out] at he
          show _ ∧ _
          rw [HF.out.1, HF.out.2, if_neg he]; exact ⟨rfl, rfl⟩
        clear HF
        generalize M.tot n N t = T at *
        generalize M.cst n N t = K at *
        have he' : (T + K == p) = false := by simp [he]
        go_wp2
        go_quiet (fail)
        go_wp2
        go_quiet (fail)
        go_wp2
        go_end0
        exact ⟨rfl, by rw [HF2.out.1, HF2.out.2]; exact (HS.out.drewN _).drewN _⟩

end Alloc
end Go.Proofs.YtcaifpjbjghhaaaGreatDoor

/-
  Contracts of package alloc: what is refused. Conditions: as told at each.
-/
namespace Go.Proofs.YtcaifpjbjghhaaaGreatDoor
set_option linter.unusedVariables false
open Go.RowKit
namespace Alloc
open Bank (Blk But)
open Poly (alloc_size enc cell_keep below_drew)
open _root_.Go.Proofs.YtcaifpjbjghhaaaGreatDoor.Form (fv fc bel1 blk_below box_cells of_drew box_behind)

def Okz (P : Prop) (w : World) (e : Ending) (w' : World) : Prop := Below w.heap.size w w' ∧ ((e = .returned (.int .i64 0) ∧ P) ∨ (e = .returned (.int .i64 1) ∧ ¬ P))
set_option maxHeartbeats 1000000 in
theorem refuse_rest (f : M.Fmt) (vs : Value) (zss : List (List Int)) (C B : Nat) (w : World) (h : M.okS f) (hC : f.h = C) (hB : f.b = B) (hZ : Poly.Rows .i64 0 w.heap.size w vs zss) :
    Calls Tryz.prog 160 #[fv f, vs] w fun e w' => Okz (zss.length = C ∧ M.okZ B zss) w e w' := by
  have hch := fun wx => Form.Check_ok f wx (.inl h)
  have c0 : 1 ≤ C ∧ C ≤ 2 := by have := h.2.2.1; omega
  have b0 : 4 ≤ B ∧ B ≤ 8 := by have := h.2.2.2.1; omega
  have hc : f.c = 1 := h.1
  clear h
  obtain ⟨ax, cx, rfl, lx⟩ := hZ.form
  have HZ : Hid _ := hZ
  clear hZ
  obtain ⟨c_, r_, h_, b_, k_, m_, j_, p_, l_, y_⟩ := f
  obtain rfl : c_ = 1 := hc
  obtain rfl : h_ = C := hC
  obtain rfl : b_ = B := hB
  unfold fv at hch ⊢
  dsimp only at hch ⊢

  have HCh : Hid _ := hch
  clear hch
  by_cases hl : zss.length = C
  · have hl' : (zss.length : Int) = C := by omega
    obtain ⟨b1, o1, rfl, _, l1, hx⟩ := Poly.Rows.cell HZ.out (by omega)
    rw [hl] at hx
    obtain ⟨P, hP⟩ : ∃ P, (zss.length = C ∧ M.okZ B zss) = P := ⟨_, rfl⟩
    rw [hP, hl]
    have HP : Hid (P ↔ zss.length = C ∧ M.okZ B zss) := by show P ↔ _; rw [hP]
    clear hP
    have HX : Hid _ := hx
    clear hx HZ hl'
    have HL : Hid (zss.length = C ∧ b1 < w.heap.size) := ⟨hl, l1⟩
    clear hl l1
    have hC1 : (1 : Int) ≤ C := by omega
    have hC2 : (C : Int) ≤ 2 := by omega
    have hB2 : (B : Int) ≤ 8 := by omega
    have hB1 : (4 : Int) ≤ B := by omega
    go_enter Tryz.func160, Tryz.ntmps160
    go_wp2_with (go_at_call 100; refine (HCh.out _).mono ?_; clear HCh; rintro e w2 ⟨rfl, b2⟩; have x2 : w2.cell? ⟨w.heap.size, 2, none⟩ = some (.int .i64 (C : Int)) := (box_cells (box_behind (f := ⟨1, r_, C, B, k_, m_, j_, p_, l_, y_⟩) b2).1).2.2.1; have x3 : w2.cell? ⟨w.heap.size, 3, none⟩ = some (.int .i64 (B : Int)) := (box_cells (box_behind (f := ⟨1, r_, C, B, k_, m_, j_, p_, l_, y_⟩) b2).1).2.2.2.1; have B2 : Hid (Below w.heap.size w w2) := (box_behind (f := ⟨1, r_, C, B, k_, m_, j_, p_, l_, y_⟩) b2).2; clear b2)
    go_loopw [24] (fun i wr => ∃ q : Nat, q ≤ C ∧ i = .int .i64 q ∧ wr = w2 ∧ ∀ k, k < q → (zss.getD k []).length = B ∧ ∀ z ∈ zss.getD k [], 0 ≤ z ∧ z ≤ 15) (fun i _ => C - (intOf i).toNat)
    case atStart => exact ⟨0, by omega, rfl, rfl, fun k hk => absurd hk (by omega)⟩
    case round =>
      obtain ⟨q, hq, rfl, hw, hall⟩ := hrel
      subst hw
      have HA : Hid _ := hall
      clear hall
      by_cases hlt : q < C
      · have hlt' : (q : Int) < C := by omega
        obtain ⟨u, hu, hr⟩ := HX.out q hlt
        have z1 : wr.cell? ⟨b1, o1 + q, none⟩ = some u := (cell_keep (B2.out.block b1 HL.out.2)).trans hu
        obtain ⟨a3, c3, rfl⟩ := hr.form
        have HR : Hid _ := hr
        clear hr hu
        have HM : Hid (zss.getD q [] ∈ zss) := by
          show _ ∈ _
          rw [List.getD_eq_getElem?_getD, List.getElem?_eq_getElem (by rw [HL.out.1]; exact hlt)]; exact List.getElem_mem _
        obtain ⟨zs, hzs⟩ : ∃ zs, zss.getD q [] = zs := ⟨_, rfl⟩
        rw [hzs] at z1 HR HM
        have HG : Hid (zss.getD q [] = zs) := hzs
        clear hzs
        by_cases hz : zs.length = B
        · rw [hz] at z1
          have HR2 : Hid (Poly.Reads .i64 0 w.heap.size w (.slice a3 B c3) zs) := by show Poly.Reads _ _ _ _ _ _; rw [← hz]; exact HR.out
          clear HR
          obtain ⟨b4, o4, rfl, _, l4, hy⟩ := HR2.out.cell (by rw [hz]; omega)
          have HY : Hid (∀ i, i < B → wr.cell? ⟨b4, o4 + i, none⟩ = some (.int .i64 (zs.getD i 0))) := fun i hi => (cell_keep (B2.out.block b4 l4)).trans (hy i (by rw [hz]; exact hi))
          have HLz : Hid (zs.length = B) := hz
          clear hz hy HR2 l4
          go_wp2
          go_loopw [35] (fun i wx => ∃ k : Nat, k ≤ B ∧ i = .int .i64 k ∧ wx = wr ∧ ∀ j, j < k → 0 ≤ zs.getD j 0 ∧ zs.getD j 0 ≤ 15) (fun i _ => B - (intOf i).toNat)
          case atStart => exact ⟨0, by omega, rfl, rfl, fun k hk => absurd hk (by omega)⟩
          case round =>
            obtain ⟨k, hk, rfl, hw, hin⟩ := hrel
            subst hw
            have HI : Hid _ := hin
            clear hin
            by_cases hkl : k < B
            · have hkl' : (k : Int) < B := by omega
              have y1 := HY.out k hkl
              have HMz : Hid (zs.getD k 0 ∈ zs) := by
                show _ ∈ _
                rw [List.getD_eq_getElem?_getD, List.getElem?_eq_getElem (by rw [HLz.out]; exact hkl)]; exact List.getElem_mem _
              obtain ⟨z, hz⟩ : ∃ z, zs.getD k 0 = z := ⟨_, rfl⟩
              rw [hz] at y1 HMz
              have HGz : Hid (zs.getD k 0 = z) := hz
              clear hz
              rcases (by omega : z < 0 ∨ (¬ z < 0 ∧ 15 < z) ∨ (¬ z < 0 ∧ ¬ 15 < z)) with h1 | ⟨h1, h2⟩ | ⟨h1, h2⟩
              · go_wp2
                go_ret
                refine ⟨B2.out, .inr ⟨rfl, fun h => ?_⟩⟩
                have := ((HP.out.1 h).2 _ HM.out).2 _ HMz.out; omega
              · go_wp2
                go_ret
                refine ⟨B2.out, .inr ⟨rfl, fun h => ?_⟩⟩
                have := ((HP.out.1 h).2 _ HM.out).2 _ HMz.out; omega
              · go_wp2
                go_roundw
                case rel =>
                  refine ⟨k + 1, by omega, by go_num, by first | rfl | trivial, fun j hj => ?_⟩
                  rcases (by omega : j < k ∨ j = k) with h | rfl
                  · exact HI.out j h
                  · rw [HGz.out]; omega
                case measure => simp [intOf]; omega
            · obtain rfl : k = B := by omega
              go_wp2
              go_roundw
              case rel =>
                refine ⟨q + 1, by omega, by go_num, by first | rfl | trivial, fun j hj => ?_⟩
                rcases (by omega : j < q ∨ j = q) with h | rfl
                · exact HA.out j h
                · rw [HG.out]
                  refine ⟨HLz.out, fun z hz => ?_⟩
                  obtain ⟨i, hi, rfl⟩ := List.getElem_of_mem hz
                  have := HI.out i (by rw [← HLz.out]; exact hi)
                  rwa [List.getD_eq_getElem?_getD, List.getElem?_eq_getElem hi] at this
              case measure => simp [intOf]; omega
        · have hz' : ¬ (zs.length : Int) = B := by omega
          go_wp2
          go_ret
          exact ⟨B2.out, .inr ⟨rfl, fun h => hz ((HP.out.1 h).2 _ HM.out).1⟩⟩
      · obtain rfl : q = C := by omega
        go_wp2
        go_ret
        refine ⟨B2.out, .inl ⟨rfl, HP.out.2 ⟨HL.out.1, fun zs hzs => ?_⟩⟩⟩
        obtain ⟨i, hi, rfl⟩ := List.getElem_of_mem hzs
        have := HA.out i (by rw [← HL.out.1]; exact hi)
        rwa [List.getD_eq_getElem?_getD, List.getElem?_eq_getElem hi] at this
  · have hl' : ¬ (zss.length : Int) = C := by omega
    clear HZ
    go_enter Tryz.func160, Tryz.ntmps160
    go_wp2_with (go_at_call 100; refine (HCh.out _).mono ?_; clear HCh; rintro e w2 ⟨rfl, b2⟩; have x2 : w2.cell? ⟨w.heap.size, 2, none⟩ = some (.int .i64 (C : Int)) := (box_cells (box_behind (f := ⟨1, r_, C, B, k_, m_, j_, p_, l_, y_⟩) b2).1).2.2.1; have B2 : Hid (Below w.heap.size w w2) := (box_behind (f := ⟨1, r_, C, B, k_, m_, j_, p_, l_, y_⟩) b2).2; clear b2)
    go_ret
    exact ⟨B2.out, .inr ⟨rfl, fun h => hl h.1⟩⟩

end Alloc
end Go.Proofs.YtcaifpjbjghhaaaGreatDoor

/-
  Contracts of package alloc: Needs and Share. Conditions: as told at each; the offsets stand as their initialisers lay them.
-/
namespace Go.Proofs.YtcaifpjbjghhaaaGreatDoor
set_option linter.unusedVariables false
open Go.RowKit
namespace Alloc
open Bank (Blk But)
open Poly (alloc_size enc cell_keep below_drew)
open _root_.Go.Proofs.YtcaifpjbjghhaaaGreatDoor.Form (fv fc bel1 blk_below box_cells of_drew box_behind)

structure Good (f : M.Fmt) (zss : List (List Int)) (C B r : Nat) : Prop where
  ok : M.okS f
  hC : f.h = C
  hB : f.b = B
  hr : f.r = r
  len : zss.length = C
  sca : M.okZ B zss
theorem Good.c2 {f : M.Fmt} {zss : List (List Int)} {C B r : Nat} (h : Good f zss C B r) : 1 ≤ C ∧ C ≤ 2 := by have := h.ok.2.2.1; have := h.hC; omega
theorem Good.b8 {f : M.Fmt} {zss : List (List Int)} {C B r : Nat} (h : Good f zss C B r) : B = 4 ∨ B = 8 := by have := h.ok.2.2.2.1; have := h.hB; omega
theorem Good.r3 {f : M.Fmt} {zss : List (List Int)} {C B r : Nat} (h : Good f zss C B r) : r ≤ 3 := by have := h.ok.2.1; have := h.hr; omega

theorem refuse_ok (f : M.Fmt) (vs : Value) (zss : List (List Int)) (C B r : Nat) (w : World) (h : Good f zss C B r) (hZ : Poly.Rows .i64 0 w.heap.size w vs zss) :
    Calls Tryz.prog 160 #[fv f, vs] w fun e w' => e = .returned (.int .i64 0) ∧ Below w.heap.size w w' := by
  refine (refuse_rest f vs zss C B w h.ok h.hC h.hB hZ).mono ?_
  rintro e w' ⟨hb, ⟨he, _⟩ | ⟨_, hn⟩⟩
  · exact ⟨he, hb⟩
  · exact absurd ⟨h.len, h.sca⟩ hn
def Grids (W : World) (C B : Nat) (F : Nat → Int) (e : Ending) (w' : World) : Prop := ∃ a, W.heap.size ≤ a ∧ e = .returned (.tuple #[.slice (some ⟨a, 0, none⟩) C C, .int .i64 0]) ∧ Below W.heap.size W w' ∧ Grid a C B F w'

theorem Good.np {f : M.Fmt} {zss : List (List Int)} {C B r : Nat} (h : Good f zss C B r) : 2 ≤ f.p ∧ f.p ≤ 16 * ((B * C : Nat) : Int) ∧ f.p ≤ 250 := by
  obtain ⟨_, _, _, _, _, _, _, h1, h2, h3, _⟩ := h.ok
  have hC := h.hC; have hB := h.hB
  refine ⟨h1, ?_, h3⟩
  rw [hC, hB] at h2
  rw [Int.natCast_mul, ← Int.mul_assoc]; exact h2
theorem Good.lst {f : M.Fmt} {zss : List (List Int)} {C B r : Nat} (h : Good f zss C B r) : ∃ sl, M.lst (M.nd f.m C B r zss) (B * C) f.p sl ∧ -21 < sl ∧ sl ≤ 16 := by
  have hn := M.nd_bd (m := f.m) (C := C) (r := r) h.sca
  have hp := h.np
  have mb := M.mx_bd (M.nd f.m C B r zss) (B * C) (fun j _ => (hn j).2)
  have ht := M.mx_top (M.nd f.m C B r zss) (B * C) (M.mx (M.nd f.m C B r zss) (B * C) + 1) (by omega)
  obtain ⟨s, h1, h2, h3⟩ := M.lst_is (fun j _ => (hn j).1) (by omega) hp.2.1 _ (by rw [ht]; omega)
  exact ⟨s, h1, h2, by omega⟩

end Alloc
end Go.Proofs.YtcaifpjbjghhaaaGreatDoor

/-
  Contracts of package alloc: Share of scales that are some of a format. Conditions: as told at each; the offsets stand as their initialisers lay them.
-/
namespace Go.Proofs.YtcaifpjbjghhaaaGreatDoor
set_option linter.unusedVariables false
open Go.RowKit
namespace Alloc
open Bank (Blk But)
open Poly (alloc_size enc cell_keep below_drew)
open _root_.Go.Proofs.YtcaifpjbjghhaaaGreatDoor.Form (fv fc bel1 blk_below box_cells of_drew box_behind)

set_option maxHeartbeats 2000000 in
theorem Share_ok (f : M.Fmt) (vs : Value) (zss : List (List Int)) (C B r : Nat) (w : World) (hT : Tabs w) (h : Good f zss C B r) (hZ : Poly.Rows .i64 0 w.heap.size w vs zss) {sl : Int} (hl : M.lst (M.nd f.m C B r zss) (B * C) f.p sl) (hs : -21 < sl ∧ sl ≤ 16) :
    Calls Tryz.prog 109 #[fv f, vs] w fun e w' => Grids w C B (M.shr (M.nd f.m C B r zss) (B * C) f.p sl) e w' := by
  have hZ1 : Poly.Rows .i64 0 (w.alloc (.cells (fc f) 23)).heap.size (w.alloc (.cells (fc f) 23)) vs zss := by rw [alloc_size]; exact (hZ.below (bel1 w _) (Nat.le_refl _)).mono (Nat.le_refl _) (by omega)
  have hr := refuse_ok f vs zss C B r (w.alloc (.cells (fc f) 23)) h hZ1
  have hT1 : Tabs (w.alloc (.cells (fc f) 23)) := hT.below (bel1 _ _) (Nat.le_refl _)
  have hn : ∀ w2, Below (w.alloc (.cells (fc f) 23)).heap.size (w.alloc (.cells (fc f) 23)) w2 → Calls Tryz.prog 161 #[fv f, vs] w2 fun e w' => e = .returned (.slice (some ⟨w2.heap.size + 3, 0, none⟩) C C) ∧ Below w2.heap.size w2 w' ∧ Grid (w2.heap.size + 3) C B (M.nd f.m C B r zss) w' :=
    fun w2 hb => needsOf_any f vs zss C B r w2 (hT1.below hb (Nat.le_refl _)) ((hZ1.below hb (Nat.le_refl _)).mono (Nat.le_refl _) hb.size) h.len h.sca h.b8 h.hC h.hB h.hr h.r3 h.ok.2.2.2.2.2.1 h.c2.2
  have hbl := fun wx => blank_any f C B wx h.hC h.hB h.c2.2 (by have := h.b8; omega)
  have nb := M.nd_bd (m := f.m) (C := C) (r := r) h.sca
  have np := h.np
  have c2 := h.c2.2
  have b8 : B ≤ 8 := by have := h.b8; omega
  have hC := h.hC
  have hB := h.hB
  obtain ⟨ax, cx, rfl, _⟩ := hZ.form
  have HN : Hid _ := hn
  clear h hZ hn hT hT1 hZ1
  generalize M.nd f.m C B r zss = n at *
  have fb := M.fin_bd n (B * C) f.p sl
  have ft := M.fin_tot hl
  have tb := M.tot_bd n (B * C) (M.fin n (B * C) f.p sl)
  have x1b := M.sg_bd true n (M.fin n (B * C) f.p sl) f.p (M.b0 n (B * C) f.p sl) (M.x0 n (B * C) f.p sl) ⟨tb.1, ft⟩ (B * C)
  have HFall : Hid (∀ (a d g : Nat) (wx : World), Shr w g f a d C B n (fun _ => 0) 0 0 wx → Calls Tryz.prog 163 #[.pointer (some ⟨g, 0, none⟩)] wx fun e w' => e = .returned (.tuple #[]) ∧ Shr w g f a d C B n (fun _ => 0) (M.fin n (B * C) f.p sl) (M.x0 n (B * C) f.p sl) w') :=
    fun a d g wx h => fall_any wx h hC hB rfl nb c2 b8 rfl (by omega) (by omega) hl hs.1
  have HGive : Hid (∀ (a d g : Nat) (wx : World), Shr w g f a d C B n (fun _ => 0) (M.fin n (B * C) f.p sl) (M.x0 n (B * C) f.p sl) wx → Calls Tryz.prog 164 #[.pointer (some ⟨g, 0, none⟩)] wx fun e w' => e = .returned (.tuple #[]) ∧ Shr w g f a d C B n (M.b0 n (B * C) f.p sl) (M.fin n (B * C) f.p sl) (M.x0 n (B * C) f.p sl) w') :=
    fun a d g wx h => give_any wx h hC hB nb c2 b8 (by omega)
  have HF1 : Hid (∀ (a d g : Nat) (wx : World), Shr w g f a d C B n (M.b0 n (B * C) f.p sl) (M.fin n (B * C) f.p sl) (M.x0 n (B * C) f.p sl) wx → Calls Tryz.prog 165 #[.pointer (some ⟨g, 0, none⟩), .bool true] wx fun e w' => e = .returned (.tuple #[]) ∧ Shr w g f a d C B n (M.b1 n (B * C) f.p sl) (M.fin n (B * C) f.p sl) (M.x1 n (B * C) f.p sl) w') :=
    fun a d g wx h => fill_any wx true h hC hB nb (M.b0_bd _ _ _ _) ⟨tb.1, ft⟩ (by omega) c2 b8 (by omega)
  have HF2 : Hid (∀ (a d g : Nat) (wx : World), Shr w g f a d C B n (M.b1 n (B * C) f.p sl) (M.fin n (B * C) f.p sl) (M.x1 n (B * C) f.p sl) wx → Calls Tryz.prog 165 #[.pointer (some ⟨g, 0, none⟩), .bool false] wx fun e w' => e = .returned (.tuple #[]) ∧ Grid d C B (M.shr n (B * C) f.p sl) w' ∧ Below w.heap.size w w' ∧ w'.cell? ⟨g, 11, none⟩ = some (.slice (some ⟨d, 0, none⟩) C C)) :=
    fun a d g wx h => (fill_any wx false h hC hB nb (M.b1_bd _ _ _ _) x1b (by omega) c2 b8 (by omega)).mono fun e w' h => ⟨h.1, h.2.bts, h.2.bel, h.2.obj.cell rfl⟩
  clear fb ft tb x1b nb np c2 b8 hl hs
  generalize M.fin n (B * C) f.p sl = F0 at *
  generalize M.x0 n (B * C) f.p sl = X0 at *
  generalize M.x1 n (B * C) f.p sl = X1 at *
  generalize M.b0 n (B * C) f.p sl = B0 at *
  generalize M.b1 n (B * C) f.p sl = B1 at *
  generalize M.shr n (B * C) f.p sl = B2 at *
  have HShr : Hid (∀ (w2 w3 w4 : World), Below w.heap.size w w2 → Below w2.heap.size w2 w3 → Grid (w2.heap.size + 3) C B n w3 → Below w3.heap.size w3 w4 → Grid (w3.heap.size + 1) C B (fun _ => 0) w4 → w4.heap.size = w3.heap.size + 2 + C →
      Shr w w4.heap.size f (w2.heap.size + 3) (w3.heap.size + 1) C B n (fun _ => 0) 0 0 (w4.alloc (.cells (sc f (w2.heap.size + 3) (w3.heap.size + 1) C 0 0) 269))) := by
    intro w2 w3 w4 b2 b3 g3 b4 g4 s4
    have s2 := b2.size
    have l3 := g3.lt
    have b24 : Below w.heap.size w w4 := (b2.trans (b3.mono s2)).trans (b4.mono (by have := b3.size; omega))
    exact ⟨b24.alloc b24.size _, Blk.new w4 _ _, (g3.grow b4).grow (bel1 _ _), g4.grow (bel1 _ _), by omega, by omega, by omega⟩
  clear hC hB
  obtain ⟨c_, r_, h_, b_, k_, m_, j_, p_, l_, y_⟩ := f
  unfold fv at hr HN hbl ⊢
  unfold fc at hr HN
  unfold sc at HShr
  dsimp only at hr HN hbl HShr ⊢
  have HBl : Hid _ := hbl
  clear hbl
  go_enter Tryz.func109, Tryz.ntmps109
  go_wp2_with (go_at_call 160; refine hr.mono ?_; clear hr; rintro e w2 ⟨rfl, b2⟩; have bx := box_behind (f := ⟨c_, r_, h_, b_, k_, m_, j_, p_, l_, y_⟩) b2; have xs := box_cells bx.1; dsimp only at xs; have HXs : Hid _ := xs; obtain ⟨x0, x1, x2, x3, x4, x5, x6, x7, x8, x9⟩ := xs; have BX : Hid _ := bx; clear bx; have HBw : Hid _ := b2; clear b2)
  go_region_held3 (fun wx => wx.cell? ⟨w.heap.size, 0, none⟩ = some (.int .i64 c_) ∧ wx.cell? ⟨w.heap.size, 1, none⟩ = some (.int .i64 r_) ∧ wx.cell? ⟨w.heap.size, 2, none⟩ = some (.int .i64 h_) ∧ wx.cell? ⟨w.heap.size, 3, none⟩ = some (.int .i64 b_) ∧ wx.cell? ⟨w.heap.size, 4, none⟩ = some (.int .i64 k_) ∧ wx.cell? ⟨w.heap.size, 5, none⟩ = some (.int .i64 m_) ∧ wx.cell? ⟨w.heap.size, 6, none⟩ = some (.int .i64 j_) ∧ wx.cell? ⟨w.heap.size, 7, none⟩ = some (.int .i64 p_) ∧ wx.cell? ⟨w.heap.size, 8, none⟩ = some (.int .i64 l_) ∧ wx.cell? ⟨w.heap.size, 9, none⟩ = some (.int .i64 y_))
    (first | exact HXs.out | exact HYs.out | exact HYs2.out | exact box_cells (f := ⟨c_, r_, h_, b_, k_, m_, j_, p_, l_, y_⟩) (Bank.Blk.alloc HBk.out _))
    (first
      | (go_at_call 161; refine (HN.out w2.drew HBw.out.drew).mono ?_; clear HN; rintro e w3 ⟨rfl, b3, g3⟩; have G3 : Hid (Grid (w2.heap.size + 3) C B n w3) := g3; have C3 : Hid (Below w2.heap.size w2 w3) := of_drew b3; clear b3 g3; have ys := box_cells (blk_below C3.out BX.out.1 BX.out.1.lt); dsimp only at ys; have HYs : Hid _ := ys; clear ys)
      | (go_at_call 162; refine (HBl.out _).mono ?_; clear HBl; rintro e w4 ⟨rfl, b4, g4, s4⟩; have G4 : Hid _ := g4; have C4 : Hid (Below w3.heap.size w3 w4) := b4; have S4 : Hid (w4.heap.size = w3.heap.size + 2 + C) := s4; clear b4 g4 s4; have ys := box_cells (blk_below C4.out (blk_below C3.out BX.out.1 BX.out.1.lt) (Nat.lt_of_lt_of_le BX.out.1.lt C3.out.size)); dsimp only at ys; have HYs2 : Hid _ := ys; clear ys; have HBk : Hid (Blk w4 w.heap.size (fc ⟨c_, r_, h_, b_, k_, m_, j_, p_, l_, y_⟩) 23) := blk_below C4.out (blk_below C3.out BX.out.1 BX.out.1.lt) (Nat.lt_of_lt_of_le BX.out.1.lt C3.out.size)))
  all_goals (

    go_wp2_with (first
      | (go_at_call 163; refine (HFall.out _ _ _ _ (HShr.out w2 w3 w4 BX.out.2 C3.out G3.out C4.out G4.out S4.out)).mono ?_; clear HFall; rintro e w5 ⟨rfl, h5⟩; have H5 : Hid _ := h5; clear h5)
      | (go_at_call 164; refine (HGive.out _ _ _ _ H5.out).mono ?_; clear HGive; rintro e w6 ⟨rfl, h6⟩; have H6 : Hid _ := h6; clear h6)
      | (go_at_call 165; refine (HF1.out _ _ _ _ H6.out).mono ?_; clear HF1; rintro e w7 ⟨rfl, h7⟩; have H7 : Hid _ := h7; clear h7)
      | (go_at_call 165; refine (HF2.out _ _ _ _ H7.out).mono ?_; clear HF2; rintro e w8 ⟨rfl, h8, q8, k8⟩; have H8 : Hid _ := h8; have Q8 : Hid (Below w.heap.size w w8) := q8; clear h8 q8))
    go_ret2
    exact ⟨w3.heap.size + 1, by have := BX.out.2.size; have := C3.out.size; omega, rfl, Q8.out, H8.out⟩)

end Alloc
end Go.Proofs.YtcaifpjbjghhaaaGreatDoor

/-
  The document's answer of layer 11: bits, bytes, samples. Conditions: as told at each.
-/
namespace Go.Proofs.YtcaifpjbjghhaaaGreatDoor
set_option linter.unusedVariables false
open Go.RowKit
namespace Form
open Bank (Blk But)
open Poly (alloc_size)

theorem rBits_S (f : M.Fmt) (w : World) (hc : f.c = 1) (hb : f.b = 4 ∨ f.b = 8) (hh : f.h = 1 ∨ f.h = 2) (hk : f.k = 4 ∨ f.k = 8 ∨ f.k = 12 ∨ f.k = 16) (hp : 0 ≤ f.p ∧ f.p ≤ 251) :
    Calls Tryz.prog 56 #[fv f] w fun e w' => e = .returned (.int .i64 (M.bitS f)) ∧ Below w.heap.size w w' := by
  have hx := M.kp_bd hk hp
  obtain ⟨c, r, h, b, k, m, j, p, l, y⟩ := f
  unfold fv M.bitS
  dsimp only at hc hb hh hk hp hx ⊢
  subst hc
  obtain ⟨x, ex⟩ : ∃ x, k * p = x := ⟨_, rfl⟩
  rw [ex] at hx ⊢
  have b0 : 4 ≤ b ∧ b ≤ 8 := by omega
  clear hb hk hp
  by_cases hj : j = 1
  · subst hj
    rw [if_pos rfl]
    rcases hh with rfl | rfl
    · go_enter Tryz.func56, Tryz.ntmps56
      go_wp2
      refine wp_loop_rounds 2 ?_
      rw [rounds_succ]
      go_wp2
      rw [rounds_succ]
      go_wp2
      go_ret
      exact ⟨ret_int (by omega), bel1 _ _⟩
    · go_enter Tryz.func56, Tryz.ntmps56
      go_wp2
      refine wp_loop_rounds 3 ?_
      rw [rounds_succ]
      go_wp2
      rw [rounds_succ]
      go_wp2
      rw [rounds_succ]
      go_wp2
      go_ret
      exact ⟨ret_int (by omega), bel1 _ _⟩
  · have e1 : (j == 1) = false := by simpa using hj
    rw [if_neg hj]
    rcases hh with rfl | rfl
    · go_enter Tryz.func56, Tryz.ntmps56
      go_wp2
      refine wp_loop_rounds 2 ?_
      rw [rounds_succ]
      go_wp2
      rw [rounds_succ]
      go_wp2
      go_ret
      exact ⟨ret_int (by omega), bel1 _ _⟩
    · go_enter Tryz.func56, Tryz.ntmps56
      go_wp2
      refine wp_loop_rounds 3 ?_
      rw [rounds_succ]
      go_wp2
      rw [rounds_succ]
      go_wp2
      rw [rounds_succ]
      go_wp2
      go_ret
      exact ⟨ret_int (by omega), bel1 _ _⟩

end Form
end Go.Proofs.YtcaifpjbjghhaaaGreatDoor

/-
  The document's answer for layer 12: offsets and what bands need. Conditions: as told at each.
-/
namespace Go.Proofs.YtcaifpjbjghhaaaGreatDoor
set_option linter.unusedVariables false
open Go.RowKit
namespace M
end M
namespace Alloc
open Bank (Blk But)
open Poly (alloc_size enc cell_keep below_drew Gat)
open _root_.Go.Proofs.YtcaifpjbjghhaaaGreatDoor.Form (fv fc bel1 blk_below box_cells of_drew box_behind)

theorem owns_below {w w' : World} {base e size : Nat} {v : Value} {n : Nat} {xs : List Value} (h : w.ownsRow base e size v n xs) (hb : Below w.heap.size w w') : w'.ownsRow base e size v n xs :=
  h.kept (row := none) ⟨hb.os, hb.tape, hb.output, hb.size, fun k hk _ => hb.block k hk⟩ (by cases v.ownBlock <;> simp)
theorem Gat.grow {k : IntKind} {t : TypeId} {B : Nat} {v : Value} {zs : List Int} {w wr w' : World} (h : Gat k t B v zs w wr) (hb : Below wr.heap.size wr w') : Gat k t B v zs w w' := ⟨owns_below h.1 hb, h.2.1.trans (hb.mono h.size), h.2.2⟩

end Alloc
end Go.Proofs.YtcaifpjbjghhaaaGreatDoor

