import Derived.Test.YtcaifpjbjghhaaaGreatDoorSubP13
import Derived.Test.YtcaifpjbjghhaaaGreatDoorSubP22
import Derived.Test.YtcaifpjbjghhaaaGreatDoorSubP03
import Derived.Test.YtcaifpjbjghhaaaGreatDoorSubP26
import Derived.BigQuiet
/-
  Sub frames in plain numbers: formats, shares, what a code may be. No walk. Conditions: as told at each.
-/
namespace Go.Proofs.YtcaifpjbjghhaaaGreatDoor
set_option linter.unusedVariables false
open Go.RowKit
namespace M

def sumN (f : Nat → Int) : Nat → Int
  | 0 => 0
  | n + 1 => sumN f n + f n
theorem sumN_congr {f g : Nat → Int} : ∀ {n : Nat}, (∀ j, j < n → f j = g j) → sumN f n = sumN g n
  | 0, _ => rfl
  | n + 1, h => by show sumN f n + f n = sumN g n + g n; rw [sumN_congr (n := n) fun j hj => h j (by omega), h n (by omega)]
theorem sumN_tot (n : Nat → Int) (s : Int) : ∀ N, sumN (fun j => h16 (n j - s)) N = tot n N s
  | 0 => rfl
  | N + 1 => by
    show sumN _ N + _ = tot n (N + 1) s
    rw [sumN_tot n s N]; rfl
def two (β : Int) : Prop := β = 0 ∨ (2 ≤ β ∧ β ≤ 16)
theorem two_h16 (x : Int) : two (h16 x) := by unfold two h16; repeat' split
                                              all_goals omega
theorem two_bt1 {bg : Bool} {n s p x β : Int} (h : two β) : two (bt1 bg n s p x β) := by
  unfold two bt1 at *
  repeat' split
  all_goals omega
theorem two_bts {bg : Bool} {n : Nat → Int} {s p : Int} {β : Nat → Int} {x : Int} (h : ∀ j, two (β j)) (k j : Nat) : two (bts bg n s p β x k j) := by
  unfold bts
  split
  · exact two_bt1 (h j)
  · exact h j
theorem two_shr (n : Nat → Int) (N : Nat) (p s : Int) (j : Nat) : two (shr n N p s j) := two_bts (fun j => two_bts (fun j => two_h16 _) N j) N j
theorem sum_bts (bg : Bool) (n : Nat → Int) (s p : Int) (β : Nat → Int) (x : Int) (hβ : ∀ j, two (β j)) (hbg : bg = true → ∀ j, n j = s + 1 → β j = 0) (N : Nat) : ∀ k, k ≤ N → (∀ m, sumN (fun j => bts bg n s p β x k j) m = sumN β m + (sg bg n s p β x (min k m) - x))
  | 0, _, m => by
    have e : sumN (fun j => bts bg n s p β x 0 j) m = sumN β m := sumN_congr fun j _ => bts_zero bg n s p β x j
    rw [e, Nat.zero_min]
    have : sg bg n s p β x 0 = x := rfl
    omega
  | k + 1, hk, m => by
    have ih := sum_bts bg n s p β x hβ hbg N k (by omega)
    have step : ∀ m, m ≤ k → sumN (fun j => bts bg n s p β x (k + 1) j) m = sumN (fun j => bts bg n s p β x k j) m := fun m hm => sumN_congr fun j hj => bts_old bg n s p β x (by omega)
    have hs : sg bg n s p β x (k + 1) = sg1 bg (n k) s p (sg bg n s p β x k) (β k) := rfl
    have h1 : sg1 bg (n k) s p (sg bg n s p β x k) (β k) - sg bg n s p β x k = bt1 bg (n k) s p (sg bg n s p β x k) (β k) - β k := by
      have := hβ k
      unfold two at this
      unfold sg1 bt1
      by_cases c1 : p - sg bg n s p β x k ≤ 0
      · rw [if_pos c1, if_pos c1]; omega
      · rw [if_neg c1, if_neg c1]
        by_cases c2 : 2 ≤ β k ∧ β k < 16
        · rw [if_pos c2, if_pos c2]; omega
        · rw [if_neg c2, if_neg c2]
          by_cases c3 : bg = true ∧ n k = s + 1 ∧ 2 ≤ p - sg bg n s p β x k
          · rw [if_pos c3, if_pos c3]
            have := hbg c3.1 k c3.2.1
            omega
          · rw [if_neg c3, if_neg c3]; omega
    have main : ∀ d, sumN (fun j => bts bg n s p β x (k + 1) j) (k + 1 + d) = sumN β (k + 1 + d) + (sg bg n s p β x (k + 1) - x) := by
      intro d
      induction d with
      | zero =>
        show sumN _ k + bts bg n s p β x (k + 1) k = sumN β k + β k + _
        rw [step k (Nat.le_refl _), ih k, bts_new, Nat.min_self, hs]
        omega
      | succ d ihd =>
        show sumN _ (k + 1 + d) + bts bg n s p β x (k + 1) (k + 1 + d) = sumN β (k + 1 + d) + β (k + 1 + d) + _
        rw [ihd]
        have : bts bg n s p β x (k + 1) (k + 1 + d) = β (k + 1 + d) := by unfold bts; rw [if_neg (by omega)]
        rw [this]; omega
    rcases Nat.lt_or_ge k m with h | h
    · obtain ⟨d, rfl⟩ : ∃ d, m = k + 1 + d := ⟨m - (k + 1), by omega⟩
      rw [main d, Nat.min_eq_left (by omega)]
    · rw [step m h, ih m, Nat.min_eq_right (by omega), Nat.min_eq_right (by omega)]
theorem shr_sum {n : Nat → Int} {N : Nat} {p sl : Int} (h : lst n N p sl) : sumN (shr n N p sl) N ≤ p := by
  have e0 : sumN (b0 n N p sl) N = x0 n N p sl := sumN_tot n _ N
  have ft := fin_tot h
  have tb := tot_bd n N (fin n N p sl)
  have x1b := sg_bd true n (fin n N p sl) p (b0 n N p sl) (x0 n N p sl) ⟨tb.1, ft⟩ N
  have e1 : sumN (b1 n N p sl) N = x1 n N p sl := by
    have := sum_bts true n (fin n N p sl) p (b0 n N p sl) (x0 n N p sl) (fun j => two_h16 _) (fun _ j hj => by show h16 (n j - fin n N p sl) = 0; rw [hj, show fin n N p sl + 1 - fin n N p sl = 1 by omega]; rfl) N N (Nat.le_refl _) N
    rw [Nat.min_self, e0] at this
    show sumN (fun j => bts true n (fin n N p sl) p (b0 n N p sl) (x0 n N p sl) N j) N = sg true n (fin n N p sl) p (b0 n N p sl) (x0 n N p sl) N
    omega
  have e2 := sum_bts false n (fin n N p sl) p (b1 n N p sl) (x1 n N p sl) (fun j => two_bts (fun j => two_h16 _) N j) (fun h => by cases h) N N (Nat.le_refl _) N
  rw [Nat.min_self, e1] at e2
  have x2b := sg_bd false n (fin n N p sl) p (b1 n N p sl) (x1 n N p sl) x1b N
  show sumN (fun j => bts false n (fin n N p sl) p (b1 n N p sl) (x1 n N p sl) N j) N ≤ p
  omega

def wid (f : Fmt) (C B r : Nat) (Z : Nat → Nat → Int) (sl : Int) (c b : Nat) : Int := shr (nd f.m C B r (Sub.zl C B Z)) (B * C) f.p sl (b * C + c)
theorem wid_two (f : Fmt) (C B r : Nat) (Z : Nat → Nat → Int) (sl : Int) (c b : Nat) : two (wid f C B r Z sl c b) := two_shr _ _ _ _ _
theorem wid_bd (f : Fmt) (C B r : Nat) (Z : Nat → Nat → Int) (sl : Int) (c b : Nat) : 0 ≤ wid f C B r Z sl c b ∧ wid f C B r Z sl c b ≤ 16 := shr_bd _ _ _ _ _

end M
namespace Sub

structure Sb (f : M.Fmt) (C B N r : Nat) : Prop where
  ok : M.okS f
  hC : f.h = C
  hB : f.b = B
  hN : f.k = N
  hr : f.r = r
theorem sb_of {f : M.Fmt} (h : M.okS f) : ∃ C B N r, Sb f C B N r := by
  have h1 := h.2.1; have h2 := h.2.2.1; have h3 := h.2.2.2.1; have h4 := h.2.2.2.2.1
  exact ⟨f.h.toNat, f.b.toNat, f.k.toNat, f.r.toNat, h, by omega, by omega, by omega, by omega⟩
section
variable {f : M.Fmt} {C B N r : Nat}
theorem Sb.c2 (h : Sb f C B N r) : C = 1 ∨ C = 2 := by have := h.ok.2.2.1; have := h.hC; omega
theorem Sb.b8 (h : Sb f C B N r) : B = 4 ∨ B = 8 := by have := h.ok.2.2.2.1; have := h.hB; omega
theorem Sb.n16 (h : Sb f C B N r) : N = 4 ∨ N = 8 ∨ N = 12 ∨ N = 16 := by have := h.ok.2.2.2.2.1; have := h.hN; omega
theorem Sb.r3 (h : Sb f C B N r) : r ≤ 3 := by have := h.ok.2.1; have := h.hr; omega
theorem Sb.joint (h : Sb f C B N r) : f.j = 0 ∨ (f.j = 1 ∧ C = 2) := by have := h.ok.2.2.2.2.2.2.1; have := h.hC; omega
theorem Sb.method (h : Sb f C B N r) : f.m = 0 ∨ f.m = 1 := h.ok.2.2.2.2.2.1
end
structure Sh (f : M.Fmt) (C B r : Nat) (Z : Nat → Nat → Int) (sl : Int) : Prop where
  good : Alloc.Good f (zl C B Z) C B r
  lst : M.lst (M.nd f.m C B r (zl C B Z)) (B * C) f.p sl
  bd : -21 < sl ∧ sl ≤ 16
theorem okZ_of {C B : Nat} {Z : Nat → Nat → Int} (hZ : ∀ c, c < C → ∀ b, b < B → 0 ≤ Z c b ∧ Z c b ≤ 15) : M.okZ B (zl C B Z) := by
  intro zs hzs
  obtain ⟨c, hc, rfl⟩ := List.mem_map.1 hzs
  refine ⟨rl_length _ _, fun z hz => ?_⟩
  obtain ⟨b, hb, rfl⟩ := List.mem_map.1 hz
  exact hZ c (by simpa using hc) b (by simpa using hb)
theorem sh_of {f : M.Fmt} {C B N r : Nat} {Z : Nat → Nat → Int} (h : Sb f C B N r) (hZ : ∀ c, c < C → ∀ b, b < B → 0 ≤ Z c b ∧ Z c b ≤ 15) : ∃ sl, Sh f C B r Z sl := by
  have g : Alloc.Good f (zl C B Z) C B r := ⟨h.ok, h.hC, h.hB, h.hr, zl_length _ _ _, okZ_of hZ⟩
  obtain ⟨sl, h1, h2⟩ := g.lst
  exact ⟨sl, g, h1, h2⟩
theorem Sh.one {f : M.Fmt} {C B r : Nat} {Z : Nat → Nat → Int} {s t : Int} (h : Sh f C B r Z s) (k : Sh f C B r Z t) : s = t := M.lst_one h.lst k.lst

end Sub
end Go.Proofs.YtcaifpjbjghhaaaGreatDoor

/-
  Contracts: the shares of parameters, one number's level. Conditions: as told at each.
-/
namespace Go.Proofs.YtcaifpjbjghhaaaGreatDoor
set_option linter.unusedVariables false
open Go.RowKit
namespace Sub
open Bank (Blk But)
open Poly (Reads cell_keep alloc_size enc enc_get)
open _root_.Go.Proofs.YtcaifpjbjghhaaaGreatDoor.Form (fv fc bel1 Says box_cells box_behind blk_below of_drew)

theorem grid_grd {a C B : Nat} {F : Nat → Int} {w : World} (h : Alloc.Grid a C B F w) : Grd .i64 3 25 a C B (fun c b => F (b * C + c)) w := ⟨h.head, h.row⟩
def pa (vj vs vc : Value) : Value := .agg #[vj, vs, vc]
theorem V2.rows64 {hi n C : Nat} {v : Value} {F : Nat → Nat → Int} {w : World} (h : V2 .i64 hi v n C F w) (hf : ∀ i, i < n → ∀ j, j < C → -9223372036854775808 ≤ F i j ∧ F i j ≤ 9223372036854775807) : Poly.Rows .i64 0 hi w v (zl n C F) := by
  obtain ⟨b, o, c, rfl, hc, hb, hx⟩ := h
  refine ⟨_, c, by rw [zl_length], by rw [zl_length]; exact hc, .inr ⟨b, o, rfl, Nat.zero_le _, hb, fun i hi => ?_⟩⟩
  rw [zl_length] at hi
  obtain ⟨u, hu, b1, o1, c1, rfl, h1, h2, h3⟩ := hx i hi
  rw [zl_get hi]
  refine ⟨_, hu, _, c1, by rw [rl_length], by rw [rl_length]; exact h1, fun z hz => ?_, .inr ⟨b1, o1, rfl, Nat.zero_le _, h2, fun j hj => ?_⟩⟩
  · obtain ⟨j, hj, rfl⟩ := List.mem_map.1 hz
    exact wf64.2 (hf i hi j (by simpa using hj))
  · rw [rl_length] at hj
    rw [rl_get hj]; exact h3 j hj

set_option maxRecDepth 100000 in
theorem sharesOf_any (hi : Nat) (f : M.Fmt) (C B r : Nat) (Z : Nat → Nat → Int) (sl : Int) (vj vs vc : Value) (w : World) (hT : Alloc.Tabs w) (hS : Sh f C B r Z sl) (hs : V2 .i64 hi vs C B Z w) (hh : hi ≤ w.heap.size)
    (hj : ∃ a l c, vj = .slice a l c) (hc : ∃ a l c, vc = .slice a l c) (hZ : ∀ c, c < C → ∀ b, b < B → 0 ≤ Z c b ∧ Z c b ≤ 15) :
    Calls Tryz.prog 49 #[fv f, pa vj vs vc] w fun e w' => ∃ a, e = .returned (.slice (some ⟨a, 0, none⟩) C C) ∧ w.heap.size ≤ a ∧ Below w.heap.size w w' ∧ Grd .i64 3 25 a C B (fun c b => M.wid f C B r Z sl c b) w' := by
  obtain ⟨aj, lj, cj, rfl⟩ := hj
  obtain ⟨ac, lc, cc, rfl⟩ := hc
  have bel : Below w.heap.size w ((w.alloc (.cells (fc f) 23)).alloc (.cells #[.slice aj lj cj, vs, .slice ac lc cc] 33)) := (bel1 _ _).alloc (bel1 _ _).size _
  have hk := Alloc.Share_ok f vs (zl C B Z) C B r _ (hT.below bel (Nat.le_refl _)) hS.good (((hs.below bel hh).mono (hi' := ((w.alloc (.cells (fc f) 23)).alloc (.cells #[.slice aj lj cj, vs, .slice ac lc cc] 33)).heap.size) (Nat.le_trans hh bel.size)).rows64 fun i hi j hj => by have := hZ i hi j hj; omega) hS.lst hS.bd
  have HB : Hid (Below w.heap.size w _) := bel
  have fb : ∀ a w', Alloc.Grid a C B (M.shr (M.nd f.m C B r (zl C B Z)) (B * C) f.p sl) w' → Grd .i64 3 25 a C B (fun c b => M.wid f C B r Z sl c b) w' := fun a w' h => grid_grd h
  have HF : Hid _ := fb
  obtain ⟨bs, os, cs, rfl⟩ := hs.form
  clear bel hT hS hs fb hZ
  generalize M.shr (M.nd f.m C B r (zl C B Z)) (B * C) f.p sl = SH at *
  generalize (fun c b => M.wid f C B r Z sl c b) = WI at *
  unfold pa
  obtain ⟨c_, r_, h_, b_, k_, m_, j_, p_, l_, y_⟩ := f
  unfold fv at hk ⊢
  unfold fc at hk HB
  dsimp only at hk HB ⊢
  go_enter Tryz.func49, Tryz.ntmps49
  go_wp2_with (go_at_call 109; refine hk.mono ?_; clear hk; rintro e w2 ⟨a, ha, rfl, b2, g2⟩; have B2 : Hid (Below _ _ w2) := b2; have G2 : Hid _ := HF.out a w2 g2; have HA : Hid _ := ha; clear b2 g2 ha HF)
  go_ret
  have h1 := HA.out
  have h2 := HB.out
  refine ⟨a, rfl, Nat.le_trans h2.size h1, h2.trans (B2.out.mono h2.size), G2.out⟩

set_option maxRecDepth 100000 in
set_option maxHeartbeats 4000000 in
theorem level_any (hi N C B : Nat) (vj vs vc vu : Value) (Q : Nat → Nat → Nat → Int) (Z U : Nat → Nat → Int) (i c b : Nat) (w : World) (hc : V3 .i64 hi vc N C B Q w) (hs : V2 .i64 hi vs C B Z w) (hu : V2 .i64 hi vu C B U w) (hh : hi ≤ w.heap.size)
    (hj : ∃ a l c, vj = .slice a l c) (hi' : i < N) (hc' : c < C) (hb' : b < B) (N16 : N ≤ 16) (C2 : C ≤ 2) (B8 : B ≤ 8) :
    Calls Tryz.prog 54 #[pa vj vs vc, vu, .agg #[.int .i64 (i : Int), .int .i64 (c : Int), .int .i64 (b : Int)]] w fun e w' =>
      e = .returned (.tuple #[.int .i32 (Qnt.la (Q i c b) (Z c b) (U c b)).1, .int .i64 (Qnt.la (Q i c b) (Z c b) (U c b)).2]) ∧ Below w.heap.size w w' := by
  obtain ⟨aj, lj, cj, rfl⟩ := hj
  obtain ⟨bc, oc, cc, rfl⟩ := hc.form
  obtain ⟨bs, os, cs, rfl⟩ := hs.form
  obtain ⟨bu, ou, cu, rfl⟩ := hu.form
  obtain ⟨W, hW⟩ : ∃ W, (w.alloc (.cells #[.slice aj lj cj, .slice (some ⟨bs, os, none⟩) C cs, .slice (some ⟨bc, oc, none⟩) N cc] 33)).alloc (.cells #[.int .i64 (i : Int), .int .i64 (c : Int), .int .i64 (b : Int)] 94) = W := ⟨_, rfl⟩
  have bel : Below w.heap.size w W := by rw [← hW]; exact (bel1 _ _).alloc (bel1 _ _).size _
  have hp : Blk W w.heap.size #[.slice aj lj cj, .slice (some ⟨bs, os, none⟩) C cs, .slice (some ⟨bc, oc, none⟩) N cc] 33 := by rw [← hW]; exact (Blk.new w _ _).alloc _
  have ha : Blk W (w.heap.size + 1) #[.int .i64 (i : Int), .int .i64 (c : Int), .int .i64 (b : Int)] 94 := by
    rw [← hW]
    have := Blk.new (w.alloc (.cells #[.slice aj lj cj, .slice (some ⟨bs, os, none⟩) C cs, .slice (some ⟨bc, oc, none⟩) N cc] 33)) #[.int .i64 (i : Int), .int .i64 (c : Int), .int .i64 (b : Int)] 94
    rw [alloc_size] at this
    exact this
  obtain ⟨b1, o1, c1, b2, o2, c2, _, _, _, e1, e2, e3⟩ := (hc.below bel hh).all hi' hc' hb'
  obtain ⟨b3, o3, c3, _, _, e4, e5⟩ := (hs.below bel hh).all hc' hb'
  obtain ⟨b4, o4, c4, _, _, e6, e7⟩ := (hu.below bel hh).all hc' hb'
  have p1 := hp.cell (o := 1) rfl
  have p2 := hp.cell (o := 2) rfl
  have a0 := ha.cell (o := 0) rfl
  have a1 := ha.cell (o := 1) rfl
  have a2 := ha.cell (o := 2) rfl
  have HB : Hid (Below w.heap.size w W) := bel
  have HS : Hid (W.cell? ⟨w.heap.size, 1, none⟩ = some (.slice (some ⟨bs, os, none⟩) C cs) ∧ W.cell? ⟨w.heap.size, 2, none⟩ = some (.slice (some ⟨bc, oc, none⟩) N cc) ∧ W.cell? ⟨w.heap.size + 1, 0, none⟩ = some (.int .i64 (i : Int)) ∧ W.cell? ⟨w.heap.size + 1, 1, none⟩ = some (.int .i64 (c : Int)) ∧ W.cell? ⟨w.heap.size + 1, 2, none⟩ = some (.int .i64 (b : Int)) ∧
    W.cell? ⟨bc, oc + i, none⟩ = some (.slice (some ⟨b1, o1, none⟩) C c1) ∧ W.cell? ⟨b1, o1 + c, none⟩ = some (.slice (some ⟨b2, o2, none⟩) B c2) ∧ W.cell? ⟨b2, o2 + b, none⟩ = some (.int .i64 (Q i c b)) ∧
    W.cell? ⟨bs, os + c, none⟩ = some (.slice (some ⟨b3, o3, none⟩) B c3) ∧ W.cell? ⟨b3, o3 + b, none⟩ = some (.int .i64 (Z c b)) ∧ W.cell? ⟨bu, ou + c, none⟩ = some (.slice (some ⟨b4, o4, none⟩) B c4) ∧ W.cell? ⟨b4, o4 + b, none⟩ = some (.int .i64 (U c b))) := ⟨p1, p2, a0, a1, a2, e1, e2, e3, e4, e5, e6, e7⟩
  clear bel hp ha hc hs hu
  generalize Q i c b = q at *
  generalize Z c b = s at *
  generalize U c b = u at *
  have HL : Hid (∀ wx, Calls Tryz.prog 119 #[.int .i64 q, .int .i64 s, .int .i64 u] wx fun e w' => e = .returned (.tuple #[.int .i32 (Qnt.la q s u).1, .int .i64 (Qnt.la q s u).2]) ∧ ∃ m, w' = wx.drewN m) := fun wx => Qnt.Level_any q s u wx
  generalize (Qnt.la q s u).1 = r1 at *
  generalize (Qnt.la q s u).2 = r2 at *
  have i1 : (i : Int) < N := by omega
  have i2 : (c : Int) < C := by omega
  have i3 : (b : Int) < B := by omega
  have i4 : (N : Int) ≤ 16 := by omega
  have i5 : (C : Int) ≤ 2 := by omega
  have i6 : (B : Int) ≤ 8 := by omega
  unfold pa
  go_enter Tryz.func54, Tryz.ntmps54
  go_wp2
  try rw [hW]
  clear hW
  go_region_held3 (fun W => W.cell? ⟨w.heap.size, 1, none⟩ = some (.slice (some ⟨bs, os, none⟩) C cs) ∧ W.cell? ⟨w.heap.size, 2, none⟩ = some (.slice (some ⟨bc, oc, none⟩) N cc) ∧ W.cell? ⟨w.heap.size + 1, 0, none⟩ = some (.int .i64 (i : Int)) ∧ W.cell? ⟨w.heap.size + 1, 1, none⟩ = some (.int .i64 (c : Int)) ∧ W.cell? ⟨w.heap.size + 1, 2, none⟩ = some (.int .i64 (b : Int)) ∧
    W.cell? ⟨bc, oc + i, none⟩ = some (.slice (some ⟨b1, o1, none⟩) C c1) ∧ W.cell? ⟨b1, o1 + c, none⟩ = some (.slice (some ⟨b2, o2, none⟩) B c2) ∧ W.cell? ⟨b2, o2 + b, none⟩ = some (.int .i64 q) ∧
    W.cell? ⟨bs, os + c, none⟩ = some (.slice (some ⟨b3, o3, none⟩) B c3) ∧ W.cell? ⟨b3, o3 + b, none⟩ = some (.int .i64 s) ∧ W.cell? ⟨bu, ou + c, none⟩ = some (.slice (some ⟨b4, o4, none⟩) B c4) ∧ W.cell? ⟨b4, o4 + b, none⟩ = some (.int .i64 u))
    (exact HS.out)
    (first | (go_at_call 119; refine (HL.out _).mono ?_; clear HL; rintro e w2 ⟨rfl, m2, rfl⟩))
  all_goals (
    go_wp2
    go_ret2
    exact ⟨rfl, (Qnt.bel_drewN _ _ |> fun h => HB.out.trans (h.mono HB.out.size))⟩)

end Sub
end Go.Proofs.YtcaifpjbjghhaaaGreatDoor

/-
  Contracts: which formats are of Sub, how long lists are, the shares, one number's level. Conditions: as told at each.
-/
namespace Go.Proofs.YtcaifpjbjghhaaaGreatDoor
set_option linter.unusedVariables false
open Go.RowKit
namespace Sub
open Bank (Blk But)
open Poly (Reads cell_keep alloc_size enc enc_get)
open _root_.Go.Proofs.YtcaifpjbjghhaaaGreatDoor.Form (fv fc bel1 Says box_cells box_behind blk_below of_drew)

theorem okF_S {f : M.Fmt} (h : M.okS f) : M.okF f := .inl h
theorem okF_not {f : M.Fmt} (hc : f.c = 1) (h : ¬ M.okS f) : ¬ M.okF f := fun hf => hf.elim h fun h2 => by have := h2.1; omega

set_option maxRecDepth 100000 in
theorem isSub_any (f : M.Fmt) (w : World) : Calls Tryz.prog 42 #[fv f] w fun e w' => Says (M.okS f) w e w' := by
  by_cases hc : f.c = 1
  · by_cases h : M.okS f
    · have hk := Form.Check_ok f (w.alloc (.cells (fc f) 23)) (okF_S h)
      have HH : Hid (M.okS f) := h
      have HB : Hid (Below w.heap.size w _) := bel1 w (.cells (fc f) 23)
      clear h
      obtain ⟨c_, r_, h_, b_, k_, m_, j_, p_, l_, y_⟩ := f
      obtain rfl : c_ = 1 := hc
      unfold fv at hk ⊢
      unfold fc at hk HB
      dsimp only at hk HB ⊢
      go_enter Tryz.func42, Tryz.ntmps42
      go_wp2_with (go_at_call 100; refine hk.mono ?_; clear hk; rintro e w2 ⟨rfl, b2⟩; have B2 : Hid (Below _ _ w2) := b2; clear b2)
      go_ret
      exact ⟨true, rfl, HB.out.trans (B2.out.mono (by rw [alloc_size]; omega)), by simp; exact HH.out⟩
    · have hk := Form.Check_no f (w.alloc (.cells (fc f) 23)) (okF_not hc h)
      have HH : Hid (¬ M.okS f) := h
      have HB : Hid (Below w.heap.size w _) := bel1 w (.cells (fc f) 23)
      clear h
      obtain ⟨c_, r_, h_, b_, k_, m_, j_, p_, l_, y_⟩ := f
      obtain rfl : c_ = 1 := hc
      unfold fv at hk ⊢
      unfold fc at hk HB
      dsimp only at hk HB ⊢
      go_enter Tryz.func42, Tryz.ntmps42
      go_wp2_with (go_at_call 100; refine hk.mono ?_; clear hk; rintro e w2 ⟨rfl, b2⟩; have B2 : Hid (Below _ _ w2) := b2; clear b2)
      go_ret
      exact ⟨false, rfl, HB.out.trans (B2.out.mono (by rw [alloc_size]; omega)), by simp; exact HH.out⟩
  · have HB : Hid (Below w.heap.size w _) := bel1 w (.cells (fc f) 23)
    have HH : Hid (¬ M.okS f) := fun h => hc h.1
    obtain ⟨c_, r_, h_, b_, k_, m_, j_, p_, l_, y_⟩ := f
    have hc' : (c_ == 1) = false := by simp; exact hc
    unfold fv
    unfold fc at HB
    dsimp only at HB ⊢
    go_enter Tryz.func42, Tryz.ntmps42
    go_wp2
    go_ret
    exact ⟨false, rfl, HB.out, by simp; exact HH.out⟩

set_option maxHeartbeats 1000000 in
theorem isLaid32_any (hi : Nat) (v : Value) (n : Nat) (l : Nat → Nat) (m : Nat → Nat → Nat) (x y z : Int) (w : World) (h : L3 hi v n l m w) (hn : n ≤ 65536) (hl : ∀ i, i < n → l i ≤ 65536 ∧ ∀ j, j < l i → m i j ≤ 65536) :
    Calls Tryz.prog 101 #[v, .int .i64 x, .int .i64 y, .int .i64 z] w fun e w' => Qnt.Yes (isL n l m x y z) w e w' := by
  obtain ⟨ax, cx, rfl⟩ := h.form
  have HZ : Hid (L3 hi (.slice ax n cx) n l m w) := h
  have HL : Hid _ := hl
  have n1 : (n : Int) ≤ 65536 := by omega
  clear h hl
  by_cases hx : (n : Int) = x
  · subst hx
    go_enter Tryz.func101, Tryz.ntmps101
    go_wp2
    go_loopw [19] (fun i wr => ∃ q : Nat, q ≤ n ∧ i = .int .i64 q ∧ wr = w ∧ ∀ i, i < q → (l i : Int) = y ∧ ∀ j, j < l i → (m i j : Int) = z) (fun i _ => n - (intOf i).toNat)
    case atStart => exact ⟨0, by omega, rfl, rfl, fun k hk => absurd hk (by omega)⟩
    case round =>
      obtain ⟨q, hq, rfl, hw, hall⟩ := hrel
      subst hw
      have HA : Hid _ := hall
      clear hall
      by_cases hlt : q < n
      · have hlt' : (q : Int) < n := by omega
        obtain ⟨b, off, rfl, _, hx⟩ := HZ.out.at (by omega)
        obtain ⟨a1, c1, hu, hh⟩ := hx q hlt
        clear hx
        have hlq := HL.out q hlt
        have HH : Hid (Qnt.Hd hi (.slice a1 (l q) c1) (l q) (m q) wr) := hh
        clear hh
        by_cases hf : (l q : Int) = y
        · have HF : Hid ((l q : Int) = y) := hf
          have l1 : (l q : Int) ≤ 65536 := by omega
          have HLq : Hid _ := hlq.2
          clear hlq
          obtain ⟨L, hL⟩ : ∃ L, l q = L := ⟨_, rfl⟩
          have HE : Hid (l q = L) := hL
          rw [hL] at hu HH hf l1
          clear hL
          subst hf
          go_wp2
          go_loopw [29] (fun i wr' => ∃ r : Nat, r ≤ L ∧ i = .int .i64 r ∧ wr' = wr ∧ ∀ j, j < r → (m q j : Int) = z) (fun i _ => L - (intOf i).toNat)
          case atStart => exact ⟨0, by omega, rfl, rfl, fun k hk => absurd hk (by omega)⟩
          case round =>
            obtain ⟨r, hr, rfl, hw, hall⟩ := hrel
            rw [hw]
            clear hw
            have HA2 : Hid _ := hall
            clear hall
            by_cases hlt2 : r < L
            · have hlt2' : (r : Int) < L := by omega
              obtain ⟨b2, off2, rfl, _, hx2⟩ := HH.out.at (by omega)
              obtain ⟨a3, c3, hu3⟩ := hx2 r hlt2
              clear hx2
              have mb : (m q r : Int) ≤ 65536 := by have := HLq.out r (by rw [HE.out]; exact hlt2); omega
              by_cases hz : (m q r : Int) = z
              · have HZz : Hid ((m q r : Int) = z) := hz
                obtain ⟨Z, hZ⟩ : ∃ Z, m q r = Z := ⟨_, rfl⟩
                rw [hZ] at hu3 hz mb
                clear hZ
                subst hz
                go_wp2
                go_roundw
                case rel =>
                  refine ⟨r + 1, by omega, by go_num, by first | rfl | trivial, fun j hj => ?_⟩
                  rcases (by omega : j < r ∨ j = r) with h | rfl
                  · exact HA2.out j h
                  · exact HZz.out
                case measure => simp [intOf]; omega
              · have HZz : Hid (¬ (m q r : Int) = z) := hz
                obtain ⟨Z, hZ⟩ : ∃ Z, m q r = Z := ⟨_, rfl⟩
                rw [hZ] at hu3 hz mb
                clear hZ
                have hz' : ((Z : Int) == z) = false := by simp; exact hz
                have hz'' : ((Z : Int) != z) = true := by simp; exact hz
                clear hz
                go_wp2
                go_ret
                exact ⟨rfl, .inr ⟨rfl, fun h => HZz.out ((h.2 q hlt).2 r (by rw [HE.out]; exact hlt2))⟩⟩
            · obtain rfl : r = L := by omega
              go_wp2
              go_roundw
              case rel =>
                refine ⟨q + 1, by omega, by go_num, by first | rfl | trivial, fun j hj => ?_⟩
                rcases (by omega : j < q ∨ j = q) with h | rfl
                · exact HA.out j h
                · exact ⟨HF.out, fun j' hj' => HA2.out j' (by rw [← HE.out]; exact hj')⟩
              case measure => simp [intOf]; omega
        · have HF : Hid (¬ (l q : Int) = y) := hf
          have l1 : (l q : Int) ≤ 65536 := by omega
          clear hlq
          obtain ⟨L, hL⟩ : ∃ L, l q = L := ⟨_, rfl⟩
          rw [hL] at hu HH hf l1
          clear hL
          have hf' : ((L : Int) == y) = false := by simp; exact hf
          have hf'' : ((L : Int) != y) = true := by simp; exact hf
          clear hf
          go_wp2
          go_ret
          exact ⟨rfl, .inr ⟨rfl, fun h => HF.out (h.2 q hlt).1⟩⟩
      · obtain rfl : q = n := by omega
        go_wp2
        go_ret
        exact ⟨rfl, .inl ⟨rfl, rfl, HA.out⟩⟩
  · have HX : Hid (¬ (n : Int) = x) := hx
    have hf' : ((n : Int) == x) = false := by simp; exact hx
    have hf'' : ((n : Int) != x) = true := by simp; exact hx
    clear hx
    go_enter Tryz.func101, Tryz.ntmps101
    go_wp2
    go_ret
    exact ⟨rfl, .inr ⟨rfl, fun h => HX.out h.1⟩⟩

set_option maxHeartbeats 1000000 in
theorem isLaidI_any (hi : Nat) (v : Value) (n : Nat) (l : Nat → Nat) (m : Nat → Nat → Nat) (x y z : Int) (w : World) (h : L3 hi v n l m w) (hn : n ≤ 65536) (hl : ∀ i, i < n → l i ≤ 65536 ∧ ∀ j, j < l i → m i j ≤ 65536) :
    Calls Tryz.prog 167 #[v, .int .i64 x, .int .i64 y, .int .i64 z] w fun e w' => Qnt.Yes (isL n l m x y z) w e w' := by
  obtain ⟨ax, cx, rfl⟩ := h.form
  have HZ : Hid (L3 hi (.slice ax n cx) n l m w) := h
  have HL : Hid _ := hl
  have n1 : (n : Int) ≤ 65536 := by omega
  clear h hl
  by_cases hx : (n : Int) = x
  · subst hx
    go_enter Tryz.func167, Tryz.ntmps167
    go_wp2
    go_loopw [19] (fun i wr => ∃ q : Nat, q ≤ n ∧ i = .int .i64 q ∧ wr = w ∧ ∀ i, i < q → (l i : Int) = y ∧ ∀ j, j < l i → (m i j : Int) = z) (fun i _ => n - (intOf i).toNat)
    case atStart => exact ⟨0, by omega, rfl, rfl, fun k hk => absurd hk (by omega)⟩
    case round =>
      obtain ⟨q, hq, rfl, hw, hall⟩ := hrel
      subst hw
      have HA : Hid _ := hall
      clear hall
      by_cases hlt : q < n
      · have hlt' : (q : Int) < n := by omega
        obtain ⟨b, off, rfl, _, hx⟩ := HZ.out.at (by omega)
        obtain ⟨a1, c1, hu, hh⟩ := hx q hlt
        clear hx
        have hlq := HL.out q hlt
        have HH : Hid (Qnt.Hd hi (.slice a1 (l q) c1) (l q) (m q) wr) := hh
        clear hh
        by_cases hf : (l q : Int) = y
        · have HF : Hid ((l q : Int) = y) := hf
          have l1 : (l q : Int) ≤ 65536 := by omega
          have HLq : Hid _ := hlq.2
          clear hlq
          obtain ⟨L, hL⟩ : ∃ L, l q = L := ⟨_, rfl⟩
          have HE : Hid (l q = L) := hL
          rw [hL] at hu HH hf l1
          clear hL
          subst hf
          go_wp2
          go_loopw [29] (fun i wr' => ∃ r : Nat, r ≤ L ∧ i = .int .i64 r ∧ wr' = wr ∧ ∀ j, j < r → (m q j : Int) = z) (fun i _ => L - (intOf i).toNat)
          case atStart => exact ⟨0, by omega, rfl, rfl, fun k hk => absurd hk (by omega)⟩
          case round =>
            obtain ⟨r, hr, rfl, hw, hall⟩ := hrel
            rw [hw]
            clear hw
            have HA2 : Hid _ := hall
            clear hall
            by_cases hlt2 : r < L
            · have hlt2' : (r : Int) < L := by omega
              obtain ⟨b2, off2, rfl, _, hx2⟩ := HH.out.at (by omega)
              obtain ⟨a3, c3, hu3⟩ := hx2 r hlt2
              clear hx2
              have mb : (m q r : Int) ≤ 65536 := by have := HLq.out r (by rw [HE.out]; exact hlt2); omega
              by_cases hz : (m q r : Int) = z
              · have HZz : Hid ((m q r : Int) = z) := hz
                obtain ⟨Z, hZ⟩ : ∃ Z, m q r = Z := ⟨_, rfl⟩
                rw [hZ] at hu3 hz mb
                clear hZ
                subst hz
                go_wp2
                go_roundw
                case rel =>
                  refine ⟨r + 1, by omega, by go_num, by first | rfl | trivial, fun j hj => ?_⟩
                  rcases (by omega : j < r ∨ j = r) with h | rfl
                  · exact HA2.out j h
                  · exact HZz.out
                case measure => simp [intOf]; omega
              · have HZz : Hid (¬ (m q r : Int) = z) := hz
                obtain ⟨Z, hZ⟩ : ∃ Z, m q r = Z := ⟨_, rfl⟩
                rw [hZ] at hu3 hz mb
                clear hZ
                have hz' : ((Z : Int) == z) = false := by simp; exact hz
                have hz'' : ((Z : Int) != z) = true := by simp; exact hz
                clear hz
                go_wp2
                go_ret
                exact ⟨rfl, .inr ⟨rfl, fun h => HZz.out ((h.2 q hlt).2 r (by rw [HE.out]; exact hlt2))⟩⟩
            · obtain rfl : r = L := by omega
              go_wp2
              go_roundw
              case rel =>
                refine ⟨q + 1, by omega, by go_num, by first | rfl | trivial, fun j hj => ?_⟩
                rcases (by omega : j < q ∨ j = q) with h | rfl
                · exact HA.out j h
                · exact ⟨HF.out, fun j' hj' => HA2.out j' (by rw [← HE.out]; exact hj')⟩
              case measure => simp [intOf]; omega
        · have HF : Hid (¬ (l q : Int) = y) := hf
          have l1 : (l q : Int) ≤ 65536 := by omega
          clear hlq
          obtain ⟨L, hL⟩ : ∃ L, l q = L := ⟨_, rfl⟩
          rw [hL] at hu HH hf l1
          clear hL
          have hf' : ((L : Int) == y) = false := by simp; exact hf
          have hf'' : ((L : Int) != y) = true := by simp; exact hf
          clear hf
          go_wp2
          go_ret
          exact ⟨rfl, .inr ⟨rfl, fun h => HF.out (h.2 q hlt).1⟩⟩
      · obtain rfl : q = n := by omega
        go_wp2
        go_ret
        exact ⟨rfl, .inl ⟨rfl, rfl, HA.out⟩⟩
  · have HX : Hid (¬ (n : Int) = x) := hx
    have hf' : ((n : Int) == x) = false := by simp; exact hx
    have hf'' : ((n : Int) != x) = true := by simp; exact hx
    clear hx
    go_enter Tryz.func167, Tryz.ntmps167
    go_wp2
    go_ret
    exact ⟨rfl, .inr ⟨rfl, fun h => HX.out h.1⟩⟩

theorem arePlanes_any (hi : Nat) (f : M.Fmt) (v : Value) (n : Nat) (l : Nat → Nat) (m : Nat → Nat → Nat) (w : World) (h : L3 hi v n l m w) (hh : hi ≤ w.heap.size) (hn : n ≤ 65536) (hl : ∀ i, i < n → l i ≤ 65536 ∧ ∀ j, j < l i → m i j ≤ 65536) :
    Calls Tryz.prog 43 #[fv f, v] w fun e w' => Says (isL n l m f.h f.k f.b) w e w' := by
  have hk := isLaid32_any hi v n l m f.h f.k f.b (w.alloc (.cells (fc f) 23)) (h.below (bel1 _ _) hh) hn hl
  have HB : Hid (Below w.heap.size w _) := bel1 w (.cells (fc f) 23)
  obtain ⟨a, c, rfl⟩ := h.form
  clear h hl
  obtain ⟨c_, r_, h_, b_, k_, m_, j_, p_, l_, y_⟩ := f
  unfold fv
  unfold fc at hk HB
  dsimp only at hk HB ⊢
  generalize isL n l m h_ k_ b_ = Q at *
  go_enter Tryz.func43, Tryz.ntmps43
  go_wp2_with (go_at_call 101; refine hk.mono ?_; clear hk; rintro e w2 ⟨hw, ⟨rfl, hq⟩ | ⟨rfl, hq⟩⟩ <;> (rw [hw]; clear hw w2; have HQ : Hid _ := hq; clear hq))
  · go_ret
    exact ⟨true, rfl, HB.out, by simp; exact HQ.out⟩
  · go_ret
    exact ⟨false, rfl, HB.out, by simp; exact HQ.out⟩

end Sub
end Go.Proofs.YtcaifpjbjghhaaaGreatDoor

/-
  Which planes fit a format, by the document's answer. Conditions: as told at each.
-/
namespace Go.Proofs.YtcaifpjbjghhaaaGreatDoor
set_option linter.unusedVariables false
open Go.RowKit
namespace Sub
open Bank (Blk But)
open Poly (cell_keep)
open _root_.Go.Proofs.YtcaifpjbjghhaaaGreatDoor.Form (fv fc Says bel1 box_cells)

set_option maxRecDepth 100000 in
set_option maxHeartbeats 4000000 in
theorem Fits_any (hi : Nat) (f : M.Fmt) (v : Value) (n : Nat) (l : Nat → Nat) (m : Nat → Nat → Nat) (w : World) (h : L3 hi v n l m w) (hh : hi ≤ w.heap.size) (hn : n ≤ 65536) (hl : ∀ i, i < n → l i ≤ 65536 ∧ ∀ j, j < l i → m i j ≤ 65536) :
    Calls Tryz.prog 17 #[fv f, v] w fun e w' => Says (isL n l m f.h f.k f.b) w e w' := by
  obtain ⟨W, hW⟩ : ∃ W, w.alloc (.cells (fc f) 23) = W := ⟨_, rfl⟩
  have bel : Below w.heap.size w W := by rw [← hW]; exact bel1 _ _
  have hbx : Blk W w.heap.size (fc f) 23 := by rw [← hW]; exact Blk.new _ _ _
  have hz := h.below bel hh
  obtain ⟨ax, cx, rfl⟩ := h.form
  have HZ : Hid (L3 hi (.slice ax n cx) n l m W) := hz
  have HL : Hid _ := hl
  have HB : Hid (∀ mm, Below w.heap.size w (W.drewN mm)) := fun mm => Poly.below_drewN bel mm
  have n1 : (n : Int) ≤ 65536 := by omega
  clear h hl hz bel
  obtain ⟨c_, r_, h_, b_, k_, m_, j_, p_, l_, y_⟩ := f
  unfold fv
  unfold fc at hW
  have xs := box_cells hbx
  dsimp only at xs hW ⊢
  obtain ⟨x0, x1, x2, x3, x4, x5, x6, x7, x8, x9⟩ := xs
  clear hbx
  by_cases hx : (n : Int) = h_
  · subst hx
    go_enter Tryz.func17, Tryz.ntmps17
    go_wp2
    go_loopw [5] (fun i wr => ∃ q : Nat, q ≤ n ∧ i = .int .i64 q ∧ (∃ mm, wr = W.drewN mm) ∧ ∀ i, i < q → (l i : Int) = k_ ∧ ∀ j, j < l i → (m i j : Int) = b_) (fun i _ => n - (intOf i).toNat)
    case atStart => exact ⟨0, by omega, rfl, ⟨0, rfl⟩, fun k hk => absurd hk (by omega)⟩
    case round =>
      obtain ⟨q, hq, rfl, ⟨mm, hw⟩, hall⟩ := hrel
      subst hw
      have HA : Hid _ := hall
      clear hall
      by_cases hlt : q < n
      · have hlt' : (q : Int) < n := by omega
        obtain ⟨b, off, rfl, _, hx⟩ := HZ.out.at (by omega)
        obtain ⟨a1, c1, hu, hh⟩ := hx q hlt
        clear hx
        have hlq := HL.out q hlt
        have HH : Hid (Qnt.Hd hi (.slice a1 (l q) c1) (l q) (m q) W) := hh
        clear hh
        by_cases hf : (l q : Int) = k_
        · have HF : Hid ((l q : Int) = k_) := hf
          have l1 : (l q : Int) ≤ 65536 := by omega
          have HLq : Hid _ := hlq.2
          clear hlq
          obtain ⟨L, hL⟩ : ∃ L, l q = L := ⟨_, rfl⟩
          have HE : Hid (l q = L) := hL
          rw [hL] at hu HH hf l1
          clear hL
          subst hf
          go_wp2
          go_quiet (fail)
          go_wp2
          go_loopw [6] (fun i wr' => ∃ r : Nat, r ≤ L ∧ i = .int .i64 r ∧ (∃ mm, wr' = W.drewN mm) ∧ ∀ j, j < r → (m q j : Int) = b_) (fun i _ => L - (intOf i).toNat)
          case atStart => exact ⟨0, by omega, rfl, ⟨_, by rw [World.drewN_drewN]⟩, fun k hk => absurd hk (by omega)⟩
          case round =>
            obtain ⟨r, hr, rfl, ⟨mm2, hw⟩, hall⟩ := hrel
            rw [hw]
            clear hw
            have HA2 : Hid _ := hall
            clear hall
            by_cases hlt2 : r < L
            · have hlt2' : (r : Int) < L := by omega
              obtain ⟨b2, off2, rfl, _, hx2⟩ := HH.out.at (by omega)
              obtain ⟨a3, c3, hu3⟩ := hx2 r hlt2
              clear hx2
              have mb : (m q r : Int) ≤ 65536 := by have := HLq.out r (by rw [HE.out]; exact hlt2); omega
              by_cases hz : (m q r : Int) = b_
              · have HZz : Hid ((m q r : Int) = b_) := hz
                obtain ⟨Z, hZ⟩ : ∃ Z, m q r = Z := ⟨_, rfl⟩
                rw [hZ] at hu3 hz mb
                clear hZ
                subst hz
                go_wp2
                go_quiet (fail)
                go_wp2
                go_roundw
                case rel =>
                  refine ⟨r + 1, by omega, by go_num, ⟨_, rfl⟩, fun j hj => ?_⟩
                  rcases (by omega : j < r ∨ j = r) with h | rfl
                  · exact HA2.out j h
                  · exact HZz.out
                case measure => simp [intOf]; omega
              · have HZz : Hid (¬ (m q r : Int) = b_) := hz
                have hqr : (q : Int) ≤ 65536 ∧ (r : Int) ≤ 65536 := by omega
                have HI : Hid (r < l q) := by rw [HE.out]; exact hlt2
                obtain ⟨Z, hZ⟩ : ∃ Z, m q r = Z := ⟨_, rfl⟩
                rw [hZ] at hu3 hz mb
                clear hZ
                go_wp2
                go_quiet (fail)
                go_wp2
                go_ret
                refine ⟨false, rfl, by rw [World.drewN_drewN]; exact HB.out _, ?_⟩
                simp
                rintro ⟨_, h⟩
                exact HZz.out ((h q hlt).2 r HI.out)
            · obtain rfl : r = L := by omega
              go_wp2
              go_roundw
              case rel =>
                refine ⟨q + 1, by omega, by go_num, ⟨_, rfl⟩, fun j hj => ?_⟩
                rcases (by omega : j < q ∨ j = q) with h | rfl
                · exact HA.out j h
                · exact ⟨HF.out, fun j' hj' => HA2.out j' (by rw [HE.out] at hj'; exact hj')⟩
              case measure => simp [intOf]; omega
        · have HF : Hid (¬ (l q : Int) = k_) := hf
          have l1 : (l q : Int) ≤ 65536 := by omega
          clear hlq
          obtain ⟨L, hL⟩ : ∃ L, l q = L := ⟨_, rfl⟩
          rw [hL] at hu HH hf l1
          clear hL
          go_wp2
          go_quiet (fail)
          go_wp2
          go_ret
          refine ⟨false, rfl, by rw [World.drewN_drewN]; exact HB.out _, ?_⟩
          simp
          rintro ⟨_, h⟩
          exact HF.out (h q hlt).1
      · obtain rfl : q = n := by omega
        go_wp2
        go_ret
        exact ⟨true, rfl, HB.out _, by simp; exact ⟨rfl, HA.out⟩⟩
  · have HX : Hid (¬ (n : Int) = h_) := hx
    go_enter Tryz.func17, Tryz.ntmps17
    go_wp2
    go_ret
    refine ⟨false, rfl, HB.out 0, ?_⟩
    simp
    intro h
    exact absurd h.1 HX.out

end Sub
end Go.Proofs.YtcaifpjbjghhaaaGreatDoor

