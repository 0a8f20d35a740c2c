import Derived.Test.YtcaifpjbjghhaaaGreatDoorSubP37
import Derived.Test.YtcaifpjbjghhaaaGreatDoorSubP09
/-
  The taker that puts a frame's numbers into a pad. Conditions: as told at each.
-/
namespace Go.Proofs.YtcaifpjbjghhaaaGreatDoor
set_option linter.unusedVariables false
open Go.RowKit Go.Shelf
namespace M
def bn (v k : Nat) : List Bool := (List.range k).map fun j => v.testBit (k - 1 - j)
theorem bn_length (v k : Nat) : (bn v k).length = k := by simp [bn]
theorem bn_get {v k j : Nat} (h : j < k) : (bn v k).getD j false = v.testBit (k - 1 - j) := by simp [bn, List.getD, h]
theorem getD_app (A B : List Bool) (i : Nat) : (A ++ B).getD i false = if i < A.length then A.getD i false else B.getD (i - A.length) false := by
  simp only [List.getD]
  split
  · rename_i h; rw [List.getElem?_append_left h]
  · rename_i h; rw [List.getElem?_append_right (by omega)]
theorem getD_past (A : List Bool) {i : Nat} (h : A.length ≤ i) : A.getD i false = false := by simp [List.getD, List.getElem?_eq_none h]
theorem pf_list (s : List Bool) (v k : Nat) : pf (fun j => s.getD j false) s.length v k k = fun j => (s ++ bn v k).getD j false := by
  funext j
  rw [pf_at, getD_app]
  by_cases h : s.length ≤ j ∧ j < s.length + k
  · rw [if_pos h, if_neg (by omega), bn_get (by omega)]
  · rw [if_neg h]
    by_cases h2 : j < s.length
    · rw [if_pos h2]
    · rw [if_neg h2, getD_past s (by omega), getD_past (bn v k) (by rw [bn_length]; omega)]
def putS (n : Nat) (s : List Bool) (z : Int) (k : Nat) : List Bool × Int := (if 0 ≤ z ∧ z < 2 ^ k ∧ s.length + k ≤ 8 * n then s ++ bn z.toNat k else s, z)
end M
namespace Sub
open Bank (Blk)
open Poly (cell_keep alloc_size)
open _root_.Go.Proofs.YtcaifpjbjghhaaaGreatDoor.Form (fv fc bel1 blk_below)

structure PadI (A : Ad) (C B N n p b c d pbx N0 Nw : Nat) (Wb : World) (m0 : Nb) (s : List Bool) (m : Nb) (w : World) : Prop where
  one : m = m0
  base : ∀ k, k < Nw → w.heap[k]? = Wb.heap[k]?
  own : Bits.Own 217 w p b c d n (fun j => s.getD j false) s.length 0
  box : Blk w pbx #[.pointer (some ⟨p, 0, none⟩)] 116
  room : s.length ≤ 8 * n
  size : N0 ≤ w.heap.size

structure PadF (A : Ad) (C B N n p b c d pbx N0 Nw : Nat) (Wb : World) (m0 : Nb) : Prop where
  ok : A.ok Nw C B N
  sees : Sees A C B N m0 Wb
  tabs : Alloc.Tabs Wb
  wb : Wb.heap.size ≤ Nw
  le : Nw ≤ N0
  lb : Nw ≤ b ∧ b < N0
  ld : Nw ≤ d ∧ d < N0
  lp : p < N0
  lc : c < N0
  lx : pbx < N0
  n0 : 0 < n
  n1 : n ≤ 512
  j : ∀ b, b < B → 0 ≤ m0.j b ∧ m0.j b < 65536
  s : ∀ c, c < C → ∀ b, b < B → 0 ≤ m0.s c b ∧ m0.s c b < 65536
  q : ∀ i, i < N → ∀ c, c < C → ∀ b, b < B → 0 ≤ m0.q i c b ∧ m0.q i c b < 65536

theorem own_keep {ty : TypeId} {w w' : World} {p b c d n N0 : Nat} {Bt : Nat → Bool} {h t : Nat} (k : Bits.Own ty w p b c d n Bt h t) (hk : ∀ k, k < N0 → w'.heap[k]? = w.heap[k]?) (hp : p < N0) (hb : b < N0) (hc : c < N0) (hd : d < N0) : Bits.Own ty w' p b c d n Bt h t := by
  obtain ⟨h1, h2, sv, h3, a, cap, hs, hD, hn⟩ := k
  refine ⟨(hk p hp).trans h1, (hk c hc).trans h2, sv, (hk b hb).trans h3, a, cap, hs, fun h0 => ?_, hn⟩
  obtain ⟨ha, cur, hcur, hx⟩ := hD h0
  exact ⟨ha, cur, (hk d hd).trans hcur, hx⟩

section
variable {A : Ad} {C B N n p b c d pbx N0 Nw : Nat} {Wb : World} {m0 : Nb}

set_option maxRecDepth 100000 in
theorem put_any (F : PadF A C B N n p b c d pbx N0 Nw Wb m0) (s : List Bool) (m : Nb) (w : World) (h : PadI A C B N n p b c d pbx N0 Nw Wb m0 s m w) (ab ao : Nat) (z : Int) (k : Nat) (hz : w.cell? ⟨ab, ao, none⟩ = some (.int .i64 z)) (hab : ab ≠ b ∧ ab ≠ d ∧ ab < w.heap.size) (z0 : 0 ≤ z ∧ z < 65536) (k16 : k ≤ 16) :
    Calls Tryz.prog 132 #[.pointer (some ⟨ab, ao, none⟩), .int .i64 (k : Int), .pointer (some ⟨pbx, 0, none⟩)] w fun e w' => e = .returned (.tuple #[]) ∧ PadI A C B N n p b c d pbx N0 Nw Wb m0 (M.putS n s z k).1 m w' ∧ Bits.But b d w w' := by
  have hne := h.own.ne (by decide) (by decide)
  have hnd := hne.2.2 F.n0
  have hxb : pbx ≠ b := Bits.Blk.ne h.box h.own.2.2.choose_spec.1 (by decide)
  have hxd : pbx ≠ d := by
    obtain ⟨_, _, sv, h3, a', cap, hs, hD, hn⟩ := h.own
    obtain ⟨_, cur, hcur, _⟩ := hD F.n0
    exact Bits.Blk.ne h.box hcur (by decide)
  obtain ⟨v, hv⟩ : ∃ v : Nat, z = v := ⟨z.toNat, by omega⟩
  subst hv
  have hfr : Calls Tryz.prog 133 #[.pointer (some ⟨p, 0, none⟩), .int .u32 (v : Int), .int .i64 (k : Int)] w.drew fun e w' => (∃ e', e = .returned (.int .i64 e')) ∧ PadI A C B N n p b c d pbx N0 Nw Wb m0 (M.putS n s v k).1 m w' ∧ Bits.But b d w w' := by
    have hox : Bits.Own 217 w.drew p b c d n (fun j => s.getD j false) s.length 0 := h.own.drewN 1
    unfold M.putS
    by_cases hfit : (0 : Int) ≤ v ∧ (v : Int) < 2 ^ k ∧ s.length + k ≤ 8 * n
    · have hv2 : v < 2 ^ k := by have := hfit.2.1; exact_mod_cast this
      have hmay : M.mayv (8 * n) s.length 0 v k = 0 := by
        unfold M.mayv
        rw [if_neg (by simp; omega), if_neg (by omega)]
      refine (Bits.FrontP_ok p b c d n s.length 0 v k _ w.drew hox F.n1 (by omega) (by omega) hmay (by omega) (fun j hj _ => M.getD_past s hj)).mono ?_
      rintro e w' ⟨rfl, hb, ho⟩
      rw [M.pf_list] at ho
      refine ⟨⟨_, rfl⟩, ?_, ⟨hb.os, hb.tape, hb.output, hb.size, hb.block⟩⟩
      rw [if_pos hfit]
      refine ⟨h.one, fun x hx => ?_, ?_, hb.blk (show Bits.Blk w.drew pbx _ _ from h.box) hxb hxd, ?_, Nat.le_trans h.size hb.size⟩
      · exact (hb.block x (by have := h.size; have := F.le; show x < w.heap.size; omega) (by have := F.lb; omega) (by have := F.ld; omega)).trans (h.base x hx)
      · show Bits.Own _ w' p b c d n _ (s ++ M.bn v k).length 0
        rw [List.length_append, M.bn_length]
        exact ho
      · show (s ++ M.bn v k).length ≤ 8 * n
        rw [List.length_append, M.bn_length]; omega
    · have hmay : M.mayv (8 * n) s.length 0 v k ≠ 0 := by
        unfold M.mayv
        by_cases h1 : (k : Int) < 0 ∨ 32 < (k : Int) ∨ 2 ^ (k : Int).toNat ≤ v
        · rw [if_pos h1]; decide
        · rw [if_neg h1]
          simp only [not_or] at h1
          have h2 : v < 2 ^ k := by have := h1.2.2; simp at this; omega
          have h3 : (v : Int) < 2 ^ k := by exact_mod_cast h2
          rw [if_pos (by
            have h4 : ¬ (s.length + k ≤ 8 * n) := fun h5 => hfit ⟨by omega, h3, h5⟩
            omega)]
          decide
      refine (Bits.FrontP_err p b c d n s.length 0 v k _ w.drew hox F.n1 (by have := h.room; omega) (by omega) hmay).mono ?_
      rintro e w' ⟨rfl, x, rfl⟩
      refine ⟨⟨_, rfl⟩, ?_, ⟨rfl, rfl, rfl, Nat.le_refl _, fun _ _ _ _ => rfl⟩⟩
      rw [if_neg hfit]
      exact ⟨h.one, h.base, (h.own.drewN 1).drewN x, h.box, h.room, h.size⟩
  have hxc : w.cell? ⟨pbx, 0, none⟩ = some (.pointer (some ⟨p, 0, none⟩)) := Bank.Blk.cell h.box rfl
  have hw1 : IntKind.u32.wrap (v : Int) = v := by rw [IntKind.wrap_u32']; omega
  have v0 : (0 : Int) ≤ v := by omega
  have v1 : (v : Int) ≤ 65535 := by omega
  have k1 : (k : Int) ≤ 16 := by omega
  have hkeep : ∀ w', Bits.But b d w w' → w'.cell? ⟨pbx, 0, none⟩ = some (.pointer (some ⟨p, 0, none⟩)) ∧ w'.cell? ⟨ab, ao, none⟩ = some (.int .i64 (v : Int)) := fun w' hb =>
    ⟨(cell_keep (hb.block pbx (Bank.Blk.lt h.box) hxb hxd)).trans hxc, (cell_keep (hb.block ab hab.2.2 hab.1 hab.2.1)).trans hz⟩
  have HKp : Hid _ := hkeep
  clear h hne hnd hxb hxd F z0 hkeep hab
  generalize (M.putS n s v k).1 = s' at *
  have HS : Hid (w.drew.cell? ⟨pbx, 0, none⟩ = some (.pointer (some ⟨p, 0, none⟩)) ∧ w.drew.cell? ⟨ab, ao, none⟩ = some (.int .i64 (v : Int))) := ⟨hxc, hz⟩
  go_enter Tryz.func132, Tryz.ntmps132
  go_wp2
  go_region_held3 (fun wx => wx.cell? ⟨pbx, 0, none⟩ = some (.pointer (some ⟨p, 0, none⟩)) ∧ wx.cell? ⟨ab, ao, none⟩ = some (.int .i64 (v : Int)))
    (first | exact HS.out | exact HS2.out)
    (first | (go_at_call 133; refine hfr.mono ?_; clear hfr; rintro e w2 ⟨⟨e', rfl⟩, h1, h2⟩; have H1 : Hid _ := h1; have H2 : Hid (Bits.But b d w w2) := h2; have HS2 : Hid _ := HKp.out w2 h2; clear h1 h2))
  all_goals (
    go_wp2
    go_end0
    exact ⟨rfl, H1.out, H2.out⟩)

theorem bits_abv {N0 b d : Nat} {w w' : World} (h : Bits.But b d w w') (hb : b < N0) (hd : d < N0) : Abv N0 w w' := ⟨h.os, h.tape, h.output, h.size, fun k h0 h1 => h.block k h1 (by omega) (by omega)⟩

theorem tk_put (F : PadF A C B N n p b c d pbx N0 Nw Wb m0) : Tk (List Bool) 132 #[.pointer (some ⟨pbx, 0, none⟩)] A N0 C B N (PadI A C B N n p b c d pbx N0 Nw Wb m0) (M.putS n) where
  ent := enters_of Tryz.func132 (by kernel_rfl) rfl
  tabs := fun s m w h => by
    obtain ⟨⟨t1, f1, h1⟩, t2, f2, h2⟩ := F.tabs
    have l1 := (Array.getElem?_eq_some_iff.1 h1).1
    have l2 := (Array.getElem?_eq_some_iff.1 h2).1
    have hw := F.wb
    exact ⟨⟨t1, f1, (h.base _ (by omega)).trans h1⟩, t2, f2, (h.base _ (by omega)).trans h2⟩
  ok := ⟨⟨Nat.lt_of_lt_of_le F.ok.j.1 F.le, F.ok.j.2⟩, ⟨Nat.lt_of_lt_of_le F.ok.s.1 F.le, F.ok.s.2⟩, ⟨Nat.lt_of_lt_of_le F.ok.c.1 F.le, F.ok.c.2⟩, fun c hc => ⟨Nat.lt_of_lt_of_le (F.ok.r c hc).1 F.le, (F.ok.r c hc).2⟩, fun i hi => ⟨Nat.lt_of_lt_of_le (F.ok.h i hi).1 F.le, (F.ok.h i hi).2⟩, fun i hi c hc => ⟨Nat.lt_of_lt_of_le (F.ok.t i hi c hc).1 F.le, (F.ok.t i hi c hc).2⟩⟩
  sees := fun s m w h => by
    have := h.one
    subst this
    exact F.sees.keep F.ok h.base
  size := fun s m w h => h.size
  keep := fun s m w w' h hk hs => ⟨h.one, fun k hk' => (hk k (Nat.lt_of_lt_of_le hk' F.le)).trans (h.base k hk'), own_keep h.own hk F.lp F.lb.2 F.lc F.ld.2, (hk _ F.lx).trans h.box, h.room, Nat.le_trans h.size hs⟩
  tmp := fun s m w g z k h hg hb hz hk => by
    have hs := h.size
    refine (put_any F s m w h g 0 z k (hb.cell rfl) ⟨by have := F.lb; omega, by have := F.ld; omega, hb.lt⟩ hz hk).mono ?_
    rintro e w' ⟨he, h1, h2⟩
    exact ⟨he, h1, h2.size, h2.os, h2.tape, h2.output, fun x x0 _ x1 => h2.block x x1 (by have := F.lb; omega) (by have := F.ld; omega)⟩
  tj := fun s m w x k h hx hk => by
    have hm := h.one
    subst hm
    have hs := h.size
    have hse := F.sees.keep F.ok h.base
    refine (put_any F s m w h A.bj (A.oj + x) (m.j x) k (hse.j x hx) ⟨by have := F.lb; have := F.ok.j; omega, by have := F.ld; have := F.ok.j; omega, by have := F.ok.j; have := F.le; omega⟩ (F.j x hx) hk).mono ?_
    rintro e w' ⟨he, h1, h2⟩
    refine ⟨he, ?_, bits_abv h2 F.lb.2 F.ld.2⟩
    show PadI A C B N n p b c d pbx N0 Nw Wb m _ (m.setJ x (m.j x)) w'
    rw [setJ_same]; exact h1
  ts := fun s m w y x k h hy hx hk => by
    have hm := h.one
    subst hm
    have hs := h.size
    have hse := F.sees.keep F.ok h.base
    have ho := F.ok.r y hy
    refine (put_any F s m w h (A.rb y) (A.ro y + x) (m.s y x) k (hse.s y hy x hx) ⟨by have := F.lb; omega, by have := F.ld; omega, by have := F.le; omega⟩ (F.s y hy x hx) hk).mono ?_
    rintro e w' ⟨he, h1, h2⟩
    refine ⟨he, ?_, bits_abv h2 F.lb.2 F.ld.2⟩
    show PadI A C B N n p b c d pbx N0 Nw Wb m _ (m.setS y x (m.s y x)) w'
    rw [setS_same]; exact h1
  tq := fun s m w i y x k h hi hy hx hk => by
    have hm := h.one
    subst hm
    have hs := h.size
    have hse := F.sees.keep F.ok h.base
    have ho := F.ok.t i hi y hy
    refine (put_any F s m w h (A.tb i y) (A.to i y + x) (m.q i y x) k (hse.q i hi y hy x hx) ⟨by have := F.lb; omega, by have := F.ld; omega, by have := F.le; omega⟩ (F.q i hi y hy x hx) hk).mono ?_
    rintro e w' ⟨he, h1, h2⟩
    refine ⟨he, ?_, bits_abv h2 F.lb.2 F.ld.2⟩
    show PadI A C B N n p b c d pbx N0 Nw Wb m _ (m.setQ i y x (m.q i y x)) w'
    rw [setQ_same]; exact h1

end

end Sub
end Go.Proofs.YtcaifpjbjghhaaaGreatDoor

/-
  The taker that finds a frame's numbers in an eye. Conditions: as told at each.
-/
namespace Go.Proofs.YtcaifpjbjghhaaaGreatDoor
set_option linter.unusedVariables false
open Go.RowKit Go.Shelf
namespace M
def getS (Bt : Nat → Bool) (n : Nat) (h : Nat) (_ : Int) (k : Nat) : Nat × Int := if h + k ≤ 8 * n then (h + k, (fv Bt h k : Int)) else (h, 0)
end M
namespace Sub
open Bank (Blk)
open Poly (cell_keep alloc_size)
open _root_.Go.Proofs.YtcaifpjbjghhaaaGreatDoor.Form (fv fc bel1 blk_below)

def Rw (a B : Nat) (f : Nat → Int) (w : World) : Prop := ∃ tab : Array Value, Blk w a tab 3 ∧ tab.size = B ∧ ∀ b, b < B → tab[b]? = some (.int .i64 (f b))
theorem Rw.keep {a B : Nat} {f : Nat → Int} {w w' : World} (h : Rw a B f w) (hk : w'.heap[a]? = w.heap[a]?) : Rw a B f w' := by
  obtain ⟨tab, h1, h2⟩ := h; exact ⟨tab, hk.trans h1, h2⟩
theorem Rw.at {a B : Nat} {f : Nat → Int} {w : World} (h : Rw a B f w) {b : Nat} (hb : b < B) : w.cell? ⟨a, b, none⟩ = some (.int .i64 (f b)) ∧ w.frozen? ⟨a, b, none⟩ = false := by
  obtain ⟨tab, h1, h2, h3⟩ := h; exact ⟨h1.cell (h3 b hb), h1.free b⟩
theorem Rw.set {a B : Nat} {f : Nat → Int} {w : World} (h : Rw a B f w) (b : Nat) (x : Int) : Rw a B (up1 f b x) (w.setCell ⟨a, b, none⟩ (.int .i64 x)) := by
  obtain ⟨tab, h1, h2, h3⟩ := h
  refine ⟨_, h1.set b _, by simpa using h2, fun b' hb' => ?_⟩
  rw [Array.getElem?_setIfInBounds]
  unfold up1
  split
  · rename_i e; subst e; rw [if_pos (by omega), if_pos rfl]
  · rename_i e; rw [if_neg (fun h => e h.symm)]; exact h3 b' hb'

def lay (aj az ac B C N : Nat) (pf : Nat → Nat) : Ad :=
  { bj := aj, oj := 0, cj := B, bs := az, os := 0, cs := C, bc := ac, oc := 0, cc := N, rb := fun c => az + 1 + c, ro := fun _ => 0, rc := fun _ => B, hb := pf, ho := fun _ => 0, hc := fun _ => C, tb := fun i c => pf i + 1 + c, to := fun _ _ => 0, tc := fun _ _ => B }

structure Made (aj az ac E B C N : Nat) (pf : Nat → Nat) (m : Nb) (w : World) : Prop where
  j : Rw aj B m.j w
  s : Grd .i64 3 25 az C B m.s w
  q : Cub .i64 3 25 26 ac E N C B pf m.q w
structure Apart (aj az ac E C : Nat) : Prop where
  js : aj < az ∨ az + C < aj
  jq : aj < ac ∨ E ≤ aj
  sq : az + C < ac ∨ E ≤ az
  e : ac < E
section
variable {aj az ac E B C N : Nat} {pf : Nat → Nat} {m : Nb} {w w' : World}
theorem Made.keep {L H : Nat} (h : Made aj az ac E B C N pf m w) (hap : Apart aj az ac E C) (h1 : L ≤ aj ∧ aj < H) (h2 : L ≤ az ∧ az + C < H) (h3 : L ≤ ac ∧ E ≤ H) (hk : ∀ k, L ≤ k → k < H → w'.heap[k]? = w.heap[k]?) : Made aj az ac E B C N pf m w' :=
  ⟨h.j.keep (hk _ h1.1 h1.2), h.s.keep (fun b k0 k1 => hk b (by omega) (by omega)), h.q.keep hap.e (fun b k0 k1 => hk b (by omega) (by omega))⟩
theorem Made.sees (h : Made aj az ac E B C N pf m w) : Sees (lay aj az ac B C N pf) C B N m w where
  hs := fun c hc => by rw [show (lay aj az ac B C N pf).os + c = c from Nat.zero_add c]; exact h.s.at_head hc
  hq := fun i hi => by rw [show (lay aj az ac B C N pf).oc + i = i from Nat.zero_add i]; exact h.q.at_top hi
  hr := fun i hi c hc => by rw [show (lay aj az ac B C N pf).ho i + c = c from Nat.zero_add c]; exact (h.q.grd i hi).at_head hc
  j := fun b hb => by rw [show (lay aj az ac B C N pf).oj + b = b from Nat.zero_add b]; exact (h.j.at hb).1
  s := fun c hc b hb => by rw [show (lay aj az ac B C N pf).ro c + b = b from Nat.zero_add b]; exact (h.s.at hc hb).1
  q := fun i hi c hc b hb => by rw [show (lay aj az ac B C N pf).to i c + b = b from Nat.zero_add b]; exact ((h.q.grd i hi).at hc hb).1
theorem Made.setJ (h : Made aj az ac E B C N pf m w) (hap : Apart aj az ac E C) (b : Nat) (x : Int) : Made aj az ac E B C N pf (m.setJ b x) (w.setCell ⟨aj, b, none⟩ (.int .i64 x)) :=
  ⟨h.j.set b x, h.s.set_ne hap.js _, h.q.set_ne hap.e hap.jq _⟩
theorem Made.setS (h : Made aj az ac E B C N pf m w) (hap : Apart aj az ac E C) {c b : Nat} (hc : c < C) (hb : b < B) (x : Int) : Made aj az ac E B C N pf (m.setS c b x) (w.setCell ⟨az + 1 + c, b, none⟩ (.int .i64 x)) := by
  refine ⟨h.j.keep (Below.heap_setCell _ _ _ _ (by show aj ≠ az + 1 + c; have := hap.js; omega)), h.s.set hc hb ?_ ?_, h.q.set_ne hap.e (by show az + 1 + c < ac ∨ E ≤ az + 1 + c; have := hap.sq; omega) _⟩
  · show x = (if c = c then up1 (m.s c) b x else m.s c) b
    rw [if_pos rfl]; unfold up1; rw [if_pos rfl]
  · intro i' b' _ _ hne
    show (if i' = c then up1 (m.s c) b x else m.s i') b' = m.s i' b'
    split
    · rename_i e; subst e; unfold up1; rw [if_neg (by omega)]
    · rfl
theorem Made.setQ (h : Made aj az ac E B C N pf m w) (hap : Apart aj az ac E C) {i c b : Nat} (hi : i < N) (hc : c < C) (hb : b < B) (x : Int) : Made aj az ac E B C N pf (m.setQ i c b x) (w.setCell ⟨pf i + 1 + c, b, none⟩ (.int .i64 x)) := by
  have hl := h.q.lo i hi
  refine ⟨h.j.keep (Below.heap_setCell _ _ _ _ (by show aj ≠ pf i + 1 + c; have := hap.jq; omega)), h.s.set_ne (by show pf i + 1 + c < az ∨ az + C < pf i + 1 + c; have := hap.sq; omega) _, h.q.set hi hc hb ?_ ?_⟩
  · show x = (if i = i ∧ c = c ∧ b = b then x else m.q i c b)
    rw [if_pos ⟨rfl, rfl, rfl⟩]
  · intro i' c' b' _ _ _ hne
    show (if i' = i ∧ c' = c ∧ b' = b then x else m.q i' c' b') = m.q i' c' b'
    rw [if_neg (by omega)]
end

structure EyeI (aj az ac E B C N : Nat) (pf : Nat → Nat) (Bt : Nat → Bool) (n p b c d x t N0 Nw : Nat) (Wb : World) (h : Nat) (m : Nb) (w : World) : Prop where
  made : Made aj az ac E B C N pf m w
  base : ∀ k, k < Nw ∨ k = t → w.heap[k]? = Wb.heap[k]?
  own : Bits.Own 228 w p b c d n Bt h 0
  box : Blk w x #[.pointer (some ⟨p, 0, none⟩)] 125
  room : h ≤ 8 * n
  size : N0 ≤ w.heap.size
structure EyeF (aj az ac E B C N : Nat) (pf : Nat → Nat) (n p b c d x t N0 Nw : Nat) (Wb : World) : Prop where
  ap : Apart aj az ac E C
  tabs : ∀ w : World, (∀ k, k < Nw → w.heap[k]? = Wb.heap[k]?) → Alloc.Tabs w
  ht : b < aj ∧ aj < t ∧ az + C < t ∧ E ≤ t ∧ t < N0 ∧ t ≠ x
  nj : p < aj ∧ b < aj ∧ c < aj ∧ d < aj
  ns : p < az ∧ b < az ∧ c < az ∧ d < az
  nq : p < ac ∧ b < ac ∧ c < ac ∧ d < ac
  lo : Nw ≤ p ∧ Nw ≤ b ∧ Nw ≤ c ∧ Nw ≤ d
  hj : aj < x
  hs : az + C < x
  hq : E ≤ x
  hx : x < N0
  n1 : n ≤ 512
  pl : ∀ i, i < N → ac < pf i ∧ pf i + C < E

section
variable {aj az ac E B C N : Nat} {pf : Nat → Nat} {Bt : Nat → Bool} {n p b c d x t N0 Nw : Nat} {Wb : World}

set_option maxRecDepth 100000 in
theorem find_any (F : EyeF aj az ac E B C N pf n p b c d x t N0 Nw Wb) (h : Nat) (m : Nb) (w : World) (hI : EyeI aj az ac E B C N pf Bt n p b c d x t N0 Nw Wb h m w) (ab ao : Nat) (z0 : Value) (z : Int) (k : Nat) (hz : w.cell? ⟨ab, ao, none⟩ = some z0) (hf : w.frozen? ⟨ab, ao, none⟩ = false) (hab : ab ≠ b ∧ ab < w.heap.size) (k16 : k ≤ 16) :
    Calls Tryz.prog 137 #[.pointer (some ⟨ab, ao, none⟩), .int .i64 (k : Int), .pointer (some ⟨x, 0, none⟩)] w fun e w' => e = .returned (.tuple #[]) ∧ ∃ w1, Bits.But b b w w1 ∧ Bits.Own 228 w1 p b c d n Bt (M.getS Bt n h z k).1 0 ∧ (M.getS Bt n h z k).1 ≤ 8 * n ∧ w' = w1.setCell ⟨ab, ao, none⟩ (.int .i64 (M.getS Bt n h z k).2) := by
  have hxc : w.cell? ⟨x, 0, none⟩ = some (.pointer (some ⟨p, 0, none⟩)) := Bank.Blk.cell hI.box rfl
  have hlt : M.fv Bt h k < 65536 := Nat.lt_of_lt_of_le (M.fv_lt Bt h k) (Nat.pow_le_pow_right (j := 16) (by decide) k16)
  have hfr : Calls Tryz.prog 138 #[.pointer (some ⟨p, 0, none⟩), .int .i64 (k : Int)] w fun e w' => ∃ (v : Nat) (e' : Int), e = .returned (.tuple #[.int .u32 (v : Int), .int .i64 e']) ∧ (M.getS Bt n h z k).2 = v ∧ v < 65536 ∧ Bits.But b b w w' ∧ Bits.Own 228 w' p b c d n Bt (M.getS Bt n h z k).1 0 ∧ (M.getS Bt n h z k).1 ≤ 8 * n := by
    unfold M.getS
    by_cases hfit : h + k ≤ 8 * n
    · rw [if_pos hfit]
      refine (Bits.FrontE_ok p b c d n h 0 k Bt w hI.own F.n1 (by omega) (by unfold M.may; rw [if_neg (by omega), if_neg (by omega)]) (by omega)).mono ?_
      rintro e w' ⟨rfl, hb, ho⟩
      exact ⟨_, _, rfl, rfl, hlt, hb, ho, hfit⟩
    · rw [if_neg hfit]
      refine (Bits.FrontE_err p b c d n h 0 k Bt w hI.own F.n1 (by have := hI.room; omega) (by unfold M.may; rw [if_neg (by omega), if_pos (by omega)]; decide)).mono ?_
      rintro e w' ⟨rfl, y, rfl⟩
      exact ⟨0, _, rfl, rfl, by omega, ⟨rfl, rfl, rfl, Nat.le_refl _, fun _ _ _ _ => rfl⟩, hI.own.drewN y, hI.room⟩
  have hkeep : ∀ w', Bits.But b b w w' → w'.cell? ⟨ab, ao, none⟩ = some z0 ∧ w'.frozen? ⟨ab, ao, none⟩ = false := fun w' hb => by
    have e := hb.block ab hab.2 hab.1 hab.1
    exact ⟨(cell_keep e).trans hz, by simp [World.frozen?, e] at hf ⊢; exact hf⟩
  have HKp : Hid _ := hkeep
  clear hI hkeep hab F hz hf hlt
  generalize M.getS Bt n h z k = G at *
  obtain ⟨g1, g2⟩ := G
  dsimp only at hfr ⊢
  go_enter Tryz.func137, Tryz.ntmps137
  go_wp2_with (go_at_call 138; refine hfr.mono ?_; clear hfr; rintro e w2 ⟨v, e', rfl, hg, hv, h1, h2, h3⟩; obtain ⟨hz2, hf2⟩ := HKp.out w2 h1; have H1 : Hid (Bits.But b b w w2) := h1; have H2 : Hid _ := h2; have H3 : Hid (g1 ≤ 8 * n) := h3; have HG : Hid (g2 = v) := hg; have hwr : IntKind.i64.wrap (v : Int) = v := (by rw [IntKind.wrap_i64]; omega); clear h1 h2 h3 hg HKp)
  go_end0
  refine ⟨rfl, w2, H1.out, H2.out, H3.out, ?_⟩
  rw [HG.out]

theorem EyeI.after (F : EyeF aj az ac E B C N pf n p b c d x t N0 Nw Wb) {h h' : Nat} {m m' : Nb} {w w1 : World} (hI : EyeI aj az ac E B C N pf Bt n p b c d x t N0 Nw Wb h m w) (hb : Bits.But b b w w1) (ho : Bits.Own 228 w1 p b c d n Bt h' 0) (hr : h' ≤ 8 * n) {a : Addr} {v : Value}
    (ha : aj ≤ a.block ∨ az ≤ a.block ∨ ac ≤ a.block) (hax : a.block ≠ x) (hat : a.block ≠ t) (hm : Made aj az ac E B C N pf m' (w1.setCell a v)) : EyeI aj az ac E B C N pf Bt n p b c d x t N0 Nw Wb h' m' (w1.setCell a v) := by
  have hs := hI.size
  have hF1 := F.nj; have hF2 := F.ns; have hF3 := F.nq; have hF4 := F.lo; have hF5 := F.hj; have hF6 := F.hs; have hF7 := F.hq; have hF8 := F.hx; have hF9 := F.ap.e; have hFt := F.ht
  refine ⟨hm, fun k hk => ?_, ?_, ?_, hr, ?_⟩
  · rw [Below.heap_setCell _ _ _ _ (by omega)]
    exact (hb.block k (by omega) (by omega) (by omega)).trans (hI.base k hk)
  · obtain ⟨h1, h2, sv, h3, a', cap, e1, hD, hn⟩ := ho
    refine ⟨h1.set_ne (by omega) v, h2.set_ne (by omega) v, sv, h3.set_ne (by omega) v, a', cap, e1, fun h0 => ?_, hn⟩
    obtain ⟨e2, cur, hcur, hx'⟩ := hD h0
    exact ⟨e2, cur, hcur.set_ne (by omega) v, hx'⟩
  · exact Bank.Blk.set_ne (show Blk w1 x _ _ from (hb.block x (by omega) (by omega) (by omega)).trans hI.box) (by omega) v
  · have := hb.size
    show N0 ≤ (w1.setCell a v).heap.size
    simp [World.setCell]; omega
theorem made_but (F : EyeF aj az ac E B C N pf n p b c d x t N0 Nw Wb) {h : Nat} {m : Nb} {w w1 : World} (hI : EyeI aj az ac E B C N pf Bt n p b c d x t N0 Nw Wb h m w) (hb : Bits.But b b w w1) : Made aj az ac E B C N pf m w1 := by
  have hs := hI.size
  have hF1 := F.nj; have hF2 := F.ns; have hF3 := F.nq; have hF5 := F.hj; have hF6 := F.hs; have hF7 := F.hq; have hF8 := F.hx; have hF9 := F.ap.e
  exact hI.made.keep F.ap (L := b + 1) (H := x) ⟨by omega, by omega⟩ ⟨by omega, by omega⟩ ⟨by omega, by omega⟩ fun k k0 k1 => hb.block k (by omega) (by omega) (by omega)

theorem set_abv {N0 : Nat} {w w1 : World} {a : Addr} {v : Value} {b : Nat} (hb : Bits.But b b w w1) (h1 : b < N0) (h2 : a.block < N0) : Abv N0 w (w1.setCell a v) :=
  ⟨hb.os, hb.tape, hb.output, by have := hb.size; simpa [World.setCell] using this, fun k k0 k1 => by rw [Below.heap_setCell _ _ _ _ (by omega)]; exact hb.block k k1 (by omega) (by omega)⟩

theorem tk_find (F : EyeF aj az ac E B C N pf n p b c d x t N0 Nw Wb) : Tk Nat 137 #[.pointer (some ⟨x, 0, none⟩)] (lay aj az ac B C N pf) N0 C B N (EyeI aj az ac E B C N pf Bt n p b c d x t N0 Nw Wb) (M.getS Bt n) := by
  have hF1 := F.nj; have hF2 := F.ns; have hF3 := F.nq; have hF4 := F.lo; have hF5 := F.hj; have hF6 := F.hs; have hF7 := F.hq; have hF8 := F.hx; have hF9 := F.ap.e; have hFt := F.ht
  exact {
      ent := enters_of Tryz.func137 (by kernel_rfl) rfl
      tabs := fun s m w h => F.tabs w fun k hk => h.base k (.inl hk)
      ok := ⟨⟨by show aj < N0; omega, Nat.le_refl _⟩, ⟨by show az < N0; omega, Nat.le_refl _⟩, ⟨by show ac < N0; omega, Nat.le_refl _⟩, fun y hy => ⟨by show az + 1 + y < N0; omega, Nat.le_refl _⟩, fun i hi => ⟨by show pf i < N0; have := F.pl i hi; omega, Nat.le_refl _⟩, fun i hi y hy => ⟨by show pf i + 1 + y < N0; have := F.pl i hi; omega, Nat.le_refl _⟩⟩
      sees := fun s m w h => h.made.sees
      size := fun s m w h => h.size
      keep := fun s m w w' h hk hs => ⟨h.made.keep F.ap (L := 0) (H := x) ⟨by omega, by omega⟩ ⟨by omega, by omega⟩ ⟨by omega, by omega⟩ (fun k _ k1 => hk k (by omega)), fun k hk' => (hk k (by omega)).trans (h.base k hk'), own_keep h.own hk (by omega) (by omega) (by omega) (by omega), (hk _ hF8).trans h.box, h.room, Nat.le_trans h.size hs⟩
      tmp := fun s m w g z k h hg hb hz hk => by
        have hs := h.size
        refine (find_any F s m w h g 0 (.int .i64 z) z k (hb.cell rfl) (hb.free 0) ⟨by omega, hb.lt⟩ hk).mono ?_
        rintro e w' ⟨he, w1, h1, h2, h3, rfl⟩
        refine ⟨he, h.after F h1 h2 h3 (.inl (by show aj ≤ g; omega)) (by show g ≠ x; omega) (by show g ≠ t; omega) ((made_but F h h1).keep F.ap (L := 0) (H := x) ⟨by omega, by omega⟩ ⟨by omega, by omega⟩ ⟨by omega, by omega⟩ fun k _ k1 => Below.heap_setCell _ _ _ _ (by show k ≠ g; omega)), by have := h1.size; simpa [World.setCell] using this, h1.os, h1.tape, h1.output, fun y y0 y1 y2 => by rw [Below.heap_setCell _ _ _ _ (by show y ≠ g; omega)]; exact h1.block y y2 (by omega) (by omega)⟩
      tj := fun s m w y k h hy hk => by
        have hs := h.size
        have hc := h.made.j.at hy
        have hz : (lay aj az ac B C N pf).oj + y = y := Nat.zero_add y
        rw [hz]
        refine (find_any F s m w h aj y _ (m.j y) k hc.1 hc.2 ⟨by omega, by omega⟩ hk).mono ?_
        rintro e w' ⟨he, w1, h1, h2, h3, rfl⟩
        exact ⟨he, h.after F h1 h2 h3 (.inl (Nat.le_refl _)) (by show aj ≠ x; omega) (by show aj ≠ t; omega) ((made_but F h h1).setJ F.ap y _), set_abv h1 (by omega) (by show aj < N0; omega)⟩
      ts := fun s m w y z k h hy hx hk => by
        have hs := h.size
        have hc := h.made.s.at hy hx
        have hz : (lay aj az ac B C N pf).ro y + z = z := Nat.zero_add z
        rw [hz]
        refine (find_any F s m w h (az + 1 + y) z _ (m.s y z) k hc.1 hc.2 ⟨by omega, by omega⟩ hk).mono ?_
        rintro e w' ⟨he, w1, h1, h2, h3, rfl⟩
        exact ⟨he, h.after F h1 h2 h3 (.inr (.inl (by show az ≤ az + 1 + y; omega))) (by show az + 1 + y ≠ x; omega) (by show az + 1 + y ≠ t; omega) ((made_but F h h1).setS F.ap hy hx _), set_abv h1 (by omega) (by show az + 1 + y < N0; omega)⟩
      tq := fun s m w i y z k h hi hy hx hk => by
        have hs := h.size
        have hc := (h.made.q.grd i hi).at hy hx
        have hl := h.made.q.lo i hi
        have hz : (lay aj az ac B C N pf).to i y + z = z := Nat.zero_add z
        rw [hz]
        refine (find_any F s m w h (pf i + 1 + y) z _ (m.q i y z) k hc.1 hc.2 ⟨by omega, by omega⟩ hk).mono ?_
        rintro e w' ⟨he, w1, h1, h2, h3, rfl⟩
        exact ⟨he, h.after F h1 h2 h3 (.inr (.inr (by show ac ≤ pf i + 1 + y; omega))) (by show pf i + 1 + y ≠ x; omega) (by show pf i + 1 + y ≠ t; omega) ((made_but F h h1).setQ F.ap hi hy hx _), set_abv h1 (by omega) (by show pf i + 1 + y < N0; omega)⟩ }

end

end Sub
end Go.Proofs.YtcaifpjbjghhaaaGreatDoor

/-
  A frame as a list of bits: what a pad holds when all numbers were put. Plain facts, no walk. Conditions: as told at each.
-/
namespace Go.Proofs.YtcaifpjbjghhaaaGreatDoor
set_option linter.unusedVariables false
open Go.RowKit
namespace M
open _root_.Go.Proofs.YtcaifpjbjghhaaaGreatDoor.Sub (Nb Plc plist hz hk rowT hdrT jnT sclT scT codT allT up1 Sb Sh)

theorem putS_ok {n k : Nat} {s : List Bool} {z : Int} (h0 : 0 ≤ z) (h1 : z < 2 ^ k) (h2 : s.length + k ≤ 8 * n) : putS n s z k = (s ++ bn z.toNat k, z) := by
  unfold putS; rw [if_pos ⟨h0, h1, h2⟩]
def fmR (k : Nat) (g : Nat → Int) (n : Nat) : List Bool := (List.range n).flatMap fun b => bn (g b).toNat k
theorem fmR_succ (k : Nat) (g : Nat → Int) (n : Nat) : fmR k g (n + 1) = fmR k g n ++ bn (g n).toNat k := by simp [fmR, List.range_succ]
theorem fmR_length (k : Nat) (g : Nat → Int) : ∀ n, (fmR k g n).length = k * n
  | 0 => rfl
  | n + 1 => by rw [fmR_succ, List.length_append, fmR_length k g n, bn_length, Nat.mul_succ]
theorem rowT_put {n k : Nat} {g : Nat → Int} {s : List Bool} : ∀ {q : Nat}, (∀ b, b < q → 0 ≤ g b ∧ g b < 2 ^ k) → s.length + k * q ≤ 8 * n → rowT (putS n) k s g q = (s ++ fmR k g q, g)
  | 0, _, _ => by show (s, g) = (s ++ [], g); rw [List.append_nil]
  | q + 1, h, hl => by
    have ih := rowT_put (n := n) (s := s) (q := q) (fun b hb => h b (by omega)) (by rw [Nat.mul_succ] at hl; omega)
    have hq := h q (by omega)
    unfold rowT
    rw [ih]
    dsimp only
    rw [putS_ok hq.1 hq.2 (by rw [List.length_append, fmR_length]; rw [Nat.mul_succ] at hl; omega), Sub.up1_same, fmR_succ, List.append_assoc]
def fmH (f : Fmt) (q : Nat) : List Bool := (List.range q).flatMap fun i => bn (hz f i).toNat (hk i)
theorem fmH_succ (f : Fmt) (q : Nat) : fmH f (q + 1) = fmH f q ++ bn (hz f q).toNat (hk q) := by simp [fmH, List.range_succ]
theorem fmH_length (f : Fmt) : (fmH f 8).length = 32 := by
  rw [fmH_succ, fmH_succ, fmH_succ, fmH_succ, fmH_succ, fmH_succ, fmH_succ, fmH_succ]
  simp [bn_length, hk, fmH]
theorem hdrT_put {n : Nat} {f : Fmt} (h : ∀ q, q < 8 → 0 ≤ hz f q ∧ hz f q < 2 ^ hk q) : ∀ {q : Nat}, q ≤ 8 → (fmH f q).length ≤ 8 * n → hdrT (putS n) f [] q = fmH f q
  | 0, _, _ => rfl
  | q + 1, hq, hl => by
    rw [fmH_succ, List.length_append, bn_length] at hl
    have ih := hdrT_put (n := n) h (q := q) (by omega) (by omega)
    have hh := h q (by omega)
    unfold hdrT
    rw [ih, putS_ok hh.1 hh.2 (by omega), fmH_succ]
def fmJ (f : Fmt) (B : Nat) (m : Nb) : List Bool := if f.j = 1 then fmR 1 m.j B else []
def fmS (B : Nat) (m : Nb) (C : Nat) : List Bool := (List.range C).flatMap fun c => fmR 4 (m.s c) B
theorem fmS_succ (B : Nat) (m : Nb) (C : Nat) : fmS B m (C + 1) = fmS B m C ++ fmR 4 (m.s C) B := by simp [fmS, List.range_succ]
theorem fmS_length (B : Nat) (m : Nb) : ∀ C, (fmS B m C).length = 4 * B * C
  | 0 => rfl
  | C + 1 => by rw [fmS_succ, List.length_append, fmS_length B m C, fmR_length, Nat.mul_succ]
theorem sclT_put {n B : Nat} {s : List Bool} {m : Nb} : ∀ {C : Nat}, (∀ c, c < C → ∀ b, b < B → 0 ≤ m.s c b ∧ m.s c b < 2 ^ 4) → s.length + 4 * B * C ≤ 8 * n → sclT (putS n) B s m C = (s ++ fmS B m C, m)
  | 0, _, _ => by show (s, m) = (s ++ [], m); rw [List.append_nil]
  | C + 1, h, hl => by
    have ih := sclT_put (n := n) (s := s) (m := m) (C := C) (fun c hc => h c (by omega)) (by rw [Nat.mul_succ] at hl; omega)
    have e := rowT_put (n := n) (k := 4) (g := m.s C) (s := s ++ fmS B m C) (q := B) (h C (by omega)) (by rw [List.length_append, fmS_length]; rw [Nat.mul_succ] at hl; omega)
    unfold sclT
    rw [ih]
    dsimp only
    rw [e, fmS_succ, List.append_assoc]
    have : ({ m with s := fun c' => if c' = C then m.s C else m.s c' } : Nb) = m := by
      obtain ⟨a, b, c⟩ := m
      congr
      funext c'
      split
      · rename_i e; rw [e]
      · rfl
    rw [this]
def fmQ {N C B : Nat} (wd : Nat → Nat → Nat) (m : Nb) (xs : List (Plc N C B)) : List Bool := xs.flatMap fun x => bn (m.q x.1 x.2.1 x.2.2).toNat (wd x.2.1 x.2.2)
def cost {N C B : Nat} (wd : Nat → Nat → Nat) (xs : List (Plc N C B)) : Nat := (xs.map fun x => wd x.2.1 x.2.2).sum
theorem fmQ_length {N C B : Nat} (wd : Nat → Nat → Nat) (m : Nb) : ∀ xs : List (Plc N C B), (fmQ wd m xs).length = cost wd xs
  | [] => rfl
  | x :: xs => by
    have := fmQ_length wd m xs
    unfold fmQ cost at this ⊢
    rw [List.flatMap_cons, List.length_append, bn_length, List.map_cons, List.sum_cons, this]
theorem codT_put {n N C B : Nat} {wd : Nat → Nat → Nat} {m : Nb} : ∀ {xs : List (Plc N C B)} {s : List Bool}, (∀ x ∈ xs, 0 ≤ m.q x.1 x.2.1 x.2.2 ∧ m.q x.1 x.2.1 x.2.2 < 2 ^ wd x.2.1 x.2.2) → s.length + cost wd xs ≤ 8 * n → codT (putS n) wd (s, m) xs = (s ++ fmQ wd m xs, m)
  | [], s, _, _ => by show (s, m) = (s ++ [], m); rw [List.append_nil]
  | x :: xs, s, h, hl => by
    have hx := h x (by simp)
    unfold cost at hl
    rw [List.map_cons, List.sum_cons] at hl
    have ih := codT_put (n := n) (wd := wd) (m := m) (xs := xs) (s := s ++ bn (m.q x.1 x.2.1 x.2.2).toNat (wd x.2.1 x.2.2)) (fun y hy => h y (by simp [hy])) (by rw [List.length_append, bn_length]; unfold cost; omega)
    unfold codT at ih ⊢
    rw [List.foldl_cons]
    dsimp only
    rw [putS_ok hx.1 hx.2 (by omega), Sub.setQ_same]
    dsimp only
    rw [ih]
    simp [fmQ, List.append_assoc]

def sumW (g : Nat → Nat) : Nat → Nat
  | 0 => 0
  | n + 1 => sumW g n + g n
theorem cost_app {N C B : Nat} (wd : Nat → Nat → Nat) (xs ys : List (Plc N C B)) : cost wd (xs ++ ys) = cost wd xs + cost wd ys := by simp [cost]
theorem cost_lb {N C B : Nat} (wd : Nat → Nat → Nat) (i : Fin N) (c : Fin C) : ∀ {b : Nat}, b ≤ B → cost wd (Sub.lb i c b : List (Plc N C B)) = sumW (wd c) b
  | 0, _ => rfl
  | b + 1, h => by rw [Sub.lb_succ i c (by omega), cost_app, cost_lb wd i c (by omega)]; simp [cost, sumW]
theorem cost_lc {N C B : Nat} (wd : Nat → Nat → Nat) (i : Fin N) : ∀ {c : Nat}, c ≤ C → cost wd (Sub.lc i c : List (Plc N C B)) = sumW (fun c => sumW (wd c) B) c
  | 0, _ => rfl
  | c + 1, h => by rw [Sub.lc_succ i (by omega), cost_app, cost_lc wd i (by omega), cost_lb wd i _ (Nat.le_refl _)]; rfl
theorem cost_ln {N C B : Nat} (wd : Nat → Nat → Nat) : ∀ {n : Nat}, n ≤ N → cost wd (Sub.ln n : List (Plc N C B)) = n * sumW (fun c => sumW (wd c) B) C
  | 0, _ => by rw [Nat.zero_mul]; rfl
  | n + 1, h => by rw [Sub.ln_succ (by omega), cost_app, cost_ln wd (by omega), cost_lc wd _ (Nat.le_refl _), Nat.succ_mul]

def wdN (f : Fmt) (C B r : Nat) (Z : Nat → Nat → Int) (sl : Int) (c b : Nat) : Nat := (wid f C B r Z sl c b).toNat
theorem wdN_sum {f : Fmt} {C B N r : Nat} {Z : Nat → Nat → Int} {sl : Int} (hF : Sb f C B N r) (hS : Sh f C B r Z sl) : (sumW (fun c => sumW (wdN f C B r Z sl c) B) C : Nat) ≤ f.p.toNat := by
  have h := shr_sum hS.lst
  have hb : ∀ j, 0 ≤ shr (nd f.m C B r (Sub.zl C B Z)) (B * C) f.p sl j := fun j => (shr_bd _ _ _ _ j).1
  unfold wdN wid
  generalize shr (nd f.m C B r (Sub.zl C B Z)) (B * C) f.p sl = g at *
  clear hS
  obtain ⟨G, rfl⟩ : ∃ G : Nat → Nat, g = fun j => (G j : Int) := ⟨fun j => (g j).toNat, by funext j; have := hb j; dsimp only; omega⟩
  clear hb
  rcases hF.c2 with rfl | rfl <;> rcases hF.b8 with rfl | rfl
  all_goals (
    simp [sumW, sumN] at h ⊢
    omega)

def frm (f : Fmt) (C B N r : Nat) (sl : Int) (m : Nb) : List Bool := fmH f 8 ++ fmJ f B m ++ fmS B m C ++ fmQ (wdN f C B r m.s sl) m (plist N C B)
structure okN (f : Fmt) (C B N r : Nat) (sl : Int) (m : Nb) : Prop where
  j : ∀ b, b < B → 0 ≤ m.j b ∧ m.j b ≤ f.j
  s : ∀ c, c < C → ∀ b, b < B → 0 ≤ m.s c b ∧ m.s c b ≤ 15
  q : ∀ i, i < N → ∀ c, c < C → ∀ b, b < B → 0 ≤ m.q i c b ∧ m.q i c b < 2 ^ wdN f C B r m.s sl c b
theorem hz_bd {f : Fmt} {C B N r : Nat} (hF : Sb f C B N r) : ∀ q, q < 8 → 0 ≤ hz f q ∧ hz f q < 2 ^ hk q := by
  have h1 := hF.ok.2.1; have h2 := hF.ok.2.2.1; have h3 := hF.ok.2.2.2.1; have h4 := hF.ok.2.2.2.2.1; have h5 := hF.method; have h6 := hF.joint; have h7 := hF.ok.2.2.2.2.2.2.2
  have hC := hF.hC
  intro q hq
  match q, hq with
  | 0, _ => show (0 : Int) ≤ 156 ∧ (156 : Int) < 256; omega
  | 1, _ => show 0 ≤ f.r ∧ f.r < 4; omega
  | 2, _ => show 0 ≤ f.k / 4 - 1 ∧ f.k / 4 - 1 < 4; omega
  | 3, _ => show 0 ≤ 2 * (f.h - 1) + f.j ∧ 2 * (f.h - 1) + f.j < 4; omega
  | 4, _ => show 0 ≤ f.m ∧ f.m < 2; omega
  | 5, _ => show 0 ≤ f.b / 8 ∧ f.b / 8 < 2; omega
  | 6, _ => show 0 ≤ f.p ∧ f.p < 256; omega
  | 7, _ => show (0 : Int) ≤ 0 ∧ (0 : Int) < 256; omega
theorem fmJ_length (f : Fmt) (B : Nat) (m : Nb) : (fmJ f B m).length = if f.j = 1 then B else 0 := by
  unfold fmJ
  split
  · rw [fmR_length, Nat.one_mul]
  · rfl
theorem frm_room {f : Fmt} {C B N r : Nat} {sl : Int} {m : Nb} (hF : Sb f C B N r) (hS : Sh f C B r m.s sl) : ((32 + (fmJ f B m).length + 4 * B * C + cost (wdN f C B r m.s sl) (plist N C B) : Nat) : Int) ≤ bitS f := by
  have hw := wdN_sum hF hS
  have e := cost_ln (N := N) (C := C) (B := B) (wdN f C B r m.s sl) (Nat.le_refl N)
  have hp := hF.ok.2.2.2.2.2.2.2
  have hJ := fmJ_length f B m
  have h1 := hF.hB; have h2 := hF.hC; have h3 := hF.hN
  rw [show (plist N C B) = Sub.ln N from rfl, e, hJ]
  generalize sumW (fun c => sumW (wdN f C B r m.s sl c) B) C = S at *
  have hm : (N * S : Nat) ≤ N * f.p.toNat := Nat.mul_le_mul_left _ hw
  have hm2 : ((N * f.p.toNat : Nat) : Int) = f.k * f.p := by rw [h3]; push_cast; rw [Int.toNat_of_nonneg (by omega)]
  have hj2 : ((if f.j = 1 then B else 0 : Nat) : Int) = if f.j = 1 then f.b else 0 := by split <;> simp [h1]
  unfold bitS
  have hbc : ((4 * B * C : Nat) : Int) = 4 * f.b * f.h := by rw [h1, h2]; push_cast; rfl
  omega
theorem all_put {n : Nat} {f : Fmt} {C B N r : Nat} {sl : Int} {m : Nb} (hF : Sb f C B N r) (hS : Sh f C B r m.s sl) (h : okN f C B N r sl m) (hn : bitS f ≤ 8 * n) :
    scT (putS n) f C B [] m = (fmH f 8 ++ fmJ f B m ++ fmS B m C, m) ∧ allT (putS n) f C B N r sl [] m = (frm f C B N r sl m, m) := by
  have room := frm_room hF hS
  have e1 := hdrT_put (n := n) (hz_bd hF) (q := 8) (Nat.le_refl _) (by rw [fmH_length]; omega)
  have e2 : jnT (putS n) f B [] m = (fmH f 8 ++ fmJ f B m, m) := by
    unfold jnT
    have hl := fmJ_length f B m
    by_cases hj : f.j = 1
    · rw [if_pos hj] at hl ⊢
      rw [e1, rowT_put (fun b hb => by have := h.j b hb; rw [hj] at this; exact ⟨this.1, by show m.j b < 2; omega⟩) (by rw [fmH_length]; omega)]
      unfold fmJ
      rw [if_pos hj]
    · rw [if_neg hj]
      unfold fmJ
      rw [if_neg hj, e1, List.append_nil]
  have e3 : scT (putS n) f C B [] m = (fmH f 8 ++ fmJ f B m ++ fmS B m C, m) := by
    unfold scT
    rw [e2, sclT_put (fun c hc b hb => by have := h.s c hc b hb; exact ⟨this.1, by show m.s c b < 16; omega⟩) (by simp only [List.length_append]; rw [fmH_length]; omega)]
  refine ⟨e3, ?_⟩
  unfold allT
  rw [e3]
  exact codT_put (fun x hx => h.q _ x.1.isLt _ x.2.1.isLt _ x.2.2.isLt) (by simp only [List.length_append]; rw [fmH_length, fmS_length]; unfold wdN at room; omega)
end M
end Go.Proofs.YtcaifpjbjghhaaaGreatDoor

