/-
  Two lappers and two unlappers on one bank, side by side. Conditions: as told at each.
-/
import Derived.Test.YtjfhlaahgfdmnaaDoorLapdAlive
namespace Go.Proofs.YtjfhlaahgfdmnaaDoor
set_option linter.unusedVariables false
open Go.RowKit
namespace Lapd
open Bank (Blk But)
open Poly (Reads enc enc_get enc_length enc_rep enc_one fit16 fit32 wf64 wf32 Gat reads_blk reads_own cell_keep below_but below_drewN below_drew alloc_size make16 make32 zeros16 zeros32 same16 same32 reads_new16 reads_new32)

/-- lappers a and c, unlappers u and v, made in that order -/
def Four (n ga gc gu gv : Nat) (oa oc qu qv : List Int) (w wr : World) : Prop :=
  ∃ la lc lu lv, Lap la ga n oa wr ∧ Lap lc gc n oc wr ∧ Unl lu gu n qu wr ∧ Unl lv gv n qv wr ∧ w.heap.size ≤ la ∧ ga + 2 ≤ lc ∧ gc + 2 ≤ lu ∧ gu + 2 ≤ lv ∧ Below w.heap.size w wr
section
variable {n ga gc gu gv : Nat} {oa oc qu qv : List Int} {w wr w' : World}
theorem Four.size (h : Four n ga gc gu gv oa oc qu qv w wr) : ga + 2 ≤ gc ∧ gc + 2 ≤ gu ∧ gu + 2 ≤ gv ∧ gv + 2 ≤ wr.heap.size ∧ w.heap.size ≤ ga ∧ w.heap.size ≤ wr.heap.size := by
  obtain ⟨la, lc, lu, lv, h1, h2, h3, h4, h5, h6, h7, h8, h9⟩ := h
  have a1 := h1.1
  have a2 := h2.1
  have a3 := h3.1
  have a4 := h4.1
  have a5 := h4.2.1
  have a6 := h9.size
  omega
theorem Four.bel (h : Four n ga gc gu gv oa oc qu qv w wr) : Below w.heap.size w wr := by obtain ⟨la, lc, lu, lv, h1, h2, h3, h4, h5, h6, h7, h8, h9⟩ := h; exact h9
theorem Four.below (h : Four n ga gc gu gv oa oc qu qv w wr) (hb : Below wr.heap.size wr w') : Four n ga gc gu gv oa oc qu qv w w' := by
  obtain ⟨la, lc, lu, lv, h1, h2, h3, h4, h5, h6, h7, h8, h9⟩ := h
  exact ⟨la, lc, lu, lv, h1.below hb h1.2.1, h2.below hb h2.2.1, h3.below hb h3.2.1, h4.below hb h4.2.1, h5, h6, h7, h8, h9.trans (hb.mono h9.size)⟩
theorem Four.drewN (h : Four n ga gc gu gv oa oc qu qv w wr) (m : Nat) : Four n ga gc gu gv oa oc qu qv w (wr.drewN m) := by
  obtain ⟨la, lc, lu, lv, h1, h2, h3, h4, h5, h6, h7, h8, h9⟩ := h
  exact ⟨la, lc, lu, lv, h1, h2, h3, h4, h5, h6, h7, h8, below_drewN h9 m⟩
/-- what a call of one of them leaves: g2 what was told -/
def Told (n g2 : Nat) (zs : List Int) (wr w' : World) : Prop := wr.heap.size ≤ g2 ∧ w'.heap.size = g2 + 1 ∧ Reads .i32 g2 (g2 + 1) w' (.slice (some ⟨g2, 0, none⟩) n n) zs
theorem Four.feedA {g : Nat} {x : List Int} {vx : Value} (hn : M.len9 n) (h : Four n ga gc gu gv oa oc qu qv w wr) (hx : Reads .i16 g (g + 1) wr vx x) (hxl : x.length = n) (hg : gv + 2 ≤ g) (hg1 : g + 1 ≤ wr.heap.size) :
    Calls Tryd.prog 17 #[.pointer (some ⟨ga + 1, 0, none⟩), vx] wr fun e w' => ∃ g2, e = .returned (.tuple #[.slice (some ⟨g2, 0, none⟩) n n, .int .i64 0]) ∧ Four n ga gc gu gv x oc qu qv w w' ∧ Told n g2 (M.lp n oa x) wr w' ∧ But ga wr w' := by
  have hs := h.size
  obtain ⟨la, lc, lu, lv, h1, h2, h3, h4, h5, h6, h7, h8, h9⟩ := h
  have a1 := h1.1
  have a2 := h2.1
  have a3 := h3.1
  have a4 := h4.1
  refine (feedL hn h1 hx hxl hg1 (.inl (by omega))).mono ?_
  rintro e w' ⟨g2, rfl, hL, bt, k1, k2, k3⟩
  exact ⟨g2, rfl, ⟨la, lc, lu, lv, hL, h2.but bt (.inl (by omega)), h3.but bt (.inl (by omega)), h4.but bt (.inl (by omega)), h5, h6, h7, h8, below_but h9 bt (Nat.le_refl _) (by omega)⟩, ⟨k1, k2, k3⟩, bt⟩
theorem Four.feedC {g : Nat} {x : List Int} {vx : Value} (hn : M.len9 n) (h : Four n ga gc gu gv oa oc qu qv w wr) (hx : Reads .i16 g (g + 1) wr vx x) (hxl : x.length = n) (hg : gv + 2 ≤ g) (hg1 : g + 1 ≤ wr.heap.size) :
    Calls Tryd.prog 17 #[.pointer (some ⟨gc + 1, 0, none⟩), vx] wr fun e w' => ∃ g2, e = .returned (.tuple #[.slice (some ⟨g2, 0, none⟩) n n, .int .i64 0]) ∧ Four n ga gc gu gv oa x qu qv w w' ∧ Told n g2 (M.lp n oc x) wr w' ∧ But gc wr w' := by
  have hs := h.size
  obtain ⟨la, lc, lu, lv, h1, h2, h3, h4, h5, h6, h7, h8, h9⟩ := h
  have a1 := h1.1
  have a2 := h2.1
  have a3 := h3.1
  have a4 := h4.1
  refine (feedL hn h2 hx hxl hg1 (.inl (by omega))).mono ?_
  rintro e w' ⟨g2, rfl, hL, bt, k1, k2, k3⟩
  exact ⟨g2, rfl, ⟨la, lc, lu, lv, h1.but bt (.inr (by omega)), hL, h3.but bt (.inl (by omega)), h4.but bt (.inl (by omega)), h5, h6, h7, h8, below_but h9 bt (Nat.le_refl _) (by omega)⟩, ⟨k1, k2, k3⟩, bt⟩
theorem Four.feedU {g : Nat} {x : List Int} {vx : Value} (hn : M.len9 n) (h : Four n ga gc gu gv oa oc qu qv w wr) (hx : Reads .i32 g (g + 1) wr vx x) (hxl : x.length = n) (hg : gv + 2 ≤ g) (hg1 : g + 1 ≤ wr.heap.size) :
    Calls Tryd.prog 20 #[.pointer (some ⟨gu + 1, 0, none⟩), vx] wr fun e w' => ∃ g2, e = .returned (.tuple #[.slice (some ⟨g2, 0, none⟩) n n, .int .i64 0]) ∧ Four n ga gc gu gv oa oc (M.ov n x) qv w w' ∧ Told n g2 (M.un n qu x) wr w' ∧ But gu wr w' := by
  have hs := h.size
  obtain ⟨la, lc, lu, lv, h1, h2, h3, h4, h5, h6, h7, h8, h9⟩ := h
  have a1 := h1.1
  have a2 := h2.1
  have a3 := h3.1
  have a4 := h4.1
  refine (Lapd.feedU hn h3 hx hxl hg1 (.inl (by omega))).mono ?_
  rintro e w' ⟨g2, rfl, hL, bt, k1, k2, k3⟩
  exact ⟨g2, rfl, ⟨la, lc, lu, lv, h1.but bt (.inr (by omega)), h2.but bt (.inr (by omega)), hL, h4.but bt (.inl (by omega)), h5, h6, h7, h8, below_but h9 bt (Nat.le_refl _) (by omega)⟩, ⟨k1, k2, k3⟩, bt⟩
theorem Four.feedV {g : Nat} {x : List Int} {vx : Value} (hn : M.len9 n) (h : Four n ga gc gu gv oa oc qu qv w wr) (hx : Reads .i32 g (g + 1) wr vx x) (hxl : x.length = n) (hg : gv + 2 ≤ g) (hg1 : g + 1 ≤ wr.heap.size) :
    Calls Tryd.prog 20 #[.pointer (some ⟨gv + 1, 0, none⟩), vx] wr fun e w' => ∃ g2, e = .returned (.tuple #[.slice (some ⟨g2, 0, none⟩) n n, .int .i64 0]) ∧ Four n ga gc gu gv oa oc qu (M.ov n x) w w' ∧ Told n g2 (M.un n qv x) wr w' ∧ But gv wr w' := by
  have hs := h.size
  obtain ⟨la, lc, lu, lv, h1, h2, h3, h4, h5, h6, h7, h8, h9⟩ := h
  have a1 := h1.1
  have a2 := h2.1
  have a3 := h3.1
  have a4 := h4.1
  refine (Lapd.feedU hn h4 hx hxl hg1 (.inl (by omega))).mono ?_
  rintro e w' ⟨g2, rfl, hL, bt, k1, k2, k3⟩
  exact ⟨g2, rfl, ⟨la, lc, lu, lv, h1.but bt (.inr (by omega)), h2.but bt (.inr (by omega)), h3.but bt (.inr (by omega)), hL, h5, h6, h7, h8, below_but h9 bt (Nat.le_refl _) (by omega)⟩, ⟨k1, k2, k3⟩, bt⟩
end

theorem ins_len (D : List (Nat × Nat)) (k m : Nat) : (Bank.ins D k m).length ≤ D.length + 1 := by unfold Bank.ins; split <;> simp

/-- a new bank, two lappers and two unlappers on it -/
theorem made4 {n : Nat} (hn : M.len9 n) {w wa : World} (hT : Wave.Tab w) (bela : Below w.heap.size w wa) :
    Calls Tryd.prog 9 #[] wa fun e w1 => ∃ bp, e = .returned (.pointer bp) ∧ Calls Tryd.prog 10 #[.pointer bp, .int .i64 n] w1 fun e w2 => ∃ ga, e = .returned (.tuple #[.pointer (some ⟨ga + 1, 0, none⟩), .int .i64 0]) ∧
      Calls Tryd.prog 10 #[.pointer bp, .int .i64 n] w2 fun e w3 => ∃ gc, e = .returned (.tuple #[.pointer (some ⟨gc + 1, 0, none⟩), .int .i64 0]) ∧
        Calls Tryd.prog 11 #[.pointer bp, .int .i64 n] w3 fun e w4 => ∃ gu, e = .returned (.tuple #[.pointer (some ⟨gu + 1, 0, none⟩), .int .i64 0]) ∧
          Calls Tryd.prog 11 #[.pointer bp, .int .i64 n] w4 fun e w5 => ∃ gv, e = .returned (.tuple #[.pointer (some ⟨gv + 1, 0, none⟩), .int .i64 0]) ∧ Four n ga gc gu gv (List.replicate n 0) (List.replicate n 0) (List.replicate n 0) (List.replicate n 0) w w5 := by
  have hlen := lens_of hn
  have sa := bela.size
  have hTa := tab_b bela (Nat.le_refl _) hT
  refine (Bank.new_any wa).mono ?_
  rintro e w1 ⟨rfl, s1, hB1, bel1⟩
  have hT1 := tab_b bel1 (Nat.le_refl _) hTa
  have nT : 0 ≠ wa.heap.size := by
    obtain ⟨_, _, cur, h3, h4, _⟩ := hB1
    exact Bank.tab_ne hT1 h3 (by omega)
  refine ⟨_, rfl, (newLapper_ok n (2 * n) (n / 2) (n / 4) (8 * n) _ _ [] 0 w1 hlen hT1 hB1 (by simp) (by omega) (by omega)).mono ?_⟩
  rintro e w2 ⟨ga, rfl, hA, s2, ⟨X2, hB2⟩, bt2⟩
  have d2 := ins_len (Bank.ins [] 1 (n / 2)) 0 (8 * n)
  have d1 := ins_len [] 1 (n / 2)
  simp only [List.length_nil] at d1
  have hT2 := bt2.tab hT1 nT
  refine ⟨ga, rfl, (newLapper_ok n (2 * n) (n / 2) (n / 4) (8 * n) _ X2 _ (0 + 2) w2 hlen hT2 hB2 (by omega) (by omega) (by omega)).mono ?_⟩
  rintro e w3 ⟨gc, rfl, hC, s3, ⟨X3, hB3⟩, bt3⟩
  have d3 := ins_len (Bank.ins (Bank.ins [] 1 (n / 2)) 0 (8 * n)) 1 (n / 2)
  have d4 := ins_len (Bank.ins (Bank.ins (Bank.ins [] 1 (n / 2)) 0 (8 * n)) 1 (n / 2)) 0 (8 * n)
  have hT3 := bt3.tab hT2 nT
  refine ⟨gc, rfl, (newUnlapper_ok n (2 * n) (n / 2) (n / 4) (8 * n) _ X3 _ (0 + 2 + 2) w3 hlen hT3 hB3 (by omega) (by omega) (by omega)).mono ?_⟩
  rintro e w4 ⟨gu, rfl, hU, s4, ⟨X4, hB4⟩, bt4⟩
  have d5 := ins_len (Bank.ins (Bank.ins (Bank.ins (Bank.ins [] 1 (n / 2)) 0 (8 * n)) 1 (n / 2)) 0 (8 * n)) 1 (n / 2)
  have d6 := ins_len (Bank.ins (Bank.ins (Bank.ins (Bank.ins (Bank.ins [] 1 (n / 2)) 0 (8 * n)) 1 (n / 2)) 0 (8 * n)) 1 (n / 2)) 0 (8 * n)
  have hT4 := bt4.tab hT3 nT
  refine ⟨gu, rfl, (newUnlapper_ok n (2 * n) (n / 2) (n / 4) (8 * n) _ X4 _ (0 + 2 + 2 + 2) w4 hlen hT4 hB4 (by omega) (by omega) (by omega)).mono ?_⟩
  rintro e w5 ⟨gv, rfl, hV, s5, -, bt5⟩
  have z1 := bt2.size
  have z2 := bt3.size
  have z3 := bt4.size
  have z4 := bt5.size
  have bA := below_but bel1 bt2 (Nat.le_refl _) (Nat.le_refl _)
  have bC := below_but bA bt3 (Nat.le_refl _) (Nat.le_refl _)
  have bU := below_but bC bt4 (Nat.le_refl _) (Nat.le_refl _)
  have bV := below_but bU bt5 (Nat.le_refl _) (Nat.le_refl _)
  exact ⟨gv, rfl, w1.heap.size, w2.heap.size, w3.heap.size, w4.heap.size, ((hA.but bt3 (.inl (by omega))).but bt4 (.inl (by omega))).but bt5 (.inl (by omega)), (hC.but bt4 (.inl (by omega))).but bt5 (.inl (by omega)), hU.but bt5 (.inl (by omega)), hV, by omega, by omega, by omega, by omega, bela.trans (bV.mono sa)⟩

/-- one round of the past -/
theorem step1 {n ga gc gu gv p : Nat} {oa oc qu qv l : List Int} {vl : Value} {w wr : World} (hn : M.len9 n) (h : Four n ga gc gu gv oa oc qu qv w wr) (hl : Reads .i16 0 w.heap.size w vl l) (hp : p < l.length) (hl3 : l.length ≤ 300) :
    Calls Tryd.prog 16 #[vl, .int .i64 p, .int .i64 n] wr fun e w1 => ∃ g, e = .returned (.slice (some ⟨g, 0, none⟩) n n) ∧
      Calls Tryd.prog 17 #[.pointer (some ⟨ga + 1, 0, none⟩), .slice (some ⟨g, 0, none⟩) n n] w1 fun e w2 => ∃ g2, e = .returned (.tuple #[.slice (some ⟨g2, 0, none⟩) n n, .int .i64 0]) ∧
        Calls Tryd.prog 20 #[.pointer (some ⟨gu + 1, 0, none⟩), .slice (some ⟨g2, 0, none⟩) n n] w2 fun e w3 => ∃ g3, e = .returned (.tuple #[.slice (some ⟨g3, 0, none⟩) n n, .int .i64 0]) ∧ ∃ oa' qu', Four n ga gc gu gv oa' oc qu' qv w w3 := by
  have hb := len_bd hn
  have hs := h.size
  refine (padded_any n p 0 w.heap.size l vl wr (hl.below h.bel (Nat.le_refl _)) (by omega) hp hl3 (by omega) (by omega)).mono ?_
  rintro e w1 ⟨g, rfl, hg, hs1, hx, bel1⟩
  refine ⟨g, rfl, ((h.below bel1).feedA hn hx (M.pd_length n l p) (by omega) (by omega)).mono ?_⟩
  rintro e w2 ⟨g2, rfl, h2, ⟨t1, t2, t3⟩, bt2⟩
  refine ⟨g2, rfl, (h2.feedU hn t3 (M.lp_length _ _ _) (by omega) (by omega)).mono ?_⟩
  rintro e w3 ⟨g3, rfl, h3, _, _⟩
  exact ⟨g3, rfl, _, _, h3⟩

/-- behind a reset, both are as new -/
theorem resets {n ga gc gu gv : Nat} {oa oc qu qv : List Int} {w wr : World} (hn : M.len9 n) (h : Four n ga gc gu gv oa oc qu qv w wr) :
    Calls Tryd.prog 23 #[.pointer (some ⟨ga + 1, 0, none⟩)] wr fun e w1 => e = .returned (.tuple #[]) ∧ Calls Tryd.prog 24 #[.pointer (some ⟨gu + 1, 0, none⟩)] w1 fun e w2 => e = .returned (.tuple #[]) ∧ Four n ga gc gu gv (List.replicate n 0) oc (List.replicate n 0) qv w w2 := by
  have hb := len_bd hn
  have hs := h.size
  obtain ⟨la, lc, lu, lv, h1, h2, h3, h4, h5, h6, h7, h8, h9⟩ := h
  have a1 := h1.1
  have a2 := h2.1
  have a3 := h3.1
  have a4 := h4.1
  refine (lapReset la ga n oa wr h1 (by omega)).mono ?_
  rintro e w1 ⟨rfl, k1, bt1⟩
  have h3' := h3.but bt1 (.inl (by omega))
  have h2' := h2.but bt1 (.inl (by omega))
  have h4' := h4.but bt1 (.inl (by omega))
  have b1 := below_but h9 bt1 (Nat.le_refl _) (by omega)
  refine ⟨rfl, (unlReset lu gu n qu w1 h3' (by omega)).mono ?_⟩
  rintro e w2 ⟨rfl, k3, bt2⟩
  exact ⟨rfl, la, lc, lu, lv, k1.but bt2 (.inr (by omega)), h2'.but bt2 (.inr (by omega)), k3, h4'.but bt2 (.inl (by omega)), h5, h6, h7, h8, below_but b1 bt2 (Nat.le_refl _) (by omega)⟩

/-- behind a block of nothing but 0, both are as new -/
theorem blanks {n ga gc gu gv : Nat} {oa oc qu qv : List Int} {w wr : World} (hn : M.len9 n) (h : Four n ga gc gu gv oa oc qu qv w wr) :
    Calls Tryd.prog 17 #[.pointer (some ⟨ga + 1, 0, none⟩), .slice (some ⟨wr.heap.size, 0, none⟩) n n] (wr.alloc (.cells (enc .i16 (List.replicate n 0)).toArray 56)) fun e w1 => ∃ g1, e = .returned (.tuple #[.slice (some ⟨g1, 0, none⟩) n n, .int .i64 0]) ∧
      Calls Tryd.prog 20 #[.pointer (some ⟨gu + 1, 0, none⟩), .slice (some ⟨w1.heap.size, 0, none⟩) n n] (w1.alloc (.cells (enc .i32 (List.replicate n 0)).toArray 21)) fun e w2 => ∃ g2, e = .returned (.tuple #[.slice (some ⟨g2, 0, none⟩) n n, .int .i64 0]) ∧ Four n ga gc gu gv (List.replicate n 0) oc (List.replicate n 0) qv w w2 := by
  have hb := len_bd hn
  have hs := h.size
  have b1 : Below wr.heap.size wr (wr.alloc (.cells (enc .i16 (List.replicate n 0)).toArray 56)) := (Below.refl _ _).alloc (Nat.le_refl _) _
  refine ((h.below b1).feedA hn (reads_new16 wr n) (by simp) (by omega) (by rw [alloc_size]; exact Nat.le_refl _)).mono ?_
  rintro e w1 ⟨g1, rfl, h1, ⟨t1, t2, t3⟩, bt1⟩
  have b2 : Below w1.heap.size w1 (w1.alloc (.cells (enc .i32 (List.replicate n 0)).toArray 21)) := (Below.refl _ _).alloc (Nat.le_refl _) _
  rw [alloc_size] at t1
  refine ⟨g1, rfl, ((h1.below b2).feedU hn (reads_new32 w1 n) (by simp) (by omega) (by rw [alloc_size]; exact Nat.le_refl _)).mono ?_⟩
  rintro e w2 ⟨g2, rfl, h2, _, _⟩
  rw [M.ov_zero (by omega)] at h2
  exact ⟨g2, rfl, h2⟩

/-- one round side by side -/
theorem step2 {n ga gc gu gv p : Nat} {o q l : List Int} {vl : Value} {w wr : World} (hn : M.len9 n) (h : Four n ga gc gu gv o o q q w wr) (hl : Reads .i16 0 w.heap.size w vl l) (hp : p < l.length) (hl3 : l.length ≤ 300) :
    Calls Tryd.prog 16 #[vl, .int .i64 p, .int .i64 n] wr fun e w1 => ∃ g1, e = .returned (.slice (some ⟨g1, 0, none⟩) n n) ∧
      Calls Tryd.prog 17 #[.pointer (some ⟨ga + 1, 0, none⟩), .slice (some ⟨g1, 0, none⟩) n n] w1 fun e w2 => ∃ g2, e = .returned (.tuple #[.slice (some ⟨g2, 0, none⟩) n n, .int .i64 0]) ∧
      Calls Tryd.prog 16 #[vl, .int .i64 p, .int .i64 n] w2 fun e w3 => ∃ g3, e = .returned (.slice (some ⟨g3, 0, none⟩) n n) ∧
      Calls Tryd.prog 17 #[.pointer (some ⟨gc + 1, 0, none⟩), .slice (some ⟨g3, 0, none⟩) n n] w3 fun e w4 => ∃ g4, e = .returned (.tuple #[.slice (some ⟨g4, 0, none⟩) n n, .int .i64 0]) ∧
      Calls Tryd.prog 20 #[.pointer (some ⟨gu + 1, 0, none⟩), .slice (some ⟨g2, 0, none⟩) n n] w4 fun e w5 => ∃ g5, e = .returned (.tuple #[.slice (some ⟨g5, 0, none⟩) n n, .int .i64 0]) ∧
      Calls Tryd.prog 20 #[.pointer (some ⟨gv + 1, 0, none⟩), .slice (some ⟨g4, 0, none⟩) n n] w5 fun e w6 => ∃ g6, e = .returned (.tuple #[.slice (some ⟨g6, 0, none⟩) n n, .int .i64 0]) ∧
      Calls Tryd.prog 18 #[.slice (some ⟨g2, 0, none⟩) n n, .slice (some ⟨g4, 0, none⟩) n n] w6 fun e w7 => e = .returned (.bool true) ∧
      Calls Tryd.prog 18 #[.slice (some ⟨g5, 0, none⟩) n n, .slice (some ⟨g6, 0, none⟩) n n] w7 fun e w8 => e = .returned (.bool true) ∧ ∃ o' q', Four n ga gc gu gv o' o' q' q' w w8 := by
  have hb := len_bd hn
  have hs := h.size
  refine (padded_any n p 0 w.heap.size l vl wr (hl.below h.bel (Nat.le_refl _)) (by omega) hp hl3 (by omega) (by omega)).mono ?_
  rintro e w1 ⟨g1, rfl, hg1, hs1, hx1, bel1⟩
  refine ⟨g1, rfl, ((h.below bel1).feedA hn hx1 (M.pd_length n l p) (by omega) (by omega)).mono ?_⟩
  rintro e w2 ⟨g2, rfl, h2, ⟨t1, t2, t3⟩, bt2⟩
  refine ⟨g2, rfl, ?_⟩
  refine (padded_any n p 0 w.heap.size l vl w2 (hl.below h2.bel (Nat.le_refl _)) h2.bel.size hp hl3 (by omega) (by omega)).mono ?_
  rintro e w3 ⟨g3, rfl, hg3, hs3, hx3, bel3⟩
  have r3 := Poly.Reads.below t3 bel3 (by omega)
  refine ⟨g3, rfl, ((h2.below bel3).feedC hn hx3 (M.pd_length n l p) (by omega) (by omega)).mono ?_⟩
  rintro e w4 ⟨g4, rfl, h4, ⟨v1, v2, v3⟩, bt4⟩
  have r4 := Poly.Reads.but r3 bt4 (by omega) (.inl (by omega))
  refine ⟨g4, rfl, (h4.feedU hn r4 (M.lp_length _ _ _) (by omega) (by omega)).mono ?_⟩
  rintro e w5 ⟨g5, rfl, h5, ⟨x1, x2, x3⟩, bt5⟩
  have r5 := Poly.Reads.but r4 bt5 (by omega) (.inl (by omega))
  have y5 := Poly.Reads.but v3 bt5 (by omega) (.inl (by omega))
  refine ⟨g5, rfl, (h5.feedV hn y5 (M.lp_length _ _ _) (by omega) (by omega)).mono ?_⟩
  rintro e w6 ⟨g6, rfl, h6, ⟨z1, z2, z3⟩, bt6⟩
  have r6 := Poly.Reads.but r5 bt6 (by omega) (.inl (by omega))
  have y6 := Poly.Reads.but y5 bt6 (by omega) (.inl (by omega))
  have z6 := Poly.Reads.but x3 bt6 (by omega) (.inl (by omega))
  refine ⟨g6, rfl, (same32 _ _ _ _ _ _ _ _ r6 y6 (by rw [M.lp_length]; omega)).mono ?_⟩
  rintro e w7 ⟨rfl, m, rfl⟩
  refine ⟨rfl, (same32 _ _ _ _ _ _ _ (w6.drewN m) (z6.drewN m) (z3.drewN m) (by rw [M.un_length]; omega)).mono ?_⟩
  rintro e w8 ⟨rfl, m', rfl⟩
  exact ⟨rfl, _, _, (h6.drewN m).drewN m'⟩

end Lapd
end Go.Proofs.YtjfhlaahgfdmnaaDoor
