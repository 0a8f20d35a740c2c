/-
  The walk of the law of the eye: any calls to an eye on any bytes tell what the document's pad tells. Conditions: the bytes and the calls stand in memory.
-/
import Derived.Test.YtafjepneekomiaaBitsOf
namespace Go.Proofs.Ytafjepneekomiaa
set_option linter.unusedVariables false
open Go.RowKit
namespace Bits

theorem bitsL_byte {xs : List Nat} (h : ∀ x ∈ xs, x < 256) {i : Nat} (hi : i < xs.length) : xs.getD i 0 = M.byteOf (bitsL xs) i := by
  have hx : xs.getD i 0 < 256 := by
    rw [List.getD, List.getElem?_eq_getElem hi]
    exact h _ (List.getElem_mem hi)
  exact (M.byteOf_bitsOf (fun i => xs.getD i 0) i hx).symm

set_option maxRecDepth 100000 in
set_option maxHeartbeats 1200000 in
theorem read_lo (v0 : Value) (xs : List Nat) (v : Value) (zs : List Act) (p : Int) (w : World) (hB : Given w v0 xs) (hA : Acts w v zs) (hn : xs.length ≤ 512) (hlen : zs.length ≤ 100) (hp : p < 0) :
    Calls Try.prog 4 #[v0, v, .int .i64 p] w fun e w' => e = .returned (.bool true) ∧ Below w.heap.size w w' := by
  have hA0 := hA
  have hG0 := hB
  obtain ⟨a, cp, rfl, hvs, _⟩ := hA
  obtain ⟨a0, cp0, rfl, hxs, _⟩ := hB
  have l1 : ¬ (100 : Int) < (zs.length : Int) := by omega
  have l2 : ¬ (2000 : Int) < (xs.length : Int) := by omega
  have l3 : ¬ (512 : Int) < (xs.length : Int) := by omega
  have p0 : ¬ 0 ≤ p := by omega
  have hwant : (if 0 ≤ p ∧ p < 8 * xs.length then ((bitsL xs p.toNat).toNat : Int) else 0) = 0 := if_neg (by omega)
  go_enter Try.func4, Try.ntmps4
  go_wp2_with (first
    | (go_at_call 7; refine (alive_any _).mono ?_; rintro e wa ⟨rfl, bela⟩)
    | (go_at_call 17; refine (Open_ok _ xs (bitsL xs) _ (hG0.below bela (Nat.le_refl _)).src hn (fun i hi => bitsL_byte hxs hi)).mono ?_; rintro e w1 ⟨q, qb, qc, qd, rfl, lq, lqb, lqc, lqd, uq, uqb, uqc, uqd, bel1, ho⟩)
    | (go_at_call 18; refine (Of_any _ xs _ ((hG0.below bela (Nat.le_refl _)).below bel1 (Nat.le_refl _)) hn).mono ?_; rintro e w2 ⟨rfl, hpart⟩
       obtain ⟨rd, lr, lrd, ur, urd, bel2, hr⟩ := hpart.made
       obtain ⟨r, hrr⟩ : ∃ r, r = w1.heap.size := ⟨_, rfl⟩
       rw [← hrr] at hr ur ⊢
       have lr' : w1.heap.size ≤ r := by omega
       clear hrr lr hpart))
  have sa := bela.size
  have s1 := bel1.size
  have s2 := bel2.size
  have belw : Below w.heap.size w w2 := (bela.trans (Below.less bel1 sa)).trans (Below.less bel2 (by omega))
  have ho2 := ho.below bel2 uq uqb uqc uqd
  clear hG0
  go_loopw [11] (fun i wr => ∃ (j : Nat) (h t : Nat), j ≤ zs.length ∧ i = .int .i64 j ∧ Below w.heap.size w wr ∧ Own 67 wr q qb qc qd xs.length (bitsL xs) h t ∧ h + t ≤ 8 * xs.length ∧ Ref wr r rd xs.length (bitsL xs) h t ∧ w2.heap.size ≤ wr.heap.size) (fun i _ => zs.length - (intOf i).toNat)
  case atStart => exact ⟨0, 0, 0, by omega, rfl, belw, ho2, by omega, hr, Nat.le_refl _⟩
  case round =>
    obtain ⟨j, h, t, hj, rfl, belr, hO, hg, hR, hNr⟩ := hrel
    by_cases hlt : j < zs.length
    · obtain ⟨⟨bk, x, k⟩, hz⟩ : ∃ z, zs[j]? = some z := ⟨_, List.getElem?_eq_getElem hlt⟩
      obtain ⟨a', c', he', _, hnil | ⟨b0, off, rfl, hb0, hcells⟩⟩ := hA0
      · rw [hnil] at hlt; simp at hlt
      cases he'
      obtain ⟨k0, k1, k2⟩ := hcells j bk x k hz
      have r0 : wr.cell? ⟨b0, off + j * 3, none⟩ = some (.bool bk) := (belr.cell hb0).trans k0
      have r1 : wr.cell? ⟨b0, off + j * 3 + 1, none⟩ = some (.int .u32 x) := (belr.cell hb0).trans k1
      have r2 : wr.cell? ⟨b0, off + j * 3 + 2, none⟩ = some (.int .i64 k) := (belr.cell hb0).trans k2
      clear k0 k1 k2 hcells
      have i1 : (0 : Int) ≤ (j : Int) := by omega
      have i2 : (j : Int) < (zs.length : Int) := by omega
      have sr := belr.size
      cases bk with
      | false =>
        have bel3 : Below wr.heap.size wr (wr.alloc (.cells #[.bool false, .int .u32 x, .int .i64 k] 33)) := (Below.refl _ _).alloc (Nat.le_refl _) _
        have hblk : Blk (wr.alloc (.cells #[.bool false, .int .u32 x, .int .i64 k] 33)) wr.heap.size #[.bool false, .int .u32 x, .int .i64 k] 33 := Blk.new _ _ _
        have hF := FrontE_any q qb qc qd xs.length h t k (bitsL xs) _ (hO.below bel3 (by omega) (by omega) (by omega) (by omega)) hn hg
        have hR3 := hR.below bel3 (by omega) (by omega)
        have hg2 := eyes_le (f := true) hg k
        obtain ⟨er, her⟩ : ∃ e, e = M.may (8 * xs.length) h t k := ⟨_, rfl⟩
        obtain ⟨val, hval⟩ : ∃ e, e = M.ev true (8 * xs.length) (bitsL xs) h t k := ⟨_, rfl⟩
        obtain ⟨h2, hh2⟩ : ∃ e, e = M.eh true (8 * xs.length) h t k := ⟨_, rfl⟩
        obtain ⟨t2, ht2⟩ : ∃ e, e = M.et true (8 * xs.length) h t k := ⟨_, rfl⟩
        rw [← her, ← hval, ← hh2, ← ht2] at hF
        rw [← hh2, ← ht2] at hg2
        have hP := fun (w4 : World) (q : Ref w4 r rd xs.length (bitsL xs) h t) => Get_any r rd xs.length h t k true (bitsL xs) w4 q hn hg
        rw [← her, ← hval, ← hh2, ← ht2] at hP
        clear her hval hh2 ht2
        have s3 : (wr.alloc (.cells #[.bool false, .int .u32 x, .int .i64 k] 33)).heap.size = wr.heap.size + 1 := World.size_alloc _ _
        go_wp2_with (first
          | (go_at_call 20; refine hF.mono ?_; rintro e w4 ⟨rfl, bt4, ho4⟩
             have s4 := bt4.size; rw [s3] at s4
             have hblk4 := bt4.blk hblk (by omega) (by omega)
             have hR4 := hR3.but bt4 (by omega) (by omega) (by omega) (by omega)
             have kc0 : w4.cell? ⟨wr.heap.size, 0, none⟩ = some (.bool false) := hblk4.cell rfl
             have kc2 : w4.cell? ⟨wr.heap.size, 2, none⟩ = some (.int .i64 k) := hblk4.cell rfl)
          | (go_at_call 21; refine (hP _ (by exact hR4)).mono ?_; rintro e w5 ⟨rfl, bt5, hR5⟩
             have s5 : w4.heap.size ≤ w5.heap.size := bt5.size
             have ho5 := ho4.but bt5 (by omega) (by omega)
             have belz : Below w.heap.size w w5 := ((belr.trans (Below.less bel3 sr)).trans (bt4.below (by omega) (by omega) (by rw [s3]; omega))).trans (bt5.below (by omega) (by omega) (by omega))
             have m1 : w5.cell? ⟨r, 1, none⟩ = some (.int .i64 h2) := by obtain ⟨s, q, _⟩ := hR5; exact q.cell rfl
             have m2 : w5.cell? ⟨r, 2, none⟩ = some (.int .i64 t2) := by obtain ⟨s, q, _⟩ := hR5; exact q.cell rfl)
          | (go_at_call 22; refine (UsedE q qb qc qd xs.length h2 t2 (bitsL xs) _ (by exact ho5)).mono ?_; rintro e w' ⟨rfl, n1, rfl⟩)
          | (go_at_call 23; refine (LeftE q qb qc qd xs.length h2 t2 (bitsL xs) _ (by exact ho5) hn hg2).mono ?_; rintro e w' ⟨rfl, n2, rfl⟩)
          | (go_at_call 14; refine (RLeft r rd xs.length h2 t2 (bitsL xs) _ (by exact hR5) hn hg2).mono ?_; rintro e w' ⟨rfl, n3, rfl⟩)
          | (go_at_call 24; refine (BitE q qb qc qd xs.length h2 t2 p (bitsL xs) _ (by exact ho5) hn).mono ?_; rw [hwant]; rintro e w' ⟨rfl, n4, rfl⟩))
        go_roundw
        case rel => exact ⟨j + 1, h2, t2, by omega, by go_num, Below.drewN' belz _, ho5.drewN _, hg2, hR5.drewN _, by show w2.heap.size ≤ w5.heap.size; omega⟩
        case measure => simp [intOf]; omega
      | true =>
        have bel3 : Below wr.heap.size wr (wr.alloc (.cells #[.bool true, .int .u32 x, .int .i64 k] 33)) := (Below.refl _ _).alloc (Nat.le_refl _) _
        have hblk : Blk (wr.alloc (.cells #[.bool true, .int .u32 x, .int .i64 k] 33)) wr.heap.size #[.bool true, .int .u32 x, .int .i64 k] 33 := Blk.new _ _ _
        have hF := BackE_any q qb qc qd xs.length h t k (bitsL xs) _ (hO.below bel3 (by omega) (by omega) (by omega) (by omega)) hn hg
        have hR3 := hR.below bel3 (by omega) (by omega)
        have hg2 := eyes_le (f := false) hg k
        obtain ⟨er, her⟩ : ∃ e, e = M.may (8 * xs.length) h t k := ⟨_, rfl⟩
        obtain ⟨val, hval⟩ : ∃ e, e = M.ev false (8 * xs.length) (bitsL xs) h t k := ⟨_, rfl⟩
        obtain ⟨h2, hh2⟩ : ∃ e, e = M.eh false (8 * xs.length) h t k := ⟨_, rfl⟩
        obtain ⟨t2, ht2⟩ : ∃ e, e = M.et false (8 * xs.length) h t k := ⟨_, rfl⟩
        rw [← her, ← hval, ← hh2, ← ht2] at hF
        rw [← hh2, ← ht2] at hg2
        have hP := fun (w4 : World) (q : Ref w4 r rd xs.length (bitsL xs) h t) => Get_any r rd xs.length h t k false (bitsL xs) w4 q hn hg
        rw [← her, ← hval, ← hh2, ← ht2] at hP
        clear her hval hh2 ht2
        have s3 : (wr.alloc (.cells #[.bool true, .int .u32 x, .int .i64 k] 33)).heap.size = wr.heap.size + 1 := World.size_alloc _ _
        go_wp2_with (first
          | (go_at_call 19; refine hF.mono ?_; rintro e w4 ⟨rfl, bt4, ho4⟩
             have s4 := bt4.size; rw [s3] at s4
             have hblk4 := bt4.blk hblk (by omega) (by omega)
             have hR4 := hR3.but bt4 (by omega) (by omega) (by omega) (by omega)
             have kc0 : w4.cell? ⟨wr.heap.size, 0, none⟩ = some (.bool true) := hblk4.cell rfl
             have kc2 : w4.cell? ⟨wr.heap.size, 2, none⟩ = some (.int .i64 k) := hblk4.cell rfl)
          | (go_at_call 21; refine (hP _ (by exact hR4)).mono ?_; rintro e w5 ⟨rfl, bt5, hR5⟩
             have s5 : w4.heap.size ≤ w5.heap.size := bt5.size
             have ho5 := ho4.but bt5 (by omega) (by omega)
             have belz : Below w.heap.size w w5 := ((belr.trans (Below.less bel3 sr)).trans (bt4.below (by omega) (by omega) (by rw [s3]; omega))).trans (bt5.below (by omega) (by omega) (by omega))
             have m1 : w5.cell? ⟨r, 1, none⟩ = some (.int .i64 h2) := by obtain ⟨s, q, _⟩ := hR5; exact q.cell rfl
             have m2 : w5.cell? ⟨r, 2, none⟩ = some (.int .i64 t2) := by obtain ⟨s, q, _⟩ := hR5; exact q.cell rfl)
          | (go_at_call 22; refine (UsedE q qb qc qd xs.length h2 t2 (bitsL xs) _ (by exact ho5)).mono ?_; rintro e w' ⟨rfl, n1, rfl⟩)
          | (go_at_call 23; refine (LeftE q qb qc qd xs.length h2 t2 (bitsL xs) _ (by exact ho5) hn hg2).mono ?_; rintro e w' ⟨rfl, n2, rfl⟩)
          | (go_at_call 14; refine (RLeft r rd xs.length h2 t2 (bitsL xs) _ (by exact hR5) hn hg2).mono ?_; rintro e w' ⟨rfl, n3, rfl⟩)
          | (go_at_call 24; refine (BitE q qb qc qd xs.length h2 t2 p (bitsL xs) _ (by exact ho5) hn).mono ?_; rw [hwant]; rintro e w' ⟨rfl, n4, rfl⟩))
        go_roundw
        case rel => exact ⟨j + 1, h2, t2, by omega, by go_num, Below.drewN' belz _, ho5.drewN _, hg2, hR5.drewN _, by show w2.heap.size ≤ w5.heap.size; omega⟩
        case measure => simp [intOf]; omega
    · obtain rfl : j = zs.length := by omega
      go_wp2
      go_ret
      exact ⟨rfl, belr⟩

set_option maxRecDepth 100000 in
set_option maxHeartbeats 1200000 in
theorem read_hi (v0 : Value) (xs : List Nat) (v : Value) (zs : List Act) (p : Int) (w : World) (hB : Given w v0 xs) (hA : Acts w v zs) (hn : xs.length ≤ 512) (hlen : zs.length ≤ 100) (hp : 8 * (xs.length : Int) ≤ p) :
    Calls Try.prog 4 #[v0, v, .int .i64 p] w fun e w' => e = .returned (.bool true) ∧ Below w.heap.size w w' := by
  have hA0 := hA
  have hG0 := hB
  obtain ⟨a, cp, rfl, hvs, _⟩ := hA
  obtain ⟨a0, cp0, rfl, hxs, _⟩ := hB
  have l1 : ¬ (100 : Int) < (zs.length : Int) := by omega
  have l2 : ¬ (2000 : Int) < (xs.length : Int) := by omega
  have l3 : ¬ (512 : Int) < (xs.length : Int) := by omega
  have p0 : 0 ≤ p := by omega
  have p1 : ¬ p < 8 * (xs.length : Int) := by omega
  have hwant : (if 0 ≤ p ∧ p < 8 * xs.length then ((bitsL xs p.toNat).toNat : Int) else 0) = 0 := if_neg (by omega)
  go_enter Try.func4, Try.ntmps4
  go_wp2_with (first
    | (go_at_call 7; refine (alive_any _).mono ?_; rintro e wa ⟨rfl, bela⟩)
    | (go_at_call 17; refine (Open_ok _ xs (bitsL xs) _ (hG0.below bela (Nat.le_refl _)).src hn (fun i hi => bitsL_byte hxs hi)).mono ?_; rintro e w1 ⟨q, qb, qc, qd, rfl, lq, lqb, lqc, lqd, uq, uqb, uqc, uqd, bel1, ho⟩)
    | (go_at_call 18; refine (Of_any _ xs _ ((hG0.below bela (Nat.le_refl _)).below bel1 (Nat.le_refl _)) hn).mono ?_; rintro e w2 ⟨rfl, hpart⟩
       obtain ⟨rd, lr, lrd, ur, urd, bel2, hr⟩ := hpart.made
       obtain ⟨r, hrr⟩ : ∃ r, r = w1.heap.size := ⟨_, rfl⟩
       rw [← hrr] at hr ur ⊢
       have lr' : w1.heap.size ≤ r := by omega
       clear hrr lr hpart; have rc0 : ∃ sa sc, w2.cell? ⟨r, 0, none⟩ = some (.slice sa (8 * xs.length) sc) := (by obtain ⟨s, qq, sa, sc, rfl, _⟩ := hr; exact ⟨sa, sc, qq.cell rfl⟩); obtain ⟨sa, sc, rc⟩ := rc0))
  have sa := bela.size
  have s1 := bel1.size
  have s2 := bel2.size
  have belw : Below w.heap.size w w2 := (bela.trans (Below.less bel1 sa)).trans (Below.less bel2 (by omega))
  have ho2 := ho.below bel2 uq uqb uqc uqd
  clear hG0
  go_loopw [11] (fun i wr => ∃ (j : Nat) (h t : Nat), j ≤ zs.length ∧ i = .int .i64 j ∧ Below w.heap.size w wr ∧ Own 67 wr q qb qc qd xs.length (bitsL xs) h t ∧ h + t ≤ 8 * xs.length ∧ Ref wr r rd xs.length (bitsL xs) h t ∧ w2.heap.size ≤ wr.heap.size) (fun i _ => zs.length - (intOf i).toNat)
  case atStart => exact ⟨0, 0, 0, by omega, rfl, belw, ho2, by omega, hr, Nat.le_refl _⟩
  case round =>
    obtain ⟨j, h, t, hj, rfl, belr, hO, hg, hR, hNr⟩ := hrel
    by_cases hlt : j < zs.length
    · obtain ⟨⟨bk, x, k⟩, hz⟩ : ∃ z, zs[j]? = some z := ⟨_, List.getElem?_eq_getElem hlt⟩
      obtain ⟨a', c', he', _, hnil | ⟨b0, off, rfl, hb0, hcells⟩⟩ := hA0
      · rw [hnil] at hlt; simp at hlt
      cases he'
      obtain ⟨k0, k1, k2⟩ := hcells j bk x k hz
      have r0 : wr.cell? ⟨b0, off + j * 3, none⟩ = some (.bool bk) := (belr.cell hb0).trans k0
      have r1 : wr.cell? ⟨b0, off + j * 3 + 1, none⟩ = some (.int .u32 x) := (belr.cell hb0).trans k1
      have r2 : wr.cell? ⟨b0, off + j * 3 + 2, none⟩ = some (.int .i64 k) := (belr.cell hb0).trans k2
      clear k0 k1 k2 hcells
      have i1 : (0 : Int) ≤ (j : Int) := by omega
      have i2 : (j : Int) < (zs.length : Int) := by omega
      have sr := belr.size
      cases bk with
      | false =>
        have bel3 : Below wr.heap.size wr (wr.alloc (.cells #[.bool false, .int .u32 x, .int .i64 k] 33)) := (Below.refl _ _).alloc (Nat.le_refl _) _
        have hblk : Blk (wr.alloc (.cells #[.bool false, .int .u32 x, .int .i64 k] 33)) wr.heap.size #[.bool false, .int .u32 x, .int .i64 k] 33 := Blk.new _ _ _
        have hF := FrontE_any q qb qc qd xs.length h t k (bitsL xs) _ (hO.below bel3 (by omega) (by omega) (by omega) (by omega)) hn hg
        have hR3 := hR.below bel3 (by omega) (by omega)
        have hg2 := eyes_le (f := true) hg k
        obtain ⟨er, her⟩ : ∃ e, e = M.may (8 * xs.length) h t k := ⟨_, rfl⟩
        obtain ⟨val, hval⟩ : ∃ e, e = M.ev true (8 * xs.length) (bitsL xs) h t k := ⟨_, rfl⟩
        obtain ⟨h2, hh2⟩ : ∃ e, e = M.eh true (8 * xs.length) h t k := ⟨_, rfl⟩
        obtain ⟨t2, ht2⟩ : ∃ e, e = M.et true (8 * xs.length) h t k := ⟨_, rfl⟩
        rw [← her, ← hval, ← hh2, ← ht2] at hF
        rw [← hh2, ← ht2] at hg2
        have hP := fun (w4 : World) (q : Ref w4 r rd xs.length (bitsL xs) h t) => Get_any r rd xs.length h t k true (bitsL xs) w4 q hn hg
        rw [← her, ← hval, ← hh2, ← ht2] at hP
        clear her hval hh2 ht2
        have s3 : (wr.alloc (.cells #[.bool false, .int .u32 x, .int .i64 k] 33)).heap.size = wr.heap.size + 1 := World.size_alloc _ _
        go_wp2_with (first
          | (go_at_call 20; refine hF.mono ?_; rintro e w4 ⟨rfl, bt4, ho4⟩
             have s4 := bt4.size; rw [s3] at s4
             have hblk4 := bt4.blk hblk (by omega) (by omega)
             have hR4 := hR3.but bt4 (by omega) (by omega) (by omega) (by omega)
             have kc0 : w4.cell? ⟨wr.heap.size, 0, none⟩ = some (.bool false) := hblk4.cell rfl
             have kc2 : w4.cell? ⟨wr.heap.size, 2, none⟩ = some (.int .i64 k) := hblk4.cell rfl)
          | (go_at_call 21; refine (hP _ (by exact hR4)).mono ?_; rintro e w5 ⟨rfl, bt5, hR5⟩
             have s5 : w4.heap.size ≤ w5.heap.size := bt5.size
             have ho5 := ho4.but bt5 (by omega) (by omega)
             have belz : Below w.heap.size w w5 := ((belr.trans (Below.less bel3 sr)).trans (bt4.below (by omega) (by omega) (by rw [s3]; omega))).trans (bt5.below (by omega) (by omega) (by omega))
             have m1 : w5.cell? ⟨r, 1, none⟩ = some (.int .i64 h2) := by obtain ⟨s, q, _⟩ := hR5; exact q.cell rfl
             have m2 : w5.cell? ⟨r, 2, none⟩ = some (.int .i64 t2) := by obtain ⟨s, q, _⟩ := hR5; exact q.cell rfl)
          | (go_at_call 22; refine (UsedE q qb qc qd xs.length h2 t2 (bitsL xs) _ (by exact ho5)).mono ?_; rintro e w' ⟨rfl, n1, rfl⟩)
          | (go_at_call 23; refine (LeftE q qb qc qd xs.length h2 t2 (bitsL xs) _ (by exact ho5) hn hg2).mono ?_; rintro e w' ⟨rfl, n2, rfl⟩)
          | (go_at_call 14; refine (RLeft r rd xs.length h2 t2 (bitsL xs) _ (by exact hR5) hn hg2).mono ?_; rintro e w' ⟨rfl, n3, rfl⟩)
          | (go_at_call 24; refine (BitE q qb qc qd xs.length h2 t2 p (bitsL xs) _ (by exact ho5) hn).mono ?_; rw [hwant]; rintro e w' ⟨rfl, n4, rfl⟩))
        go_roundw
        case rel => exact ⟨j + 1, h2, t2, by omega, by go_num, Below.drewN' belz _, ho5.drewN _, hg2, hR5.drewN _, by show w2.heap.size ≤ w5.heap.size; omega⟩
        case measure => simp [intOf]; omega
      | true =>
        have bel3 : Below wr.heap.size wr (wr.alloc (.cells #[.bool true, .int .u32 x, .int .i64 k] 33)) := (Below.refl _ _).alloc (Nat.le_refl _) _
        have hblk : Blk (wr.alloc (.cells #[.bool true, .int .u32 x, .int .i64 k] 33)) wr.heap.size #[.bool true, .int .u32 x, .int .i64 k] 33 := Blk.new _ _ _
        have hF := BackE_any q qb qc qd xs.length h t k (bitsL xs) _ (hO.below bel3 (by omega) (by omega) (by omega) (by omega)) hn hg
        have hR3 := hR.below bel3 (by omega) (by omega)
        have hg2 := eyes_le (f := false) hg k
        obtain ⟨er, her⟩ : ∃ e, e = M.may (8 * xs.length) h t k := ⟨_, rfl⟩
        obtain ⟨val, hval⟩ : ∃ e, e = M.ev false (8 * xs.length) (bitsL xs) h t k := ⟨_, rfl⟩
        obtain ⟨h2, hh2⟩ : ∃ e, e = M.eh false (8 * xs.length) h t k := ⟨_, rfl⟩
        obtain ⟨t2, ht2⟩ : ∃ e, e = M.et false (8 * xs.length) h t k := ⟨_, rfl⟩
        rw [← her, ← hval, ← hh2, ← ht2] at hF
        rw [← hh2, ← ht2] at hg2
        have hP := fun (w4 : World) (q : Ref w4 r rd xs.length (bitsL xs) h t) => Get_any r rd xs.length h t k false (bitsL xs) w4 q hn hg
        rw [← her, ← hval, ← hh2, ← ht2] at hP
        clear her hval hh2 ht2
        have s3 : (wr.alloc (.cells #[.bool true, .int .u32 x, .int .i64 k] 33)).heap.size = wr.heap.size + 1 := World.size_alloc _ _
        go_wp2_with (first
          | (go_at_call 19; refine hF.mono ?_; rintro e w4 ⟨rfl, bt4, ho4⟩
             have s4 := bt4.size; rw [s3] at s4
             have hblk4 := bt4.blk hblk (by omega) (by omega)
             have hR4 := hR3.but bt4 (by omega) (by omega) (by omega) (by omega)
             have kc0 : w4.cell? ⟨wr.heap.size, 0, none⟩ = some (.bool true) := hblk4.cell rfl
             have kc2 : w4.cell? ⟨wr.heap.size, 2, none⟩ = some (.int .i64 k) := hblk4.cell rfl)
          | (go_at_call 21; refine (hP _ (by exact hR4)).mono ?_; rintro e w5 ⟨rfl, bt5, hR5⟩
             have s5 : w4.heap.size ≤ w5.heap.size := bt5.size
             have ho5 := ho4.but bt5 (by omega) (by omega)
             have belz : Below w.heap.size w w5 := ((belr.trans (Below.less bel3 sr)).trans (bt4.below (by omega) (by omega) (by rw [s3]; omega))).trans (bt5.below (by omega) (by omega) (by omega))
             have m1 : w5.cell? ⟨r, 1, none⟩ = some (.int .i64 h2) := by obtain ⟨s, q, _⟩ := hR5; exact q.cell rfl
             have m2 : w5.cell? ⟨r, 2, none⟩ = some (.int .i64 t2) := by obtain ⟨s, q, _⟩ := hR5; exact q.cell rfl)
          | (go_at_call 22; refine (UsedE q qb qc qd xs.length h2 t2 (bitsL xs) _ (by exact ho5)).mono ?_; rintro e w' ⟨rfl, n1, rfl⟩)
          | (go_at_call 23; refine (LeftE q qb qc qd xs.length h2 t2 (bitsL xs) _ (by exact ho5) hn hg2).mono ?_; rintro e w' ⟨rfl, n2, rfl⟩)
          | (go_at_call 14; refine (RLeft r rd xs.length h2 t2 (bitsL xs) _ (by exact hR5) hn hg2).mono ?_; rintro e w' ⟨rfl, n3, rfl⟩)
          | (go_at_call 24; refine (BitE q qb qc qd xs.length h2 t2 p (bitsL xs) _ (by exact ho5) hn).mono ?_; rw [hwant]; rintro e w' ⟨rfl, n4, rfl⟩))
        go_roundw
        case rel => exact ⟨j + 1, h2, t2, by omega, by go_num, Below.drewN' belz _, ho5.drewN _, hg2, hR5.drewN _, by show w2.heap.size ≤ w5.heap.size; omega⟩
        case measure => simp [intOf]; omega
    · obtain rfl : j = zs.length := by omega
      go_wp2
      go_ret
      exact ⟨rfl, belr⟩

set_option maxRecDepth 100000 in
set_option maxHeartbeats 1200000 in
theorem read_in (v0 : Value) (xs : List Nat) (v : Value) (zs : List Act) (p : Int) (w : World) (hB : Given w v0 xs) (hA : Acts w v zs) (hn : xs.length ≤ 512) (hlen : zs.length ≤ 100) (hp0 : 0 ≤ p) (hp1 : p < 8 * (xs.length : Int)) :
    Calls Try.prog 4 #[v0, v, .int .i64 p] w fun e w' => e = .returned (.bool true) ∧ Below w.heap.size w w' := by
  have hA0 := hA
  have hG0 := hB
  obtain ⟨a, cp, rfl, hvs, _⟩ := hA
  obtain ⟨a0, cp0, rfl, hxs, _⟩ := hB
  have l1 : ¬ (100 : Int) < (zs.length : Int) := by omega
  have l2 : ¬ (2000 : Int) < (xs.length : Int) := by omega
  have l3 : ¬ (512 : Int) < (xs.length : Int) := by omega
  have hp2 : p.toNat < 8 * xs.length := by omega
  obtain ⟨y, hy⟩ : ∃ y, y = (bitsL xs p.toNat).toNat := ⟨_, rfl⟩
  have hwant : (if 0 ≤ p ∧ p < 8 * xs.length then ((bitsL xs p.toNat).toNat : Int) else 0) = (y : Int) := by rw [hy]; exact if_pos ⟨hp0, hp1⟩
  go_enter Try.func4, Try.ntmps4
  go_wp2_with (first
    | (go_at_call 7; refine (alive_any _).mono ?_; rintro e wa ⟨rfl, bela⟩)
    | (go_at_call 17; refine (Open_ok _ xs (bitsL xs) _ (hG0.below bela (Nat.le_refl _)).src hn (fun i hi => bitsL_byte hxs hi)).mono ?_; rintro e w1 ⟨q, qb, qc, qd, rfl, lq, lqb, lqc, lqd, uq, uqb, uqc, uqd, bel1, ho⟩)
    | (go_at_call 18; refine (Of_any _ xs _ ((hG0.below bela (Nat.le_refl _)).below bel1 (Nat.le_refl _)) hn).mono ?_; rintro e w2 ⟨rfl, hpart⟩
       obtain ⟨rd, lr, lrd, ur, urd, bel2, hr⟩ := hpart.made
       obtain ⟨r, hrr⟩ : ∃ r, r = w1.heap.size := ⟨_, rfl⟩
       rw [← hrr] at hr ur ⊢
       have lr' : w1.heap.size ≤ r := by omega
       clear hrr lr hpart; obtain ⟨sc, rc, rcd, _, _⟩ := hr.cell hp2; rw [← hy] at rcd; clear hy))
  have sa := bela.size
  have s1 := bel1.size
  have s2 := bel2.size
  have belw : Below w.heap.size w w2 := (bela.trans (Below.less bel1 sa)).trans (Below.less bel2 (by omega))
  have ho2 := ho.below bel2 uq uqb uqc uqd
  clear hG0
  go_loopw [11] (fun i wr => ∃ (j : Nat) (h t : Nat), j ≤ zs.length ∧ i = .int .i64 j ∧ Below w.heap.size w wr ∧ Own 67 wr q qb qc qd xs.length (bitsL xs) h t ∧ h + t ≤ 8 * xs.length ∧ Ref wr r rd xs.length (bitsL xs) h t ∧ w2.heap.size ≤ wr.heap.size) (fun i _ => zs.length - (intOf i).toNat)
  case atStart => exact ⟨0, 0, 0, by omega, rfl, belw, ho2, by omega, hr, Nat.le_refl _⟩
  case round =>
    obtain ⟨j, h, t, hj, rfl, belr, hO, hg, hR, hNr⟩ := hrel
    by_cases hlt : j < zs.length
    · obtain ⟨⟨bk, x, k⟩, hz⟩ : ∃ z, zs[j]? = some z := ⟨_, List.getElem?_eq_getElem hlt⟩
      obtain ⟨a', c', he', _, hnil | ⟨b0, off, rfl, hb0, hcells⟩⟩ := hA0
      · rw [hnil] at hlt; simp at hlt
      cases he'
      obtain ⟨k0, k1, k2⟩ := hcells j bk x k hz
      have r0 : wr.cell? ⟨b0, off + j * 3, none⟩ = some (.bool bk) := (belr.cell hb0).trans k0
      have r1 : wr.cell? ⟨b0, off + j * 3 + 1, none⟩ = some (.int .u32 x) := (belr.cell hb0).trans k1
      have r2 : wr.cell? ⟨b0, off + j * 3 + 2, none⟩ = some (.int .i64 k) := (belr.cell hb0).trans k2
      clear k0 k1 k2 hcells
      have i1 : (0 : Int) ≤ (j : Int) := by omega
      have i2 : (j : Int) < (zs.length : Int) := by omega
      have sr := belr.size
      cases bk with
      | false =>
        have bel3 : Below wr.heap.size wr (wr.alloc (.cells #[.bool false, .int .u32 x, .int .i64 k] 33)) := (Below.refl _ _).alloc (Nat.le_refl _) _
        have hblk : Blk (wr.alloc (.cells #[.bool false, .int .u32 x, .int .i64 k] 33)) wr.heap.size #[.bool false, .int .u32 x, .int .i64 k] 33 := Blk.new _ _ _
        have hF := FrontE_any q qb qc qd xs.length h t k (bitsL xs) _ (hO.below bel3 (by omega) (by omega) (by omega) (by omega)) hn hg
        have hR3 := hR.below bel3 (by omega) (by omega)
        have hg2 := eyes_le (f := true) hg k
        obtain ⟨er, her⟩ : ∃ e, e = M.may (8 * xs.length) h t k := ⟨_, rfl⟩
        obtain ⟨val, hval⟩ : ∃ e, e = M.ev true (8 * xs.length) (bitsL xs) h t k := ⟨_, rfl⟩
        obtain ⟨h2, hh2⟩ : ∃ e, e = M.eh true (8 * xs.length) h t k := ⟨_, rfl⟩
        obtain ⟨t2, ht2⟩ : ∃ e, e = M.et true (8 * xs.length) h t k := ⟨_, rfl⟩
        rw [← her, ← hval, ← hh2, ← ht2] at hF
        rw [← hh2, ← ht2] at hg2
        have hP := fun (w4 : World) (q : Ref w4 r rd xs.length (bitsL xs) h t) => Get_any r rd xs.length h t k true (bitsL xs) w4 q hn hg
        rw [← her, ← hval, ← hh2, ← ht2] at hP
        clear her hval hh2 ht2
        have s3 : (wr.alloc (.cells #[.bool false, .int .u32 x, .int .i64 k] 33)).heap.size = wr.heap.size + 1 := World.size_alloc _ _
        go_wp2_with (first
          | (go_at_call 20; refine hF.mono ?_; rintro e w4 ⟨rfl, bt4, ho4⟩
             have s4 := bt4.size; rw [s3] at s4
             have hblk4 := bt4.blk hblk (by omega) (by omega)
             have hR4 := hR3.but bt4 (by omega) (by omega) (by omega) (by omega)
             have kc0 : w4.cell? ⟨wr.heap.size, 0, none⟩ = some (.bool false) := hblk4.cell rfl
             have kc2 : w4.cell? ⟨wr.heap.size, 2, none⟩ = some (.int .i64 k) := hblk4.cell rfl)
          | (go_at_call 21; refine (hP _ (by exact hR4)).mono ?_; rintro e w5 ⟨rfl, bt5, hR5⟩
             have s5 : w4.heap.size ≤ w5.heap.size := bt5.size
             have ho5 := ho4.but bt5 (by omega) (by omega)
             have belz : Below w.heap.size w w5 := ((belr.trans (Below.less bel3 sr)).trans (bt4.below (by omega) (by omega) (by rw [s3]; omega))).trans (bt5.below (by omega) (by omega) (by omega))
             have m1 : w5.cell? ⟨r, 1, none⟩ = some (.int .i64 h2) := by obtain ⟨s, q, _⟩ := hR5; exact q.cell rfl
             have m2 : w5.cell? ⟨r, 2, none⟩ = some (.int .i64 t2) := by obtain ⟨s, q, _⟩ := hR5; exact q.cell rfl)
          | (go_at_call 22; refine (UsedE q qb qc qd xs.length h2 t2 (bitsL xs) _ (by exact ho5)).mono ?_; rintro e w' ⟨rfl, n1, rfl⟩)
          | (go_at_call 23; refine (LeftE q qb qc qd xs.length h2 t2 (bitsL xs) _ (by exact ho5) hn hg2).mono ?_; rintro e w' ⟨rfl, n2, rfl⟩)
          | (go_at_call 14; refine (RLeft r rd xs.length h2 t2 (bitsL xs) _ (by exact hR5) hn hg2).mono ?_; rintro e w' ⟨rfl, n3, rfl⟩)
          | (go_at_call 24; refine (BitE q qb qc qd xs.length h2 t2 p (bitsL xs) _ (by exact ho5) hn).mono ?_; rw [hwant]; rintro e w' ⟨rfl, n4, rfl⟩))
        go_roundw
        case rel => exact ⟨j + 1, h2, t2, by omega, by go_num, Below.drewN' belz _, ho5.drewN _, hg2, hR5.drewN _, by show w2.heap.size ≤ w5.heap.size; omega⟩
        case measure => simp [intOf]; omega
      | true =>
        have bel3 : Below wr.heap.size wr (wr.alloc (.cells #[.bool true, .int .u32 x, .int .i64 k] 33)) := (Below.refl _ _).alloc (Nat.le_refl _) _
        have hblk : Blk (wr.alloc (.cells #[.bool true, .int .u32 x, .int .i64 k] 33)) wr.heap.size #[.bool true, .int .u32 x, .int .i64 k] 33 := Blk.new _ _ _
        have hF := BackE_any q qb qc qd xs.length h t k (bitsL xs) _ (hO.below bel3 (by omega) (by omega) (by omega) (by omega)) hn hg
        have hR3 := hR.below bel3 (by omega) (by omega)
        have hg2 := eyes_le (f := false) hg k
        obtain ⟨er, her⟩ : ∃ e, e = M.may (8 * xs.length) h t k := ⟨_, rfl⟩
        obtain ⟨val, hval⟩ : ∃ e, e = M.ev false (8 * xs.length) (bitsL xs) h t k := ⟨_, rfl⟩
        obtain ⟨h2, hh2⟩ : ∃ e, e = M.eh false (8 * xs.length) h t k := ⟨_, rfl⟩
        obtain ⟨t2, ht2⟩ : ∃ e, e = M.et false (8 * xs.length) h t k := ⟨_, rfl⟩
        rw [← her, ← hval, ← hh2, ← ht2] at hF
        rw [← hh2, ← ht2] at hg2
        have hP := fun (w4 : World) (q : Ref w4 r rd xs.length (bitsL xs) h t) => Get_any r rd xs.length h t k false (bitsL xs) w4 q hn hg
        rw [← her, ← hval, ← hh2, ← ht2] at hP
        clear her hval hh2 ht2
        have s3 : (wr.alloc (.cells #[.bool true, .int .u32 x, .int .i64 k] 33)).heap.size = wr.heap.size + 1 := World.size_alloc _ _
        go_wp2_with (first
          | (go_at_call 19; refine hF.mono ?_; rintro e w4 ⟨rfl, bt4, ho4⟩
             have s4 := bt4.size; rw [s3] at s4
             have hblk4 := bt4.blk hblk (by omega) (by omega)
             have hR4 := hR3.but bt4 (by omega) (by omega) (by omega) (by omega)
             have kc0 : w4.cell? ⟨wr.heap.size, 0, none⟩ = some (.bool true) := hblk4.cell rfl
             have kc2 : w4.cell? ⟨wr.heap.size, 2, none⟩ = some (.int .i64 k) := hblk4.cell rfl)
          | (go_at_call 21; refine (hP _ (by exact hR4)).mono ?_; rintro e w5 ⟨rfl, bt5, hR5⟩
             have s5 : w4.heap.size ≤ w5.heap.size := bt5.size
             have ho5 := ho4.but bt5 (by omega) (by omega)
             have belz : Below w.heap.size w w5 := ((belr.trans (Below.less bel3 sr)).trans (bt4.below (by omega) (by omega) (by rw [s3]; omega))).trans (bt5.below (by omega) (by omega) (by omega))
             have m1 : w5.cell? ⟨r, 1, none⟩ = some (.int .i64 h2) := by obtain ⟨s, q, _⟩ := hR5; exact q.cell rfl
             have m2 : w5.cell? ⟨r, 2, none⟩ = some (.int .i64 t2) := by obtain ⟨s, q, _⟩ := hR5; exact q.cell rfl)
          | (go_at_call 22; refine (UsedE q qb qc qd xs.length h2 t2 (bitsL xs) _ (by exact ho5)).mono ?_; rintro e w' ⟨rfl, n1, rfl⟩)
          | (go_at_call 23; refine (LeftE q qb qc qd xs.length h2 t2 (bitsL xs) _ (by exact ho5) hn hg2).mono ?_; rintro e w' ⟨rfl, n2, rfl⟩)
          | (go_at_call 14; refine (RLeft r rd xs.length h2 t2 (bitsL xs) _ (by exact hR5) hn hg2).mono ?_; rintro e w' ⟨rfl, n3, rfl⟩)
          | (go_at_call 24; refine (BitE q qb qc qd xs.length h2 t2 p (bitsL xs) _ (by exact ho5) hn).mono ?_; rw [hwant]; rintro e w' ⟨rfl, n4, rfl⟩))
        go_roundw
        case rel => exact ⟨j + 1, h2, t2, by omega, by go_num, Below.drewN' belz _, ho5.drewN _, hg2, hR5.drewN _, by show w2.heap.size ≤ w5.heap.size; omega⟩
        case measure => simp [intOf]; omega
    · obtain rfl : j = zs.length := by omega
      go_wp2
      go_ret
      exact ⟨rfl, belr⟩

set_option maxRecDepth 100000 in
theorem BitsRead_walk (v0 : Value) (xs : List Nat) (v : Value) (zs : List Act) (p : Int) (w : World) (hB : Given w v0 xs) (hA : Acts w v zs) :
    Calls Try.prog 4 #[v0, v, .int .i64 p] w fun e w' => e = .returned (.bool true) ∧ Below w.heap.size w w' := by
  rcases (by omega : (zs.length ≤ 100 ∧ xs.length ≤ 512) ∨ 100 < zs.length ∨ (zs.length ≤ 100 ∧ 2000 < xs.length) ∨ (zs.length ≤ 100 ∧ 512 < xs.length ∧ xs.length ≤ 2000)) with ⟨h1, h2⟩ | h1 | ⟨h1, h2⟩ | ⟨h1, h2, h3⟩
  · rcases (by omega : p < 0 ∨ 8 * (xs.length : Int) ≤ p ∨ (0 ≤ p ∧ p < 8 * (xs.length : Int))) with h | h | ⟨h, h'⟩
    · exact read_lo v0 xs v zs p w hB hA h2 h1 h
    · exact read_hi v0 xs v zs p w hB hA h2 h1 h
    · exact read_in v0 xs v zs p w hB hA h2 h1 h h'
  · obtain ⟨a, cp, rfl, _⟩ := hA
    obtain ⟨a0, cp0, rfl, _⟩ := hB
    have l1 : (100 : Int) < (zs.length : Int) := by omega
    go_enter Try.func4, Try.ntmps4
    go_wp2_with (go_at_call 7; refine (alive_any _).mono ?_; rintro e wa ⟨rfl, bela⟩)
    go_ret
    exact ⟨rfl, bela⟩
  · obtain ⟨a, cp, rfl, _⟩ := hA
    obtain ⟨a0, cp0, rfl, _⟩ := hB
    have l1 : ¬ (100 : Int) < (zs.length : Int) := by omega
    have l2 : (2000 : Int) < (xs.length : Int) := by omega
    go_enter Try.func4, Try.ntmps4
    go_wp2_with (go_at_call 7; refine (alive_any _).mono ?_; rintro e wa ⟨rfl, bela⟩)
    go_ret
    exact ⟨rfl, bela⟩
  · obtain ⟨a, cp, rfl, _⟩ := hA
    obtain ⟨a0, cp0, rfl, _⟩ := hB
    have l1 : ¬ (100 : Int) < (zs.length : Int) := by omega
    have l2 : ¬ (2000 : Int) < (xs.length : Int) := by omega
    have l3 : (512 : Int) < (xs.length : Int) := by omega
    go_enter Try.func4, Try.ntmps4
    go_wp2_with (first
      | (go_at_call 7; refine (alive_any _).mono ?_; rintro e wa ⟨rfl, bela⟩)
      | (go_at_call 17; refine (Open_hi _ _ _ _ h2).mono ?_; rintro e w1 ⟨rfl, hw⟩; rw [hw]; clear hw w1))
    go_ret
    exact ⟨rfl, bela⟩

end Bits
end Go.Proofs.Ytafjepneekomiaa
