import Derived.Deep.RegionHeld3
import Derived.Test.YtcaifpjbjghhaaaGreatDoorSubP20
/-
  Contracts of package quant: the scales of a plane, one plane's and two planes' together. Conditions: as told at each.
-/
namespace Go.Proofs.YtcaifpjbjghhaaaGreatDoor
set_option linter.unusedVariables false
open Go.RowKit
namespace M
def mst (f : Nat → Int) : Nat → Int
  | 0 => 0
  | n + 1 => max (max (mst f n) (f n)) (-(f n))
def scl (F : Nat → Nat → Int) (n b : Nat) : Int := (sc (mst (fun i => F i b) n) : Int)
theorem scl_bd (F : Nat → Nat → Int) (n b : Nat) : 0 ≤ scl F n b ∧ scl F n b ≤ 15 := by
  unfold scl; have := sc_le (mst (fun i => F i b) n); omega
end M
namespace Qnt
open Bank (Blk But)
open Poly (cell_keep alloc_size enc enc_get enc_rep madeCells_rep)

def Tb (g : Nat) (t : TypeId) (K : IntKind) (C : Nat) (G : Nat → Int) (w : World) : Prop := ∃ tab : Array Value, Blk w g tab t ∧ tab.size = C ∧ ∀ j, j < C → tab[j]? = some (.int K (G j))
theorem Tb.cell {g : Nat} {t : TypeId} {K : IntKind} {C : Nat} {G : Nat → Int} {w : World} (h : Tb g t K C G w) {j : Nat} (hj : j < C) : w.cell? ⟨g, j, none⟩ = some (.int K (G j)) := by
  obtain ⟨tab, h1, _, h2⟩ := h; exact h1.cell (h2 j hj)
theorem Tb.free {g : Nat} {t : TypeId} {K : IntKind} {C : Nat} {G : Nat → Int} {w : World} (h : Tb g t K C G w) (j : Nat) : w.frozen? ⟨g, j, none⟩ = false := by
  obtain ⟨tab, h1, _⟩ := h; exact h1.free j
theorem Tb.lt {g : Nat} {t : TypeId} {K : IntKind} {C : Nat} {G : Nat → Int} {w : World} (h : Tb g t K C G w) : g < w.heap.size := by
  obtain ⟨tab, h1, _⟩ := h; exact h1.lt
theorem Tb.below {g B : Nat} {t : TypeId} {K : IntKind} {C : Nat} {G : Nat → Int} {w w' : World} (h : Tb g t K C G w) (hb : Below B w w') (hB : g < B) : Tb g t K C G w' := by
  obtain ⟨tab, h1, h2⟩ := h; exact ⟨tab, (hb.block g hB).trans h1, h2⟩
theorem Tb.drewN {g : Nat} {t : TypeId} {K : IntKind} {C : Nat} {G : Nat → Int} {w : World} (h : Tb g t K C G w) (m : Nat) : Tb g t K C G (w.drewN m) := h
theorem Tb.alloc {g : Nat} {t : TypeId} {K : IntKind} {C : Nat} {G : Nat → Int} {w : World} (h : Tb g t K C G w) (o : Obj) : Tb g t K C G (w.alloc o) := by
  obtain ⟨tab, h1, h2⟩ := h; exact ⟨tab, h1.alloc o, h2⟩
theorem Tb.set_ne {g : Nat} {t : TypeId} {K : IntKind} {C : Nat} {G : Nat → Int} {w : World} (h : Tb g t K C G w) {a : Addr} (ha : g ≠ a.block) (v : Value) : Tb g t K C G (w.setCell a v) := by
  obtain ⟨tab, h1, h2⟩ := h; exact ⟨tab, h1.set_ne ha v, h2⟩
theorem Tb.set {g : Nat} {t : TypeId} {K : IntKind} {C : Nat} {G G' : Nat → Int} {w : World} (h : Tb g t K C G w) {b : Nat} (hb : b < C) {x : Int} (hx : x = G' b) (ho : ∀ j, j ≠ b → G' j = G j) : Tb g t K C G' (w.setCell ⟨g, b, none⟩ (.int K x)) := by
  obtain ⟨tab, h1, h2, h3⟩ := h
  refine ⟨_, h1.set b _, by simpa using h2, fun j hj => ?_⟩
  rw [Array.getElem?_setIfInBounds]
  split
  · rename_i e; subst e; rw [if_pos (by omega), hx]
  · rename_i e; rw [h3 j hj, ho j (fun e' => e e'.symm)]
theorem Tb.ext {g : Nat} {t : TypeId} {K : IntKind} {C : Nat} {G G' : Nat → Int} {w : World} (h : Tb g t K C G w) (ho : ∀ j, j < C → G' j = G j) : Tb g t K C G' w := by
  obtain ⟨tab, h1, h2, h3⟩ := h
  exact ⟨tab, h1, h2, fun j hj => by rw [h3 j hj, ho j hj]⟩
theorem Tb.new (w : World) (t : TypeId) (K : IntKind) (C : Nat) : Tb w.heap.size t K C (fun _ => 0) (w.alloc (.cells (enc K (List.replicate C 0)).toArray t)) := by
  refine ⟨_, Blk.new w _ _, by simp [Poly.enc_length], fun j hj => ?_⟩
  rw [enc_rep, List.getElem?_toArray, List.getElem?_replicate, if_pos hj]

theorem infoQI : (Tryz.prog.info? 3).map (fun i => (i.zero, i.size, i.bytes)) = some (some (.int .i64 0), 1, 8) := by kernel_rfl
theorem infoQ64 : (Tryz.prog.info? 2).map (fun i => (i.zero, i.size, i.bytes)) = some (some (.int .i64 0), 1, 8) := by kernel_rfl
theorem infoQS : (Tryz.prog.info? 97).map (fun i => (i.zero, i.size, i.bytes)) = some (some (.slice none 0 0), 1, 24) := by kernel_rfl
theorem infoQB : (Tryz.prog.info? 4).map (fun i => (i.zero, i.size, i.bytes)) = some (some (.bool false), 1, 1) := by kernel_rfl
theorem makeQI (w : World) (n : Nat) (hn : n ≤ 65536) : (Instr.makeSlice 25 (.int .i64 n) (.int .i64 n)).run Tryz.prog w = .ok (.slice (some ⟨w.heap.size, 0, none⟩) n n) (w.alloc (.cells (enc .i64 (List.replicate n 0)).toArray 3)) := by
  obtain ⟨i0, hi, hz0, hz1, hz2⟩ := info_parts infoQI
  have := run_make (P := Tryz.prog) w 25 3 i0 (.int .i64 0) Tryz.underlying25 hi hz0 .i64 .i64 n n (by omega) (by omega) (by rw [hz2]; omega) (by omega)
  rw [this, hz1, enc_rep, ← madeCells_rep]; simp [Value.cells]
theorem makeQ64 (w : World) (n : Nat) (hn : n ≤ 65536) : (Instr.makeSlice 249 (.int .i64 n) (.int .i64 n)).run Tryz.prog w = .ok (.slice (some ⟨w.heap.size, 0, none⟩) n n) (w.alloc (.cells (enc .i64 (List.replicate n 0)).toArray 2)) := by
  obtain ⟨i0, hi, hz0, hz1, hz2⟩ := info_parts infoQ64
  have := run_make (P := Tryz.prog) w 249 2 i0 (.int .i64 0) Tryz.underlying249 hi hz0 .i64 .i64 n n (by omega) (by omega) (by rw [hz2]; omega) (by omega)
  rw [this, hz1, enc_rep, ← madeCells_rep]; simp [Value.cells]
theorem makeQ32 (w : World) (n : Nat) (hn : n ≤ 65536) : (Instr.makeSlice 97 (.int .i64 n) (.int .i64 n)).run Tryz.prog w = .ok (.slice (some ⟨w.heap.size, 0, none⟩) n n) (w.alloc (.cells (enc .i32 (List.replicate n 0)).toArray 21)) := Poly.make32 w n hn
theorem makeQS (w : World) (n : Nat) (hn : n ≤ 65536) : (Instr.makeSlice 82 (.int .i64 n) (.int .i64 n)).run Tryz.prog w = .ok (.slice (some ⟨w.heap.size, 0, none⟩) n n) (w.alloc (.cells (List.replicate n (.slice none 0 0)).toArray 97)) := by
  obtain ⟨i0, hi, hz0, hz1, hz2⟩ := info_parts infoQS
  have := run_make (P := Tryz.prog) w 82 97 i0 (.slice none 0 0) Tryz.underlying82 hi hz0 .i64 .i64 n n (by omega) (by omega) (by rw [hz2]; omega) (by omega)
  rw [this, hz1, ← madeCells_rep]; simp [Value.cells]
theorem makeQB (w : World) (n : Nat) (hn : n ≤ 65536) : (Instr.makeSlice 106 (.int .i64 n) (.int .i64 n)).run Tryz.prog w = .ok (.slice (some ⟨w.heap.size, 0, none⟩) n n) (w.alloc (.cells (List.replicate n (.bool false)).toArray 4)) := by
  obtain ⟨i0, hi, hz0, hz1, hz2⟩ := info_parts infoQB
  have := run_make (P := Tryz.prog) w 106 4 i0 (.bool false) Tryz.underlying106 hi hz0 .i64 .i64 n n (by omega) (by omega) (by rw [hz2]; omega) (by omega)
  rw [this, hz1, ← madeCells_rep]; simp [Value.cells]

theorem wpList_max3 {P : Program} {w : World} {ops : Array Oper} {rest : List Oper} {o : Oper} {a : Act} {Q : Exit → Act → World → Prop} (hgd : o.guard = none) (x y z : Operand) (t : TypeId)
    (ho : o.op = .call { callee := .builtin .max, args := #[x, y, z], argTypes := #[t, t, t] }) (p q r m : Int) (hx : a.eval x = .int .i64 p) (hy : a.eval y = .int .i64 q) (hz : a.eval z = .int .i64 r) (hm : m = max (max p q) r)
    (k : wpList P ops Q rest (a.put o.dst (.int .i64 m)) w) : wpList P ops Q (o :: rest) a w := by
  refine wpList_plain hgd fun _ hK => ?_
  have e : (if r > (if q > p then q else p) then r else (if q > p then q else p)) = m := by subst hm; repeat' split <;> omega
  unfold Oper.wp execOp
  simp only [ho, resolve, invoke, builtin, Sem.run_bind, Sem.run_pure, Result.andThen_ok, List.map_toArray, List.map_cons, List.map_nil, hx, hy, hz, Builtin.max_, List.foldlM_cons, List.foldlM_nil, Builtin.max2, e]
  exact hK _ _ k

set_option maxHeartbeats 4000000 in
set_option maxRecDepth 100000 in
theorem scalesOf_any (hi : Nat) (v : Value) (n C : Nat) (F : Nat → Nat → Int) (w : World) (h : Vw hi v n C F w) (hF : F32 F) (n1 : 1 ≤ n) (n40 : n ≤ 40) (c1 : 1 ≤ C) (c8 : C ≤ 8) (hh : hi ≤ w.heap.size) :
    Calls Tryz.prog 108 #[v] w fun e w' => e = .returned (.slice (some ⟨w.heap.size + 1, 0, none⟩) C C) ∧ Below w.heap.size w w' ∧ Tb (w.heap.size + 1) 3 .i64 C (M.scl F n) w' ∧ w'.heap.size = w.heap.size + 2 := by
  obtain ⟨b0, o0, cp, rfl⟩ := h.form
  have HV : Hid (Vw hi (.slice (some ⟨b0, o0, none⟩) n cp) n C F w) := h
  have HF : Hid (F32 F) := hF
  have hall := h.all hh
  have HA : Hid _ := hall
  obtain ⟨b1, o1, cp1, _, hu0⟩ := hall 0 (by omega)
  replace hu0 := (hu0 w (Below.refl _ _)).1
  rw [Nat.add_zero] at hu0
  have n0' : (0 : Int) < n := by omega
  have n40' : (n : Int) ≤ 40 := by omega
  have c1' : (1 : Int) ≤ C := by omega
  have c8' : (C : Int) ≤ 8 := by omega
  have hmk := makeQ64 w C (by omega)
  have H0 : Hid (Tb w.heap.size 2 .i64 C (fun j => M.mst (fun i => F i j) 0) (w.alloc (.cells (enc .i64 (List.replicate C 0)).toArray 2))) := Tb.new w _ _ _
  have HB0 : Hid (Below w.heap.size w (w.alloc (.cells (enc .i64 (List.replicate C 0)).toArray 2))) := (Below.refl _ w).alloc (Nat.le_refl _) _
  have HS0 : Hid ((w.alloc (.cells (enc .i64 (List.replicate C 0)).toArray 2)).heap.size = w.heap.size + 1) := alloc_size _ _
  clear h hF hall
  generalize (enc .i64 (List.replicate C 0)).toArray = cs at *
  go_enter Tryz.func108, Tryz.ntmps108
  go_wp2
  go_loopw [19] (fun i wr => ∃ q : Nat, q ≤ n ∧ i = .int .i64 q ∧ Tb w.heap.size 2 .i64 C (fun j => M.mst (fun i => F i j) q) wr ∧ Below w.heap.size w wr ∧ wr.heap.size = w.heap.size + 1) (fun i _ => n - (intOf i).toNat)
  case atStart => exact ⟨0, by omega, rfl, H0.out, HB0.out, HS0.out⟩
  case round =>
    clear H0 HB0 HS0 hmk hu0
    obtain ⟨q, hq, rfl, ht, hb, hs⟩ := hrel
    by_cases hlt : q < n
    · have hlt' : (q : Int) < n := by omega
      obtain ⟨b1, o1, cp1, _, hrow⟩ := HA.out q hlt
      have hu := (hrow wr hb).1
      have HRow : Hid (∀ wx, Below w.heap.size w wx → ∀ k, k < C → wx.cell? ⟨b1, o1 + k, none⟩ = some (.int .i32 (F q k))) := fun wx hbx => (hrow wx hbx).2
      clear hrow
      have HT : Hid (Tb w.heap.size 2 .i64 C (fun j => M.mst (fun i => F i j) q) wr) := ht
      have HB : Hid (Below w.heap.size w wr) := hb
      have HS : Hid (wr.heap.size = w.heap.size + 1) := hs
      clear ht hb hs
      go_wp2
      go_loopw [25] (fun i wx => ∃ k : Nat, k ≤ C ∧ i = .int .i64 k ∧ Tb w.heap.size 2 .i64 C (fun j => if j < k then M.mst (fun i => F i j) (q + 1) else M.mst (fun i => F i j) q) wx ∧ Below w.heap.size w wx ∧ wx.heap.size = w.heap.size + 1) (fun i _ => C - (intOf i).toNat)
      case atStart => exact ⟨0, by omega, rfl, HT.out.ext fun j _ => if_neg (by omega), HB.out, HS.out⟩
      case round =>
        clear HT HB HS
        obtain ⟨k, hk, rfl, ht, hb, hs⟩ := hrel
        by_cases hkl : k < C
        · have hkl' : (k : Int) < C := by omega
          obtain ⟨x1, x2⟩ := HF.out q k
          have hp := ht.cell hkl
          have hfz := ht.free k
          rw [if_neg (by omega)] at hp
          have hx := HRow.out wr hb k hkl
          have hm1 : M.mst (fun i => F i k) (q + 1) = max (max (M.mst (fun i => F i k) q) (F q k)) (-(F q k)) := rfl
          have HM : Hid (M.mst (fun i => F i k) (q + 1) = max (max (M.mst (fun i => F i k) q) (F q k)) (-(F q k))) := hm1
          have HSt : Hid (∀ x, x = M.mst (fun i => F i k) (q + 1) → Tb w.heap.size 2 .i64 C (fun j => if j < k + 1 then M.mst (fun i => F i j) (q + 1) else M.mst (fun i => F i j) q) (wr.setCell ⟨w.heap.size, k, none⟩ (.int .i64 x))) := fun x hx =>
            ht.set hkl (by rw [if_pos (by omega)]; exact hx) fun j hj => by
              by_cases hjk : j < k
              · rw [if_pos (by omega), if_pos hjk]
              · rw [if_neg (by omega), if_neg hjk]
          have HB : Hid (∀ x, Below w.heap.size w (wr.setCell ⟨w.heap.size, k, none⟩ x)) := fun x => hb.setCell (Nat.le_refl _) _
          have HS : Hid (∀ x, (wr.setCell ⟨w.heap.size, k, none⟩ x).heap.size = w.heap.size + 2 - 1) := fun x => by simpa [World.setCell] using hs
          clear ht hb hs hm1
          generalize M.mst (fun i => F i k) (q + 1) = m at *
          generalize M.mst (fun i => F i k) q = p at *
          generalize F q k = x at *
          go_wp2_with (refine wpList_max3 rfl (.tmp 37) (.tmp 38) (.tmp 40) 2 rfl p x (-x) m rfl rfl rfl HM.out ?_)
          go_roundw
          case rel => exact ⟨k + 1, by omega, by go_num, HSt.out _ rfl, HB.out _, HS.out _⟩
          case measure => simp [intOf]; omega
        · obtain rfl : k = C := by omega
          have HT : Hid (Tb w.heap.size 2 .i64 k (fun j => M.mst (fun i => F i j) (q + 1)) _) := ht.ext fun j hj => (if_pos hj).symm
          have HB : Hid (Below w.heap.size w _) := hb
          have HS : Hid (_ = w.heap.size + 1) := hs
          clear ht hb hs
          go_wp2
          go_roundw
          case rel => exact ⟨q + 1, by omega, by go_num, HT.out, HB.out, HS.out⟩
          case measure => simp [intOf]; omega
    · obtain rfl : q = n := by omega
      have hmk := makeQI wr C (by omega)
      rw [hs] at hmk
      have HM : Hid (Tb w.heap.size 2 .i64 C (fun j => M.mst (fun i => F i j) q) (wr.alloc (.cells (enc .i64 (List.replicate C 0)).toArray 3))) := ht.alloc _
      have HT : Hid (Tb (w.heap.size + 1) 3 .i64 C (fun j => if j < 0 then M.scl F q j else 0) (wr.alloc (.cells (enc .i64 (List.replicate C 0)).toArray 3))) := by
        have := (Tb.new wr 3 .i64 C).ext (G' := fun j => if j < 0 then M.scl F q j else 0) fun j _ => if_neg (by omega)
        rw [hs] at this
        exact this
      have HB : Hid (Below w.heap.size w (wr.alloc (.cells (enc .i64 (List.replicate C 0)).toArray 3))) := hb.alloc hb.size _
      have HS : Hid ((wr.alloc (.cells (enc .i64 (List.replicate C 0)).toArray 3)).heap.size = w.heap.size + 2) := by show _ = _; rw [alloc_size, hs]
      clear ht hb hs
      generalize (enc .i64 (List.replicate C 0)).toArray = cs2 at *
      go_wp2
      go_loopw [50] (fun i wx => ∃ k : Nat, k ≤ C ∧ i = .int .i64 k ∧ Tb w.heap.size 2 .i64 C (fun j => M.mst (fun i => F i j) q) wx ∧ Tb (w.heap.size + 1) 3 .i64 C (fun j => if j < k then M.scl F q j else 0) wx ∧ Below w.heap.size w wx ∧ wx.heap.size = w.heap.size + 2) (fun i _ => C - (intOf i).toNat)
      case atStart => exact ⟨0, by omega, rfl, HM.out, HT.out, HB.out, HS.out⟩
      case round =>
        clear HM HT HB HS hmk
        obtain ⟨k, hk, rfl, hm, ht, hb, hs⟩ := hrel
        by_cases hkl : k < C
        · have hkl' : (k : Int) < C := by omega
          have hp := hm.cell hkl
          have hfz := ht.free k
          have hc := ht.cell hkl
          rw [if_neg (by omega)] at hc
          have HM2 : Hid (∀ x, Tb w.heap.size 2 .i64 C (fun j => M.mst (fun i => F i j) q) (wr.setCell ⟨w.heap.size + 1, k, none⟩ x)) := fun x => hm.set_ne (by show w.heap.size ≠ w.heap.size + 1; omega) x
          have HSt : Hid (∀ x, x = M.scl F q k → Tb (w.heap.size + 1) 3 .i64 C (fun j => if j < k + 1 then M.scl F q j else 0) (wr.setCell ⟨w.heap.size + 1, k, none⟩ (.int .i64 x))) := fun x hx =>
            ht.set hkl (by rw [if_pos (by omega)]; exact hx) fun j hj => by
              by_cases hjk : j < k
              · rw [if_pos (by omega), if_pos hjk]
              · rw [if_neg (by omega), if_neg hjk]
          have HB : Hid (∀ x, Below w.heap.size w (wr.setCell ⟨w.heap.size + 1, k, none⟩ x)) := fun x => hb.setCell (Nat.le_succ _) _
          have HS : Hid (∀ x, (wr.setCell ⟨w.heap.size + 1, k, none⟩ x).heap.size = w.heap.size + 2) := fun x => by simpa [World.setCell] using hs
          have hsc := fun w => Scale_any (M.mst (fun i => F i k) q) w
          have HE : Hid ((M.sc (M.mst (fun i => F i k) q) : Int) = M.scl F q k) := rfl
          clear ht hb hs hm
          generalize (M.sc (M.mst (fun i => F i k) q) : Int) = y at *
          generalize M.mst (fun i => F i k) q = p at *
          go_wp2_with (go_at_call 159; refine (hsc _).mono ?_; rintro e w' ⟨rfl, rfl⟩)
          go_roundw
          case rel => exact ⟨k + 1, by omega, by go_num, HM2.out _, HSt.out _ HE.out, HB.out _, HS.out _⟩
          case measure => simp [intOf]; omega
        · obtain rfl : k = C := by omega
          have HT : Hid (Tb (w.heap.size + 1) 3 .i64 k (M.scl F q) _) := ht.ext fun j hj => (if_pos hj).symm
          have HB : Hid (Below w.heap.size w _) := hb
          have HS : Hid (_ = w.heap.size + 2) := hs
          clear ht hb hs hm
          go_wp2
          go_ret
          exact ⟨rfl, HB.out, HT.out, HS.out⟩

end Qnt
end Go.Proofs.YtcaifpjbjghhaaaGreatDoor

