import Derived.Test.YtcaifpjbjghhaaaGreatDoorSubA34
/-
  All of a frame's fields: contracts of fields and takeAll over any taker. Conditions: as told at each.
-/
namespace Go.Proofs.YtcaifpjbjghhaaaGreatDoor
set_option linter.unusedVariables false
open Go.RowKit Go.Shelf
namespace Sub
open Bank (Blk But)
open Poly (Reads cell_keep alloc_size enc enc_get)
open _root_.Go.Proofs.YtcaifpjbjghhaaaGreatDoor.Form (fv fc bel1 Says box_cells box_behind blk_below of_drew)

theorem wrap_id (n : Int) (h0 : -9223372036854775808 ≤ n) (h1 : n ≤ 9223372036854775807) : IntKind.i64.wrap n = n := by rw [IntKind.wrap_i64]; omega
theorem kn_drew {z k : Int} {w w' : World} (h : Kn z k w.drew w') : Kn z k w w' := ⟨⟨h.bel.os, h.bel.tape, h.bel.output, h.bel.size, h.bel.block⟩, h.size, h.num, h.wid⟩

/-- the numbers that a format alone tells, and their bits -/
def hz (f : M.Fmt) : Nat → Int
  | 0 => 156
  | 1 => f.r
  | 2 => f.k / 4 - 1
  | 3 => 2 * (f.h - 1) + f.j
  | 4 => f.m
  | 5 => f.b / 8
  | 6 => f.p
  | _ => 0
def hk : Nat → Nat
  | 0 => 8
  | 1 => 2
  | 2 => 2
  | 3 => 2
  | 4 => 1
  | 5 => 1
  | 6 => 8
  | _ => 8
def kf (g : Nat) : Value := .func (.func 209) #[] #[.pointer (some ⟨g, 0, none⟩), .pointer (some ⟨g + 1, 0, none⟩)]
/-- the fields: F the format's box, behind it the parameters', then numbers and bits -/
def fl (F : Nat) : Array Value := #[kf (F + 2), kf (F + 4), kf (F + 6), kf (F + 8), kf (F + 10), kf (F + 12), kf (F + 14), kf (F + 16), .func (.func 176) #[] #[.pointer (some ⟨F, 0, none⟩), .pointer (some ⟨F + 1, 0, none⟩)],
  .func (.func 178) #[] #[.pointer (some ⟨F + 1, 0, none⟩)], .func (.func 179) #[] #[.pointer (some ⟨F, 0, none⟩), .pointer (some ⟨F + 1, 0, none⟩)]]
structure Fds (f : M.Fmt) (vj vs vc : Value) (w w' : World) : Prop where
  bel : Below w.heap.size w w'
  size : w'.heap.size = w.heap.size + 19
  fb : Blk w' w.heap.size (fc f) 23
  pb : Blk w' (w.heap.size + 1) #[vj, vs, vc] 33
  num : ∀ i, i < 8 → Blk w' (w.heap.size + 2 + 2 * i) #[.int .i64 (hz f i)] 3
  wid : ∀ i, i < 8 → Blk w' (w.heap.size + 2 + 2 * i + 1) #[.int .i64 (hk i : Int)] 3
  list : Blk w' (w.heap.size + 18) (fl w.heap.size) 221

set_option maxRecDepth 100000 in
set_option maxHeartbeats 2000000 in
theorem fields_any (f : M.Fmt) (C B N : Nat) (vj vs vc : Value) (w : World) (hC : f.h = C) (hB : f.b = B) (hN : f.k = N) (C2 : C = 1 ∨ C = 2) (B8 : B = 4 ∨ B = 8) (N16 : N = 4 ∨ N = 8 ∨ N = 12 ∨ N = 16) (hj : 0 ≤ f.j ∧ f.j ≤ 1) :
    Calls Tryz.prog 131 #[fv f, pa vj vs vc] w fun e w' => e = .returned (.slice (some ⟨w.heap.size + 18, 0, none⟩) 11 11) ∧ Fds f vj vs vc w w' := by
  obtain ⟨W1, hW1⟩ : ∃ W1, (w.alloc (.cells (fc f) 23)).alloc (.cells #[vj, vs, vc] 33) = W1 := ⟨_, rfl⟩
  have hb0 : Below w.heap.size w W1 := by rw [← hW1]; exact (bel1 _ _).alloc (bel1 _ _).size _
  have hf1 : Blk W1 w.heap.size (fc f) 23 := by rw [← hW1]; exact (Blk.new w _ _).alloc _
  have hs1 : W1.heap.size = w.heap.size + 2 := by rw [← hW1]; simp
  have hp1 : Blk W1 (w.heap.size + 1) #[vj, vs, vc] 33 := by
    rw [← hW1]
    have := Blk.new (w.alloc (.cells (fc f) 23)) #[vj, vs, vc] 33
    rw [alloc_size] at this
    exact this
  obtain ⟨c_, r_, h_, b_, k_, m_, j_, p_, l_, y_⟩ := f
  obtain rfl : h_ = C := hC
  obtain rfl : b_ = B := hB
  obtain rfl : k_ = N := hN
  have hce : ∀ wx, Below W1.heap.size W1 wx → wx.cell? ⟨w.heap.size, 1, none⟩ = some (.int .i64 r_) ∧ wx.cell? ⟨w.heap.size, 2, none⟩ = some (.int .i64 (C : Int)) ∧ wx.cell? ⟨w.heap.size, 3, none⟩ = some (.int .i64 (B : Int)) ∧ wx.cell? ⟨w.heap.size, 4, none⟩ = some (.int .i64 (N : Int)) ∧ wx.cell? ⟨w.heap.size, 5, none⟩ = some (.int .i64 m_) ∧ wx.cell? ⟨w.heap.size, 6, none⟩ = some (.int .i64 j_) ∧ wx.cell? ⟨w.heap.size, 7, none⟩ = some (.int .i64 p_) := fun wx hb => by
    have h := blk_below hb hf1 hf1.lt
    exact ⟨h.cell rfl, h.cell rfl, h.cell rfl, h.cell rfl, h.cell rfl, h.cell rfl, h.cell rfl⟩
  have HCe : Hid _ := hce
  have HBa : Hid (∀ wa wb : World, Below W1.heap.size W1 wa → Below wa.heap.size wa wb → Below W1.heap.size W1 wb) := fun wa wb h k => h.trans (k.mono h.size)
  have HB0 : Hid (Below W1.heap.size W1 W1.drew) := ⟨rfl, rfl, rfl, Nat.le_refl _, fun _ _ => rfl⟩
  have HCd : Hid _ := hce W1.drew HB0.out
  clear hce
  unfold fv pa
  unfold fc at hW1
  dsimp only at hW1 ⊢
  have n0 : (0 : Int) ≤ N := by omega
  have b0 : (0 : Int) ≤ B := by omega
  have n1 : (N : Int) ≤ 16 := by omega
  have b1 : (B : Int) ≤ 8 := by omega
  have c0 : (1 : Int) ≤ C := by omega
  have c1 : (C : Int) ≤ 2 := by omega
  go_enter Tryz.func131, Tryz.ntmps131
  go_wp2
  try rw [hW1]
  clear hW1
  refine wp_region_held_drew (S := fun wx => wx.cell? ⟨w.heap.size, 1, none⟩ = some (.int .i64 r_) ∧ wx.cell? ⟨w.heap.size, 2, none⟩ = some (.int .i64 (C : Int)) ∧ wx.cell? ⟨w.heap.size, 3, none⟩ = some (.int .i64 (B : Int)) ∧ wx.cell? ⟨w.heap.size, 4, none⟩ = some (.int .i64 (N : Int)) ∧ wx.cell? ⟨w.heap.size, 5, none⟩ = some (.int .i64 m_) ∧ wx.cell? ⟨w.heap.size, 6, none⟩ = some (.int .i64 j_) ∧ wx.cell? ⟨w.heap.size, 7, none⟩ = some (.int .i64 p_)) (by kernel_rfl) HCd.out (fun _ => ?_)
  refine wpAnyH_take (i := 28) (oi := ⟨some 33, _, _, _, _, _⟩) (v := ?_) rfl (by kernel_rfl) (by kernel_rfl) (by kernel_rfl) (fun _ _ _ h => h) (Or.inl ⟨by rfl, ?_⟩) HCd.out ?_
  rotate_left
  · intro wx hx; obtain ⟨s1, s2, s3, s4, s5, s6, s7⟩ := hx; go_simp; try with_reducible rfl
  simp only [Act.put, List.setIfInBounds_toArray, List.set_cons_zero, List.set_cons_succ]
  refine wpAnyH_take (i := 29) (oi := ⟨some 34, _, _, _, _, _⟩) (v := ?_) rfl (by kernel_rfl) (by kernel_rfl) (by kernel_rfl) (fun _ _ _ h => h) (Or.inl ⟨by rfl, ?_⟩) HCd.out ?_
  rotate_left
  · intro wx hx; obtain ⟨s1, s2, s3, s4, s5, s6, s7⟩ := hx; go_simp; try with_reducible rfl
  simp only [Act.put, List.setIfInBounds_toArray, List.set_cons_zero, List.set_cons_succ]
  refine wpAnyH_take (i := 30) (oi := ⟨some 35, _, _, _, _, _⟩) (v := ?_) rfl (by kernel_rfl) (by kernel_rfl) (by kernel_rfl) (fun _ _ _ h => h) (Or.inl ⟨by rfl, ?_⟩) HCd.out ?_
  rotate_left
  · intro wx hx; obtain ⟨s1, s2, s3, s4, s5, s6, s7⟩ := hx; go_simp; try with_reducible rfl
  simp only [Act.put, List.setIfInBounds_toArray, List.set_cons_zero, List.set_cons_succ]
  refine wpAnyH_take (i := 1) (oi := ⟨some 6, _, _, _, _, _⟩) (v := ?_) rfl (by kernel_rfl) (by kernel_rfl) (by kernel_rfl) (fun _ _ _ h => h) (Or.inl ⟨by rfl, ?_⟩) HCd.out ?_
  rotate_left
  · intro wx hx; obtain ⟨s1, s2, s3, s4, s5, s6, s7⟩ := hx; go_simp; try with_reducible rfl
  simp only [Act.put, List.setIfInBounds_toArray, List.set_cons_zero, List.set_cons_succ]
  refine wpAnyH_take (i := 2) (oi := ⟨some 7, _, _, _, _, _⟩) (v := ?_) rfl (by kernel_rfl) (by kernel_rfl) (by kernel_rfl) (fun _ _ _ h => h) (Or.inl ⟨by rfl, ?_⟩) HCd.out ?_
  rotate_left
  · intro wx hx; obtain ⟨s1, s2, s3, s4, s5, s6, s7⟩ := hx; go_simp; try with_reducible rfl
  simp only [Act.put, List.setIfInBounds_toArray, List.set_cons_zero, List.set_cons_succ]
  refine wpAnyH_take (i := 4) (oi := ⟨some 9, _, _, _, _, _⟩) (v := ?_) rfl (by kernel_rfl) (by kernel_rfl) (by kernel_rfl) (fun _ _ _ h => h) (Or.inl ⟨by rfl, ?_⟩) HCd.out ?_
  rotate_left
  · intro wx hx; obtain ⟨s1, s2, s3, s4, s5, s6, s7⟩ := hx; go_simp; try with_reducible rfl
  simp only [Act.put, List.setIfInBounds_toArray, List.set_cons_zero, List.set_cons_succ]
  refine wpAnyH_take (i := 5) (oi := ⟨some 10, _, _, _, _, _⟩) (v := ?_) rfl (by kernel_rfl) (by kernel_rfl) (by kernel_rfl) (fun _ _ _ h => h) (Or.inl ⟨by rfl, ?_⟩) HCd.out ?_
  rotate_left
  · intro wx hx; obtain ⟨s1, s2, s3, s4, s5, s6, s7⟩ := hx; go_simp; try with_reducible rfl
  simp only [Act.put, List.setIfInBounds_toArray, List.set_cons_zero, List.set_cons_succ]
  refine wpAnyH_take (i := 6) (oi := ⟨some 11, _, _, _, _, _⟩) (v := ?_) rfl (by kernel_rfl) (by kernel_rfl) (by kernel_rfl) (fun _ _ _ h => h) (Or.inl ⟨by rfl, ?_⟩) HCd.out ?_
  rotate_left
  · intro wx hx; obtain ⟨s1, s2, s3, s4, s5, s6, s7⟩ := hx; go_simp; try with_reducible rfl
  simp only [Act.put, List.setIfInBounds_toArray, List.set_cons_zero, List.set_cons_succ]
  refine wpAnyH_take (i := 7) (oi := ⟨some 12, _, _, _, _, _⟩) (v := ?_) rfl (by kernel_rfl) (by kernel_rfl) (by kernel_rfl) (fun _ _ _ h => h) (Or.inl ⟨by rfl, ?_⟩) HCd.out ?_
  rotate_left
  · intro wx hx; obtain ⟨s1, s2, s3, s4, s5, s6, s7⟩ := hx; go_simp; try with_reducible rfl
  simp only [Act.put, List.setIfInBounds_toArray, List.set_cons_zero, List.set_cons_succ]
  refine wpAnyH_take (i := 9) (oi := ⟨some 14, _, _, _, _, _⟩) (v := ?_) rfl (by kernel_rfl) (by kernel_rfl) (by kernel_rfl) (fun _ _ _ h => h) (Or.inl ⟨by rfl, ?_⟩) HCd.out ?_
  rotate_left
  · intro wx hx; obtain ⟨s1, s2, s3, s4, s5, s6, s7⟩ := hx; go_simp; try with_reducible rfl
  simp only [Act.put, List.setIfInBounds_toArray, List.set_cons_zero, List.set_cons_succ]
  refine wpAnyH_take (i := 10) (oi := ⟨some 15, _, _, _, _, _⟩) (v := ?_) rfl (by kernel_rfl) (by kernel_rfl) (by kernel_rfl) (fun _ _ _ h => h) (Or.inl ⟨by rfl, ?_⟩) HCd.out ?_
  rotate_left
  · intro wx hx; obtain ⟨s1, s2, s3, s4, s5, s6, s7⟩ := hx; go_simp; try with_reducible rfl
  simp only [Act.put, List.setIfInBounds_toArray, List.set_cons_zero, List.set_cons_succ]
  refine wpAnyH_take (i := 11) (oi := ⟨some 16, _, _, _, _, _⟩) (v := ?_) rfl (by kernel_rfl) (by kernel_rfl) (by kernel_rfl) (fun _ _ _ h => h) (Or.inl ⟨by rfl, ?_⟩) HCd.out ?_
  rotate_left
  · intro wx hx; obtain ⟨s1, s2, s3, s4, s5, s6, s7⟩ := hx; go_simp; try with_reducible rfl
  simp only [Act.put, List.setIfInBounds_toArray, List.set_cons_zero, List.set_cons_succ]
  refine wpAnyH_take (i := 12) (oi := ⟨some 17, _, _, _, _, _⟩) (v := ?_) rfl (by kernel_rfl) (by kernel_rfl) (by kernel_rfl) (fun _ _ _ h => h) (Or.inl ⟨by rfl, ?_⟩) HCd.out ?_
  rotate_left
  · intro wx hx; obtain ⟨s1, s2, s3, s4, s5, s6, s7⟩ := hx; go_simp; try with_reducible rfl
  simp only [Act.put, List.setIfInBounds_toArray, List.set_cons_zero, List.set_cons_succ]
  refine wpAnyH_take (i := 13) (oi := ⟨some 18, _, _, _, _, _⟩) (v := ?_) rfl (by kernel_rfl) (by kernel_rfl) (by kernel_rfl) (fun _ _ _ h => h) (Or.inl ⟨by rfl, ?_⟩) HCd.out ?_
  rotate_left
  · intro wx hx; obtain ⟨s1, s2, s3, s4, s5, s6, s7⟩ := hx; go_simp; try with_reducible rfl
  simp only [Act.put, List.setIfInBounds_toArray, List.set_cons_zero, List.set_cons_succ]
  refine wpAnyH_take (i := 14) (oi := ⟨some 19, _, _, _, _, _⟩) (v := ?_) rfl (by kernel_rfl) (by kernel_rfl) (by kernel_rfl) (fun _ _ _ h => h) (Or.inl ⟨by rfl, ?_⟩) HCd.out ?_
  rotate_left
  · intro wx hx; obtain ⟨s1, s2, s3, s4, s5, s6, s7⟩ := hx; go_simp; try with_reducible rfl
  simp only [Act.put, List.setIfInBounds_toArray, List.set_cons_zero, List.set_cons_succ]
  refine wpAnyH_take (i := 15) (oi := ⟨some 20, _, _, _, _, _⟩) (v := ?_) rfl (by kernel_rfl) (by kernel_rfl) (by kernel_rfl) (fun _ _ _ h => h) (Or.inl ⟨by rfl, ?_⟩) HCd.out ?_
  rotate_left
  · intro wx hx; obtain ⟨s1, s2, s3, s4, s5, s6, s7⟩ := hx; go_simp; try with_reducible rfl
  simp only [Act.put, List.setIfInBounds_toArray, List.set_cons_zero, List.set_cons_succ]
  refine wpAnyH_take (i := 17) (oi := ⟨some 22, _, _, _, _, _⟩) (v := ?_) rfl (by kernel_rfl) (by kernel_rfl) (by kernel_rfl) (fun _ _ _ h => h) (Or.inl ⟨by rfl, ?_⟩) HCd.out ?_
  rotate_left
  · intro wx hx; obtain ⟨s1, s2, s3, s4, s5, s6, s7⟩ := hx; go_simp; try with_reducible rfl
  simp only [Act.put, List.setIfInBounds_toArray, List.set_cons_zero, List.set_cons_succ]
  refine wpAnyH_take (i := 18) (oi := ⟨some 23, _, _, _, _, _⟩) (v := ?_) rfl (by kernel_rfl) (by kernel_rfl) (by kernel_rfl) (fun _ _ _ h => h) (Or.inl ⟨by rfl, ?_⟩) HCd.out ?_
  rotate_left
  · intro wx hx; obtain ⟨s1, s2, s3, s4, s5, s6, s7⟩ := hx; go_simp; try with_reducible rfl
  simp only [Act.put, List.setIfInBounds_toArray, List.set_cons_zero, List.set_cons_succ]
  refine wpAnyH_take (i := 20) (oi := ⟨some 25, _, _, _, _, _⟩) (v := ?_) rfl (by kernel_rfl) (by kernel_rfl) (by kernel_rfl) (fun _ _ _ h => h) (Or.inl ⟨by rfl, ?_⟩) HCd.out ?_
  rotate_left
  · intro wx hx; obtain ⟨s1, s2, s3, s4, s5, s6, s7⟩ := hx; go_simp; try with_reducible rfl
  simp only [Act.put, List.setIfInBounds_toArray, List.set_cons_zero, List.set_cons_succ]
  refine wpAnyH_take (i := 21) (oi := ⟨some 26, _, _, _, _, _⟩) (v := ?_) rfl (by kernel_rfl) (by kernel_rfl) (by kernel_rfl) (fun _ _ _ h => h) (Or.inl ⟨by rfl, ?_⟩) HCd.out ?_
  rotate_left
  · intro wx hx; obtain ⟨s1, s2, s3, s4, s5, s6, s7⟩ := hx; go_simp; try with_reducible rfl
  simp only [Act.put, List.setIfInBounds_toArray, List.set_cons_zero, List.set_cons_succ]
  refine wpAnyH_take (i := 22) (oi := ⟨some 27, _, _, _, _, _⟩) (v := ?_) rfl (by kernel_rfl) (by kernel_rfl) (by kernel_rfl) (fun _ _ _ h => h) (Or.inl ⟨by rfl, ?_⟩) HCd.out ?_
  rotate_left
  · intro wx hx; obtain ⟨s1, s2, s3, s4, s5, s6, s7⟩ := hx; go_simp; try with_reducible rfl
  simp only [Act.put, List.setIfInBounds_toArray, List.set_cons_zero, List.set_cons_succ]
  refine wpAnyH_take (i := 24) (oi := ⟨some 29, _, _, _, _, _⟩) (v := ?_) rfl (by kernel_rfl) (by kernel_rfl) (by kernel_rfl) (fun _ _ _ h => h) (Or.inl ⟨by rfl, ?_⟩) HCd.out ?_
  rotate_left
  · intro wx hx; obtain ⟨s1, s2, s3, s4, s5, s6, s7⟩ := hx; go_simp; try with_reducible rfl
  simp only [Act.put, List.setIfInBounds_toArray, List.set_cons_zero, List.set_cons_succ]
  refine wpAnyH_take (i := 25) (oi := ⟨some 30, _, _, _, _, _⟩) (v := ?_) rfl (by kernel_rfl) (by kernel_rfl) (by kernel_rfl) (fun _ _ _ h => h) (Or.inl ⟨by rfl, ?_⟩) HCd.out ?_
  rotate_left
  · intro wx hx; obtain ⟨s1, s2, s3, s4, s5, s6, s7⟩ := hx; go_simp; try with_reducible rfl
  simp only [Act.put, List.setIfInBounds_toArray, List.set_cons_zero, List.set_cons_succ]
  refine wpAnyH_ready (rs := [0]) (by kernel_rfl) (by simp) ?_
  refine AllReadyH.cons (o := ⟨some 5, _, _, _, _, _⟩) rfl (fun K' hK' => ?_) AllReadyH.nil
  go_simp
  refine (known_any _ _ _).mono ?_
  rintro e w2 ⟨rfl, kn⟩
  have K0 : Hid (Kn _ _ W1 w2) := kn_drew kn
  clear kn
  have B1 : Hid (Below W1.heap.size W1 w2) := HBa.out W1 w2 (Below.refl _ _) K0.out.bel
  have C1 : Hid (w2.cell? ⟨w.heap.size, 1, none⟩ = some (.int .i64 r_) ∧ w2.cell? ⟨w.heap.size, 2, none⟩ = some (.int .i64 (C : Int)) ∧ w2.cell? ⟨w.heap.size, 3, none⟩ = some (.int .i64 (B : Int)) ∧ w2.cell? ⟨w.heap.size, 4, none⟩ = some (.int .i64 (N : Int)) ∧ w2.cell? ⟨w.heap.size, 5, none⟩ = some (.int .i64 m_) ∧ w2.cell? ⟨w.heap.size, 6, none⟩ = some (.int .i64 j_) ∧ w2.cell? ⟨w.heap.size, 7, none⟩ = some (.int .i64 p_)) := HCe.out w2 B1.out
  refine hK'.out _ _ C1.out (fun _ => ?_)
  clear hK' K'
  try simp only [Act.put, List.setIfInBounds_toArray, List.set_cons_zero, List.set_cons_succ]
  refine wpAnyH_ready (rs := [3]) (by kernel_rfl) (by simp) ?_
  refine AllReadyH.cons (o := ⟨some 8, _, _, _, _, _⟩) rfl (fun K' hK' => ?_) AllReadyH.nil
  go_simp
  refine (known_any _ _ _).mono ?_
  rintro e w3 ⟨rfl, kn⟩
  have K1 : Hid (Kn _ _ w2 w3) := kn
  clear kn
  have B2 : Hid (Below W1.heap.size W1 w3) := HBa.out w2 w3 B1.out K1.out.bel
  have C2 : Hid (w3.cell? ⟨w.heap.size, 1, none⟩ = some (.int .i64 r_) ∧ w3.cell? ⟨w.heap.size, 2, none⟩ = some (.int .i64 (C : Int)) ∧ w3.cell? ⟨w.heap.size, 3, none⟩ = some (.int .i64 (B : Int)) ∧ w3.cell? ⟨w.heap.size, 4, none⟩ = some (.int .i64 (N : Int)) ∧ w3.cell? ⟨w.heap.size, 5, none⟩ = some (.int .i64 m_) ∧ w3.cell? ⟨w.heap.size, 6, none⟩ = some (.int .i64 j_) ∧ w3.cell? ⟨w.heap.size, 7, none⟩ = some (.int .i64 p_)) := HCe.out w3 B2.out
  refine hK'.out _ _ C2.out (fun _ => ?_)
  clear hK' K'
  try simp only [Act.put, List.setIfInBounds_toArray, List.set_cons_zero, List.set_cons_succ]
  refine wpAnyH_ready (rs := [8]) (by kernel_rfl) (by simp) ?_
  refine AllReadyH.cons (o := ⟨some 13, _, _, _, _, _⟩) rfl (fun K' hK' => ?_) AllReadyH.nil
  go_simp
  refine (known_any _ _ _).mono ?_
  rintro e w4 ⟨rfl, kn⟩
  have K2 : Hid (Kn _ _ w3 w4) := kn
  clear kn
  have B3 : Hid (Below W1.heap.size W1 w4) := HBa.out w3 w4 B2.out K2.out.bel
  have C3 : Hid (w4.cell? ⟨w.heap.size, 1, none⟩ = some (.int .i64 r_) ∧ w4.cell? ⟨w.heap.size, 2, none⟩ = some (.int .i64 (C : Int)) ∧ w4.cell? ⟨w.heap.size, 3, none⟩ = some (.int .i64 (B : Int)) ∧ w4.cell? ⟨w.heap.size, 4, none⟩ = some (.int .i64 (N : Int)) ∧ w4.cell? ⟨w.heap.size, 5, none⟩ = some (.int .i64 m_) ∧ w4.cell? ⟨w.heap.size, 6, none⟩ = some (.int .i64 j_) ∧ w4.cell? ⟨w.heap.size, 7, none⟩ = some (.int .i64 p_)) := HCe.out w4 B3.out
  refine hK'.out _ _ C3.out (fun _ => ?_)
  clear hK' K'
  try simp only [Act.put, List.setIfInBounds_toArray, List.set_cons_zero, List.set_cons_succ]
  refine wpAnyH_ready (rs := [16]) (by kernel_rfl) (by simp) ?_
  refine AllReadyH.cons (o := ⟨some 21, _, _, _, _, _⟩) rfl (fun K' hK' => ?_) AllReadyH.nil
  go_simp
  refine (known_any _ _ _).mono ?_
  rintro e w5 ⟨rfl, kn⟩
  have K3 : Hid (Kn _ _ w4 w5) := kn
  clear kn
  have B4 : Hid (Below W1.heap.size W1 w5) := HBa.out w4 w5 B3.out K3.out.bel
  have C4 : Hid (w5.cell? ⟨w.heap.size, 1, none⟩ = some (.int .i64 r_) ∧ w5.cell? ⟨w.heap.size, 2, none⟩ = some (.int .i64 (C : Int)) ∧ w5.cell? ⟨w.heap.size, 3, none⟩ = some (.int .i64 (B : Int)) ∧ w5.cell? ⟨w.heap.size, 4, none⟩ = some (.int .i64 (N : Int)) ∧ w5.cell? ⟨w.heap.size, 5, none⟩ = some (.int .i64 m_) ∧ w5.cell? ⟨w.heap.size, 6, none⟩ = some (.int .i64 j_) ∧ w5.cell? ⟨w.heap.size, 7, none⟩ = some (.int .i64 p_)) := HCe.out w5 B4.out
  refine hK'.out _ _ C4.out (fun _ => ?_)
  clear hK' K'
  try simp only [Act.put, List.setIfInBounds_toArray, List.set_cons_zero, List.set_cons_succ]
  refine wpAnyH_ready (rs := [19]) (by kernel_rfl) (by simp) ?_
  refine AllReadyH.cons (o := ⟨some 24, _, _, _, _, _⟩) rfl (fun K' hK' => ?_) AllReadyH.nil
  go_simp
  refine (known_any _ _ _).mono ?_
  rintro e w6 ⟨rfl, kn⟩
  have K4 : Hid (Kn _ _ w5 w6) := kn
  clear kn
  have B5 : Hid (Below W1.heap.size W1 w6) := HBa.out w5 w6 B4.out K4.out.bel
  have C5 : Hid (w6.cell? ⟨w.heap.size, 1, none⟩ = some (.int .i64 r_) ∧ w6.cell? ⟨w.heap.size, 2, none⟩ = some (.int .i64 (C : Int)) ∧ w6.cell? ⟨w.heap.size, 3, none⟩ = some (.int .i64 (B : Int)) ∧ w6.cell? ⟨w.heap.size, 4, none⟩ = some (.int .i64 (N : Int)) ∧ w6.cell? ⟨w.heap.size, 5, none⟩ = some (.int .i64 m_) ∧ w6.cell? ⟨w.heap.size, 6, none⟩ = some (.int .i64 j_) ∧ w6.cell? ⟨w.heap.size, 7, none⟩ = some (.int .i64 p_)) := HCe.out w6 B5.out
  refine hK'.out _ _ C5.out (fun _ => ?_)
  clear hK' K'
  try simp only [Act.put, List.setIfInBounds_toArray, List.set_cons_zero, List.set_cons_succ]
  refine wpAnyH_ready (rs := [23]) (by kernel_rfl) (by simp) ?_
  refine AllReadyH.cons (o := ⟨some 28, _, _, _, _, _⟩) rfl (fun K' hK' => ?_) AllReadyH.nil
  go_simp
  refine (known_any _ _ _).mono ?_
  rintro e w7 ⟨rfl, kn⟩
  have K5 : Hid (Kn _ _ w6 w7) := kn
  clear kn
  have B6 : Hid (Below W1.heap.size W1 w7) := HBa.out w6 w7 B5.out K5.out.bel
  have C6 : Hid (w7.cell? ⟨w.heap.size, 1, none⟩ = some (.int .i64 r_) ∧ w7.cell? ⟨w.heap.size, 2, none⟩ = some (.int .i64 (C : Int)) ∧ w7.cell? ⟨w.heap.size, 3, none⟩ = some (.int .i64 (B : Int)) ∧ w7.cell? ⟨w.heap.size, 4, none⟩ = some (.int .i64 (N : Int)) ∧ w7.cell? ⟨w.heap.size, 5, none⟩ = some (.int .i64 m_) ∧ w7.cell? ⟨w.heap.size, 6, none⟩ = some (.int .i64 j_) ∧ w7.cell? ⟨w.heap.size, 7, none⟩ = some (.int .i64 p_)) := HCe.out w7 B6.out
  refine hK'.out _ _ C6.out (fun _ => ?_)
  clear hK' K'
  try simp only [Act.put, List.setIfInBounds_toArray, List.set_cons_zero, List.set_cons_succ]
  refine wpAnyH_ready (rs := [26]) (by kernel_rfl) (by simp) ?_
  refine AllReadyH.cons (o := ⟨some 31, _, _, _, _, _⟩) rfl (fun K' hK' => ?_) AllReadyH.nil
  go_simp
  refine (known_any _ _ _).mono ?_
  rintro e w8 ⟨rfl, kn⟩
  have K6 : Hid (Kn _ _ w7 w8) := kn
  clear kn
  have B7 : Hid (Below W1.heap.size W1 w8) := HBa.out w7 w8 B6.out K6.out.bel
  have C7 : Hid (w8.cell? ⟨w.heap.size, 1, none⟩ = some (.int .i64 r_) ∧ w8.cell? ⟨w.heap.size, 2, none⟩ = some (.int .i64 (C : Int)) ∧ w8.cell? ⟨w.heap.size, 3, none⟩ = some (.int .i64 (B : Int)) ∧ w8.cell? ⟨w.heap.size, 4, none⟩ = some (.int .i64 (N : Int)) ∧ w8.cell? ⟨w.heap.size, 5, none⟩ = some (.int .i64 m_) ∧ w8.cell? ⟨w.heap.size, 6, none⟩ = some (.int .i64 j_) ∧ w8.cell? ⟨w.heap.size, 7, none⟩ = some (.int .i64 p_)) := HCe.out w8 B7.out
  refine hK'.out _ _ C7.out (fun _ => ?_)
  clear hK' K'
  try simp only [Act.put, List.setIfInBounds_toArray, List.set_cons_zero, List.set_cons_succ]
  refine wpAnyH_ready (rs := [27]) (by kernel_rfl) (by simp) ?_
  refine AllReadyH.cons (o := ⟨some 32, _, _, _, _, _⟩) rfl (fun K' hK' => ?_) AllReadyH.nil
  go_simp
  refine (known_any _ _ _).mono ?_
  rintro e w9 ⟨rfl, kn⟩
  have K7 : Hid (Kn _ _ w8 w9) := kn
  clear kn
  have B8 : Hid (Below W1.heap.size W1 w9) := HBa.out w8 w9 B7.out K7.out.bel
  have C8 : Hid (w9.cell? ⟨w.heap.size, 1, none⟩ = some (.int .i64 r_) ∧ w9.cell? ⟨w.heap.size, 2, none⟩ = some (.int .i64 (C : Int)) ∧ w9.cell? ⟨w.heap.size, 3, none⟩ = some (.int .i64 (B : Int)) ∧ w9.cell? ⟨w.heap.size, 4, none⟩ = some (.int .i64 (N : Int)) ∧ w9.cell? ⟨w.heap.size, 5, none⟩ = some (.int .i64 m_) ∧ w9.cell? ⟨w.heap.size, 6, none⟩ = some (.int .i64 j_) ∧ w9.cell? ⟨w.heap.size, 7, none⟩ = some (.int .i64 p_)) := HCe.out w9 B8.out
  refine hK'.out _ _ C8.out (fun _ => ?_)
  clear hK' K'
  try simp only [Act.put, List.setIfInBounds_toArray, List.set_cons_zero, List.set_cons_succ]
  refine wpAnyH_ready (rs := [31]) (by kernel_rfl) (by simp) ?_
  refine AllReadyH.cons (o := ⟨some 36, _, _, _, _, _⟩) rfl (fun K' hK' => ?_) AllReadyH.nil
  go_simp
  have C9 : Hid (∀ o, (w9.alloc o).cell? ⟨w.heap.size, 1, none⟩ = some (.int .i64 r_) ∧ (w9.alloc o).cell? ⟨w.heap.size, 2, none⟩ = some (.int .i64 (C : Int)) ∧ (w9.alloc o).cell? ⟨w.heap.size, 3, none⟩ = some (.int .i64 (B : Int)) ∧ (w9.alloc o).cell? ⟨w.heap.size, 4, none⟩ = some (.int .i64 (N : Int)) ∧ (w9.alloc o).cell? ⟨w.heap.size, 5, none⟩ = some (.int .i64 m_) ∧ (w9.alloc o).cell? ⟨w.heap.size, 6, none⟩ = some (.int .i64 j_) ∧ (w9.alloc o).cell? ⟨w.heap.size, 7, none⟩ = some (.int .i64 p_)) := fun o => HCe.out _ (B8.out.alloc B8.out.size o)
  refine hK'.out _ _ (C9.out _) (fun _ => ?_)
  clear hK' K'
  try simp only [Act.put, List.setIfInBounds_toArray, List.set_cons_zero, List.set_cons_succ]
  refine wpAnyH_take (i := 32) (oi := ⟨some 4, _, _, _, _, _⟩) (v := ?_) rfl (by kernel_rfl) (by kernel_rfl) (by kernel_rfl) (fun _ _ _ h => h) (Or.inl ⟨by rfl, ?_⟩) (C9.out _) ?_
  rotate_left
  · intro wx hx; obtain ⟨s1, s2, s3, s4, s5, s6, s7⟩ := hx; go_simp; try with_reducible rfl
  simp only [Act.put, List.setIfInBounds_toArray, List.set_cons_zero, List.set_cons_succ]
  refine wpAnyH_done (by kernel_rfl) ?_ _
  clear C1 C2 C3 C4 C5 C6 C7 C8 C9 HCd HCe HBa
  go_wp2
  clear HB0 n0 b0 c0 n1 b1 c1
  have q9 : Below w9.heap.size w9 w9 := Below.refl _ _
  have q8 : Below w8.heap.size w8 w9 := K7.out.bel.trans (q9.mono K7.out.bel.size)
  have q7 : Below w7.heap.size w7 w9 := K6.out.bel.trans (q8.mono K6.out.bel.size)
  have q6 : Below w6.heap.size w6 w9 := K5.out.bel.trans (q7.mono K5.out.bel.size)
  have q5 : Below w5.heap.size w5 w9 := K4.out.bel.trans (q6.mono K4.out.bel.size)
  have q4 : Below w4.heap.size w4 w9 := K3.out.bel.trans (q5.mono K3.out.bel.size)
  have q3 : Below w3.heap.size w3 w9 := K2.out.bel.trans (q4.mono K2.out.bel.size)
  have q2 : Below w2.heap.size w2 w9 := K1.out.bel.trans (q3.mono K1.out.bel.size)
  have q1 : Below W1.heap.size W1 w9 := K0.out.bel.trans (q2.mono K0.out.bel.size)
  have e2 : w2.heap.size = w.heap.size + 4 := by have := K0.out.size; omega
  have e3 : w3.heap.size = w.heap.size + 6 := by have := K1.out.size; omega
  have e4 : w4.heap.size = w.heap.size + 8 := by have := K2.out.size; omega
  have e5 : w5.heap.size = w.heap.size + 10 := by have := K3.out.size; omega
  have e6 : w6.heap.size = w.heap.size + 12 := by have := K4.out.size; omega
  have e7 : w7.heap.size = w.heap.size + 14 := by have := K5.out.size; omega
  have e8 : w8.heap.size = w.heap.size + 16 := by have := K6.out.size; omega
  have e9 : w9.heap.size = w.heap.size + 18 := by have := K7.out.size; omega
  have d0 := blk_below q2 K0.out.num K0.out.num.lt
  have f0 := blk_below q2 K0.out.wid K0.out.wid.lt
  rw [hs1] at d0 f0
  have d1 := blk_below q3 K1.out.num K1.out.num.lt
  have f1 := blk_below q3 K1.out.wid K1.out.wid.lt
  rw [e2] at d1 f1
  have d2 := blk_below q4 K2.out.num K2.out.num.lt
  have f2 := blk_below q4 K2.out.wid K2.out.wid.lt
  rw [e3] at d2 f2
  have d3 := blk_below q5 K3.out.num K3.out.num.lt
  have f3 := blk_below q5 K3.out.wid K3.out.wid.lt
  rw [e4] at d3 f3
  have d4 := blk_below q6 K4.out.num K4.out.num.lt
  have f4 := blk_below q6 K4.out.wid K4.out.wid.lt
  rw [e5] at d4 f4
  have d5 := blk_below q7 K5.out.num K5.out.num.lt
  have f5 := blk_below q7 K5.out.wid K5.out.wid.lt
  rw [e6] at d5 f5
  have d6 := blk_below q8 K6.out.num K6.out.num.lt
  have f6 := blk_below q8 K6.out.wid K6.out.wid.lt
  rw [e7] at d6 f6
  have d7 := blk_below q9 K7.out.num K7.out.num.lt
  have f7 := blk_below q9 K7.out.wid K7.out.wid.lt
  rw [e8] at d7 f7
  refine bodyPost_ret (results_tmp rfl _ _ _) rfl ?_
  simp only [e2, e3, e4, e5, e6, e7, e8, e9]
  obtain ⟨W, hW⟩ : ∃ W, w9.alloc (.cells (fl w.heap.size) 221) = W := ⟨_, rfl⟩
  have hlist : Blk W (w.heap.size + 18) (fl w.heap.size) 221 := by
    rw [← hW, ← e9]
    exact Blk.new w9 _ _
  have hWb : Below w9.heap.size w9 W := by rw [← hW]; exact bel1 _ _
  have hWs : W.heap.size = w.heap.size + 19 := by rw [← hW, alloc_size, e9]
  have b19 := q1.trans (hWb.mono q1.size)
  have b09 := hb0.trans (b19.mono hb0.size)
  refine ⟨rfl, ?_⟩
  show Fds _ vj vs vc w (w9.alloc (.cells (fl w.heap.size) 221))
  rw [hW]
  have HW : ∀ {k : Nat} {cur : Array Value} {t : TypeId}, Blk w9 k cur t → Blk W k cur t := fun h => blk_below hWb h h.lt
  refine ⟨b09, hWs, blk_below b19 hf1 hf1.lt, blk_below b19 hp1 hp1.lt, fun i hi => ?_, fun i hi => ?_, hlist⟩
  · match i, hi with
    | 0, _ => exact HW d0
    | 1, _ => exact HW d1
    | 2, _ =>
      have := HW d2
      rw [show IntKind.i64.wrap (IntKind.i64.wrap ((N : Int) / 4) - 1) = (N : Int) / 4 - 1 by rw [wrap_id ((N : Int) / 4) (by omega) (by omega), wrap_id _ (by omega) (by omega)]] at this
      exact this
    | 3, _ =>
      have := HW d3
      rw [show IntKind.i64.wrap (IntKind.i64.wrap (2 * IntKind.i64.wrap ((C : Int) - 1)) + j_) = 2 * ((C : Int) - 1) + j_ by rw [wrap_id ((C : Int) - 1) (by omega) (by omega), wrap_id (2 * ((C : Int) - 1)) (by omega) (by omega), wrap_id _ (by omega) (by omega)]] at this
      exact this
    | 4, _ => exact HW d4
    | 5, _ =>
      have := HW d5
      rw [show IntKind.i64.wrap ((B : Int) / 8) = (B : Int) / 8 by rw [wrap_id _ (by omega) (by omega)]] at this
      exact this
    | 6, _ => exact HW d6
    | 7, _ => exact HW d7
  · match i, hi with
    | 0, _ => exact HW f0
    | 1, _ => exact HW f1
    | 2, _ => exact HW f2
    | 3, _ => exact HW f3
    | 4, _ => exact HW f4
    | 5, _ => exact HW f5
    | 6, _ => exact HW f6
    | 7, _ => exact HW f7

section
variable {σ : Type} {K : FuncId} {caps : Array Value} {A : Ad} {N0 C B N : Nat} {I : σ → Nb → World → Prop} {step : σ → Int → Nat → σ × Int}

/-- the first q numbers that the format tells are taken -/
def hdrT (step : σ → Int → Nat → σ × Int) (f : M.Fmt) (s : σ) : Nat → σ
  | 0 => s
  | q + 1 => (step (hdrT step f s q) (hz f q) (hk q)).1
/-- and the joins, if there are any -/
def jnT (step : σ → Int → Nat → σ × Int) (f : M.Fmt) (B : Nat) (s : σ) (m : Nb) : σ × Nb :=
  if f.j = 1 then ((rowT step 1 (hdrT step f s 8) m.j B).1, { m with j := (rowT step 1 (hdrT step f s 8) m.j B).2 }) else (hdrT step f s 8, m)
/-- and the scales -/
def scT (step : σ → Int → Nat → σ × Int) (f : M.Fmt) (C B : Nat) (s : σ) (m : Nb) : σ × Nb := sclT step B (jnT step f B s m).1 (jnT step f B s m).2 C
/-- and the codes -/
def allT (step : σ → Int → Nat → σ × Int) (f : M.Fmt) (C B N r : Nat) (sl : Int) (s : σ) (m : Nb) : σ × Nb :=
  codT step (fun c b => (M.wid f C B r (scT step f C B s m).2.s sl c b).toNat) (scT step f C B s m) (plist N C B)
def stT (step : σ → Int → Nat → σ × Int) (f : M.Fmt) (C B N r : Nat) (sl : Int) (s : σ) (m : Nb) (q : Nat) : σ × Nb :=
  if q ≤ 8 then (hdrT step f s q, m) else if q = 9 then jnT step f B s m else if q = 10 then scT step f C B s m else allT step f C B N r sl s m

/-- what stands when q fields are taken: F the format's box, W0 the world ahead of the first -/
structure Iv (I : σ → Nb → World → Prop) (N0 F : Nat) (sm : Nat → σ × Nb) (W0 : World) (q : Nat) (W : World) : Prop where
  inv : I (sm q).1 (sm q).2 W
  os : W.os = W0.os
  tape : W.tape = W0.tape
  output : W.output = W0.output
  size : W0.heap.size ≤ W.heap.size
  block : ∀ x, N0 ≤ x → x < W0.heap.size → (∀ i, i < 8 → x ≠ F + 2 + 2 * i) → W.heap[x]? = W0.heap[x]?
  num : ∀ i, q ≤ i → i < 8 → W.heap[F + 2 + 2 * i]? = W0.heap[F + 2 + 2 * i]?
theorem Iv.abv {F : Nat} {sm : Nat → σ × Nb} {W0 W W' : World} {q : Nat} (h : Iv I N0 F sm W0 q W) (ha : Abv N0 W W') (hF : N0 ≤ F) (hs : F + 19 ≤ W0.heap.size) (hi : I (sm (q + 1)).1 (sm (q + 1)).2 W') : Iv I N0 F sm W0 (q + 1) W' :=
  ⟨hi, ha.os.trans h.os, ha.tape.trans h.tape, ha.output.trans h.output, Nat.le_trans h.size ha.size, fun x h0 h1 h2 => (ha.block x h0 (Nat.lt_of_lt_of_le h1 h.size)).trans (h.block x h0 h1 h2), fun i h1 h2 => (ha.block _ (by omega) (by have := h.size; omega)).trans (h.num i (by omega) h2)⟩

theorem each_any (T : Tk σ K caps A N0 C B N I step) (f : M.Fmt) (r : Nat) (sl : Int) (s : σ) (m : Nb) (w W0 : World) (hF : Sb f C B N r) (hS : Sh f C B r (scT step f C B s m).2.s sl) (hZ : ∀ c, c < C → ∀ b, b < B → 0 ≤ (scT step f C B s m).2.s c b ∧ (scT step f C B s m).2.s c b ≤ 15)
    (hN : N0 ≤ w.heap.size) (hd : Fds f (A.vj B) (A.vs C) (A.vc N) w W0) :
    ∀ q, q < 11 → ∃ Kq cq, (fl w.heap.size)[q]? = some (.func (.func Kq) #[] cq) ∧ Enters Tryz.prog Kq ∧ ∀ W, Iv I N0 w.heap.size (stT step f C B N r sl s m) W0 q W → Calls Tryz.prog Kq (#[.func (.func K) #[] caps] ++ cq) W fun e W' => e = .returned (.tuple #[]) ∧ Iv I N0 w.heap.size (stT step f C B N r sl s m) W0 (q + 1) W' := by
  have hs0 := hd.size
  have hr := hF.ok.2.1
  have hh := hF.hC
  have hb := hF.hB
  have hk' := hF.hN
  have hm := hF.method
  have hp := hF.ok.2.2.2.2.2.2.2.2.2.1
  have hp0 := hF.ok.2.2.2.2.2.2.2.1
  have hj := hF.joint
  have c2 := hF.c2
  have b8 := hF.b8
  have n16 := hF.n16
  have hzb : ∀ q, 0 ≤ hz f q ∧ hz f q < 65536 := by
    intro q
    match q with
    | 0 => show (0 : Int) ≤ 156 ∧ (156 : Int) < 65536; omega
    | 1 => show 0 ≤ f.r ∧ f.r < 65536; omega
    | 2 => show 0 ≤ f.k / 4 - 1 ∧ f.k / 4 - 1 < 65536; omega
    | 3 => show 0 ≤ 2 * (f.h - 1) + f.j ∧ 2 * (f.h - 1) + f.j < 65536; omega
    | 4 => show 0 ≤ f.m ∧ f.m < 65536; omega
    | 5 => show 0 ≤ f.b / 8 ∧ f.b / 8 < 65536; omega
    | 6 => show 0 ≤ f.p ∧ f.p < 65536; omega
    | n + 7 => show (0 : Int) ≤ 0 ∧ (0 : Int) < 65536; omega
  have hkb : ∀ q, hk q ≤ 16 := by
    intro q
    match q with
    | 0 => decide
    | 1 => decide
    | 2 => decide
    | 3 => decide
    | 4 => decide
    | 5 => decide
    | 6 => decide
    | n + 7 => show 8 ≤ 16; omega
  have hknown : ∀ q, q < 8 → ∀ W, Iv I N0 w.heap.size (stT step f C B N r sl s m) W0 q W → Calls Tryz.prog 209 #[.func (.func K) #[] caps, .pointer (some ⟨w.heap.size + 2 + 2 * q, 0, none⟩), .pointer (some ⟨w.heap.size + 2 + 2 * q + 1, 0, none⟩)] W fun e W' => e = .returned (.tuple #[]) ∧ Iv I N0 w.heap.size (stT step f C B N r sl s m) W0 (q + 1) W' := by
    intro q hq W h
    have hi : I (hdrT step f s q) m W := by have := h.inv; unfold stT at this; rw [if_pos (show q ≤ 8 by omega)] at this; exact this
    refine (known1_any T (hdrT step f s q) m W (w.heap.size + 2 + 2 * q) (hz f q) (hk q) hi (by omega) ((h.num q (Nat.le_refl _) hq).trans (hd.num q hq)) ((h.block _ (by omega) (by omega) (fun i hi => by omega)).trans (hd.wid q hq)) (hzb q) (hkb q)).mono ?_
    rintro e W' ⟨he, h1, h2, h3, h4, h5, h6⟩
    refine ⟨he, ?_, h3.trans h.os, h4.trans h.tape, h5.trans h.output, Nat.le_trans h.size h2, fun x x0 x1 x2 => (h6 x x0 (x2 q hq) (Nat.lt_of_lt_of_le x1 h.size)).trans (h.block x x0 x1 x2), fun i i0 i1 => (h6 _ (by omega) (by omega) (by have := h.size; omega)).trans (h.num i (by omega) i1)⟩
    unfold stT
    rw [if_pos (show q + 1 ≤ 8 by omega)]
    exact h1
  have hfb : ∀ q W, Iv I N0 w.heap.size (stT step f C B N r sl s m) W0 q W → Blk W w.heap.size (fc f) 23 := fun q W h => (h.block _ hN (by omega) (fun i _ => by omega)).trans hd.fb
  have hpb : ∀ q W, Iv I N0 w.heap.size (stT step f C B N r sl s m) W0 q W → Blk W (w.heap.size + 1) (A.pa C B N) 33 := fun q W h => (h.block _ (by omega) (by omega) (fun i _ => by omega)).trans hd.pb
  have hent := enters_of Tryz.func209 (by kernel_rfl) rfl
  intro q hq
  match q, hq with
  | 0, _ => exact ⟨_, _, rfl, hent, fun W h => hknown 0 (by omega) W h⟩
  | 1, _ => exact ⟨_, _, rfl, hent, fun W h => hknown 1 (by omega) W h⟩
  | 2, _ => exact ⟨_, _, rfl, hent, fun W h => hknown 2 (by omega) W h⟩
  | 3, _ => exact ⟨_, _, rfl, hent, fun W h => hknown 3 (by omega) W h⟩
  | 4, _ => exact ⟨_, _, rfl, hent, fun W h => hknown 4 (by omega) W h⟩
  | 5, _ => exact ⟨_, _, rfl, hent, fun W h => hknown 5 (by omega) W h⟩
  | 6, _ => exact ⟨_, _, rfl, hent, fun W h => hknown 6 (by omega) W h⟩
  | 7, _ => exact ⟨_, _, rfl, hent, fun W h => hknown 7 (by omega) W h⟩
  | 8, _ =>
    refine ⟨_, _, rfl, enters_of Tryz.func176 (by kernel_rfl) rfl, fun W h => ?_⟩
    have hi : I (hdrT step f s 8) m W := h.inv
    by_cases h1 : f.j = 1
    · refine (fields1_any T f w.heap.size (w.heap.size + 1) _ _ W hi (by omega) hN (by omega) (hfb _ W h) (hpb _ W h) h1).mono ?_
      rintro e W' ⟨he, i1, a1⟩
      refine ⟨he, h.abv a1 hN (by omega) ?_⟩
      show I (jnT step f B s m).1 (jnT step f B s m).2 W'
      unfold jnT
      rw [if_pos h1]
      exact i1
    · refine (fields1_none T f w.heap.size (w.heap.size + 1) _ _ W hi (hfb _ W h) h1).mono ?_
      rintro e W' ⟨he, hw⟩
      subst hw
      refine ⟨he, h.abv (Abv.refl _ _) hN (by omega) ?_⟩
      show I (jnT step f B s m).1 (jnT step f B s m).2 W'
      unfold jnT
      rw [if_neg h1]
      exact hi
  | 9, _ =>
    refine ⟨_, _, rfl, enters_of Tryz.func178 (by kernel_rfl) rfl, fun W h => ?_⟩
    have hi : I (jnT step f B s m).1 (jnT step f B s m).2 W := h.inv
    refine (fields2_any T (w.heap.size + 1) _ _ W hi (by omega) (by omega) (by omega) (hpb _ W h)).mono ?_
    rintro e W' ⟨he, i1, a1⟩
    exact ⟨he, h.abv a1 hN (by omega) i1⟩
  | 10, _ =>
    refine ⟨_, _, rfl, enters_of Tryz.func179 (by kernel_rfl) rfl, fun W h => ?_⟩
    have hi : I (scT step f C B s m).1 (scT step f C B s m).2 W := h.inv
    refine (fields3_any T f r w.heap.size (w.heap.size + 1) _ _ sl W hi hF hS hZ hN (by omega) (hfb _ W h) (hpb _ W h)).mono ?_
    rintro e W' ⟨he, i1, a1⟩
    exact ⟨he, h.abv a1 hN (by omega) i1⟩

set_option maxRecDepth 100000 in
set_option maxHeartbeats 2000000 in
theorem takeAll_any (T : Tk σ K caps A N0 C B N I step) (f : M.Fmt) (r : Nat) (sl : Int) (s : σ) (m : Nb) (w : World) (hF : Sb f C B N r) (hS : Sh f C B r (scT step f C B s m).2.s sl) (hZ : ∀ c, c < C → ∀ b, b < B → 0 ≤ (scT step f C B s m).2.s c b ∧ (scT step f C B s m).2.s c b ≤ 15) (h : I s m w) :
    Calls Tryz.prog 70 #[fv f, pa (A.vj B) (A.vs C) (A.vc N), .func (.func K) #[] caps] w fun e w' => e = .returned (.tuple #[]) ∧ I (allT step f C B N r sl s m).1 (allT step f C B N r sl s m).2 w' ∧ Abv N0 w w' := by
  have hw0 := T.size _ _ _ h
  obtain ⟨W1, hW1⟩ : ∃ W1, (w.alloc (.cells (fc f) 23)).alloc (.cells #[A.vj B, A.vs C, A.vc N] 33) = W1 := ⟨_, rfl⟩
  have bel : Below w.heap.size w W1 := by rw [← hW1]; exact (bel1 _ _).alloc (bel1 _ _).size _
  have hs1 : W1.heap.size = w.heap.size + 2 := by rw [← hW1]; simp
  have hf1 : Blk W1 w.heap.size (fc f) 23 := by rw [← hW1]; exact (Blk.new w _ _).alloc _
  have hp1 : Blk W1 (w.heap.size + 1) #[A.vj B, A.vs C, A.vc N] 33 := by
    rw [← hW1]
    have := Blk.new (w.alloc (.cells (fc f) 23)) #[A.vj B, A.vs C, A.vc N] 33
    rw [alloc_size] at this
    exact this
  have xs := box_cells hf1
  have y0 : W1.cell? ⟨w.heap.size + 1, 0, none⟩ = some (A.vj B) := hp1.cell rfl
  have y1 : W1.cell? ⟨w.heap.size + 1, 1, none⟩ = some (A.vs C) := hp1.cell rfl
  have y2 : W1.cell? ⟨w.heap.size + 1, 2, none⟩ = some (A.vc N) := hp1.cell rfl
  clear hf1 hp1
  have hj := hF.joint
  have hfl := fields_any f C B N (A.vj B) (A.vs C) (A.vc N) W1 hF.hC hF.hB hF.hN hF.c2 hF.b8 hF.n16 (by omega)
  have hstart : ∀ W0, Fds f (A.vj B) (A.vs C) (A.vc N) W1 W0 → Iv I N0 W1.heap.size (stT step f C B N r sl s m) W0 0 W0 ∧ (∀ q, q < 11 → ∃ Kq cq, (fl W1.heap.size)[q]? = some (.func (.func Kq) #[] cq) ∧ Enters Tryz.prog Kq ∧ ∀ W, Iv I N0 W1.heap.size (stT step f C B N r sl s m) W0 q W → Calls Tryz.prog Kq (#[.func (.func K) #[] caps] ++ cq) W fun e W' => e = .returned (.tuple #[]) ∧ Iv I N0 W1.heap.size (stT step f C B N r sl s m) W0 (q + 1) W') ∧
      (∀ q W, Iv I N0 W1.heap.size (stT step f C B N r sl s m) W0 q W → Blk W (W1.heap.size + 18) (fl W1.heap.size) 221) ∧ (∀ W, Iv I N0 W1.heap.size (stT step f C B N r sl s m) W0 11 W → I (allT step f C B N r sl s m).1 (allT step f C B N r sl s m).2 W ∧ Abv N0 w W) := by
    intro W0 hd
    have b0 := bel.trans (hd.bel.mono bel.size)
    have hs := hd.size
    refine ⟨⟨?_, rfl, rfl, rfl, Nat.le_refl _, fun _ _ _ _ => rfl, fun _ _ _ => rfl⟩, each_any T f r sl s m W1 W0 hF hS hZ (by omega) hd, fun q W hi => (hi.block _ (by omega) (by omega) (fun i _ => by omega)).trans hd.list, fun W hi => ⟨hi.inv, hi.os.trans b0.os, hi.tape.trans b0.tape, hi.output.trans b0.output, Nat.le_trans b0.size hi.size, fun k k0 k1 => (hi.block k k0 (by omega) (fun i _ => by omega)).trans (b0.block k k1)⟩⟩
    show I s m W0
    exact T.keep _ _ _ _ h (fun k hk => b0.block k (by omega)) b0.size
  have HS : Hid _ := hstart
  clear hstart bel hS hZ h T hF hj hs1
  unfold pa Ad.vj Ad.vs Ad.vc at hfl ⊢
  unfold Ad.vj Ad.vs Ad.vc at hW1 HS
  unfold Ad.vj at y0
  unfold Ad.vs at y1
  unfold Ad.vc at y2
  obtain ⟨c_, r_, h_, b_, k_, m_, j_, p_, l_, y_⟩ := f
  unfold fv at hfl ⊢
  unfold fc at hW1
  dsimp only at hfl hW1 xs ⊢
  obtain ⟨x0, x1, x2, x3, x4, x5, x6, x7, x8, x9⟩ := xs
  go_enter Tryz.func70, Tryz.ntmps70
  go_wp2_with (go_at_call 131; refine hfl.mono ?_; clear hfl; rintro e W0 ⟨rfl, hd⟩; obtain ⟨i0, hea, hbk, hfi⟩ := HS.out W0 hd; clear HS; have HI0 : Hid (Iv _ _ _ _ _ 0 W0) := i0; have HE : Hid _ := hea; have HBk : Hid _ := hbk; have HFi : Hid _ := hfi; clear i0 hea hbk hfi hd)
  clear hW1 x0 x1 x2 x3 x4 x5 x6 x7 x8 x9 y0 y1 y2
  go_loopw [12] (fun i wr => ∃ q : Nat, q ≤ 11 ∧ i = .int .i64 q ∧ Iv I N0 W1.heap.size (stT step ⟨c_, r_, h_, b_, k_, m_, j_, p_, l_, y_⟩ C B N r sl s m) W0 q wr) (fun i _ => 11 - (intOf i).toNat)
  case atStart => exact ⟨0, by omega, rfl, HI0.out⟩
  case round =>
    clear HI0
    obtain ⟨q, hq, rfl, hi⟩ := hrel
    by_cases hlt : q < 11
    · have hlt' : (q : Int) < 11 := by omega
      obtain ⟨Kq, cq, hc, hent, hcall⟩ := HE.out q hlt
      have hc' := (HBk.out q wr hi).cell hc
      have hcall' := hcall wr hi
      clear hcall hc hi
      unfold Enters at hent
      go_wp2_with (go_at_fn Kq; refine hcall'.mono ?_; rintro e w3 ⟨rfl, h1⟩; replace h1 : Hid _ := h1)
      go_roundw
      case rel => exact ⟨q + 1, by omega, by go_num, h1.out⟩
      case measure => simp [intOf]; omega
    · obtain rfl : q = 11 := by omega
      have hf := HFi.out wr hi
      have HF : Hid _ := hf
      clear hi hf
      go_wp2
      go_end0
      exact ⟨rfl, HF.out⟩
end

end Sub
end Go.Proofs.YtcaifpjbjghhaaaGreatDoor

