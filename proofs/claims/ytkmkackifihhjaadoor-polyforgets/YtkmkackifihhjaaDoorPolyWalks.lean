/-
  Contracts of package poly's small functions: a line that moves on, waves, sums. Conditions: as told at each.
-/
import Derived.Test.YtkmkackifihhjaaDoorPolyMem
namespace Go.Proofs.YtkmkackifihhjaaDoor
set_option linter.unusedVariables false
open Go.RowKit
namespace Poly
open Bank (Blk But)

theorem elem16 : Tryd.prog.elem 22 = 32 := by simp [Program.elem, Tryd.underlying22]
theorem size16 (w : World) : (Go.sizeOf 32).run Tryd.prog w = .ok 1 w := by kernel_rfl
theorem elem32 : Tryd.prog.elem 33 = 21 := by simp [Program.elem, Tryd.underlying33]
theorem size32 (w : World) : (Go.sizeOf 21).run Tryd.prog w = .ok 1 w := by kernel_rfl
theorem rest16 (g l n : Nat) (hn : n < l) (w : World) : (Instr.slice 22 (.slice (some ⟨g, 0, none⟩) l l) (some (.int .i64 (n : Int))) none none).run Tryd.prog w = .ok (.slice (some ⟨g, n, none⟩) (l - n) (l - n)) w := by
  rw [run_slice_l (P := Tryd.prog) w 22 _ l l (by rw [elem16]; exact Tryd.underlying22) .i64 n (by omega) (by omega), elem16, size16]
  show Result.ok (Go.sliced _ (n : Int).toNat l l 1) w = _
  unfold Go.sliced
  rw [if_neg (by omega)]
  simp [add_at]
theorem rest32 (g l n : Nat) (hn : n < l) (w : World) : (Instr.slice 33 (.slice (some ⟨g, 0, none⟩) l l) (some (.int .i64 (n : Int))) none none).run Tryd.prog w = .ok (.slice (some ⟨g, n, none⟩) (l - n) (l - n)) w := by
  rw [run_slice_l (P := Tryd.prog) w 33 _ l l (by rw [elem32]; exact Tryd.underlying33) .i64 n (by omega) (by omega), elem32, size32]
  show Result.ok (Go.sliced _ (n : Int).toNat l l 1) w = _
  unfold Go.sliced
  rw [if_neg (by omega)]
  simp [add_at]

theorem moved (k : IntKind) (zs : List Int) (n : Nat) (hn : n < zs.length) :
    (enc k zs).toArray.toList.take n ++ (enc k zs).take (zs.length - n) ++ (enc k zs).toArray.toList.drop (n + ((enc k zs).take (zs.length - n)).length) = enc k (zs.take n ++ zs.take (zs.length - n)) := by
  have e : ((enc k zs).take (zs.length - n)).length = zs.length - n := by simp [enc_length]
  rw [e, List.drop_eq_nil_of_le (by simp [enc_length]; omega)]
  simp [enc, List.map_take]

set_option maxRecDepth 100000 in
theorem moveOn16 (g n : Nat) (zs : List Int) (w : World) (hb : Blk w g (enc .i16 zs).toArray 32) (hn : n < zs.length) (hl : zs.length ≤ 65536) :
    Calls Tryd.prog 26 #[.slice (some ⟨g, 0, none⟩) zs.length zs.length, .int .i64 n] w fun e w' => e = .returned (.tuple #[]) ∧ w' = w.setRow g (enc .i16 (zs.take n ++ zs.take (zs.length - n))).toArray := by
  have hX := moved .i16 zs n hn
  have hsl := rest16 g zs.length n hn w
  have hlen : ((enc .i16 zs).take (zs.length - n)).length = zs.length - n := by simp [enc_length]
  have hsrc : ∀ j v, ((enc .i16 zs).take (zs.length - n))[j]? = some v → w.cell? ((⟨g, 0, none⟩ : Addr).add j) = some v := fun j v hv => by
    rw [add_at]
    refine hb.cell ?_
    rw [List.getElem?_take] at hv
    split at hv
    · simpa using hv
    · cases hv
  have hone : ∀ v ∈ (enc .i16 zs).take (zs.length - n), v.oneCell' = true := fun v hv => enc_one _ _ v (List.mem_of_mem_take hv)
  have hfit : n + ((enc .i16 zs).take (zs.length - n)).length ≤ (enc .i16 zs).toArray.size := by rw [hlen]; simp [enc_length]; omega
  have hcp := run_copy_row (P := Tryd.prog) w 22 22 3 32 g n (zs.length - n) (zs.length - n) ⟨g, 0, none⟩ zs.length zs.length _ 32 _ Tryd.underlying22 (by kernel_rfl) hb (by rw [hlen]; exact (Nat.min_eq_right (by omega)).symm) hsrc hfit hone
  rw [hX, hlen] at hcp
  clear hX hsrc hfit hone hlen hb
  generalize enc .i16 (zs.take n ++ zs.take (zs.length - n)) = X at *
  generalize zs.length = L at *
  go_enter Tryd.func26, Tryd.ntmps26
  go_wp2
  go_end0
  exact ⟨rfl, rfl⟩

set_option maxRecDepth 100000 in
theorem moveOn32 (g n : Nat) (zs : List Int) (w : World) (hb : Blk w g (enc .i32 zs).toArray 21) (hn : n < zs.length) (hl : zs.length ≤ 65536) :
    Calls Tryd.prog 33 #[.slice (some ⟨g, 0, none⟩) zs.length zs.length, .int .i64 n] w fun e w' => e = .returned (.tuple #[]) ∧ w' = w.setRow g (enc .i32 (zs.take n ++ zs.take (zs.length - n))).toArray := by
  have hX := moved .i32 zs n hn
  have hsl := rest32 g zs.length n hn w
  have hlen : ((enc .i32 zs).take (zs.length - n)).length = zs.length - n := by simp [enc_length]
  have hsrc : ∀ j v, ((enc .i32 zs).take (zs.length - n))[j]? = some v → w.cell? ((⟨g, 0, none⟩ : Addr).add j) = some v := fun j v hv => by
    rw [add_at]
    refine hb.cell ?_
    rw [List.getElem?_take] at hv
    split at hv
    · simpa using hv
    · cases hv
  have hone : ∀ v ∈ (enc .i32 zs).take (zs.length - n), v.oneCell' = true := fun v hv => enc_one _ _ v (List.mem_of_mem_take hv)
  have hfit : n + ((enc .i32 zs).take (zs.length - n)).length ≤ (enc .i32 zs).toArray.size := by rw [hlen]; simp [enc_length]; omega
  have hcp := run_copy_row (P := Tryd.prog) w 33 33 3 21 g n (zs.length - n) (zs.length - n) ⟨g, 0, none⟩ zs.length zs.length _ 21 _ Tryd.underlying33 (by kernel_rfl) hb (by rw [hlen]; exact (Nat.min_eq_right (by omega)).symm) hsrc hfit hone
  rw [hX, hlen] at hcp
  clear hX hsrc hfit hone hlen hb
  generalize enc .i32 (zs.take n ++ zs.take (zs.length - n)) = X at *
  generalize zs.length = L at *
  go_enter Tryd.func33, Tryd.ntmps33
  go_wp2
  go_end0
  exact ⟨rfl, rfl⟩

/-- a list that is being filled: of the L numbers of block g the first k are told -/
def Fill (K : IntKind) (t : TypeId) (g L k : Nat) (f : Nat → Int) (w : World) : Prop := ∃ tab : Array Value, Blk w g tab t ∧ tab.size = L ∧ ∀ j, j < k → tab[j]? = some (.int K (f j))
theorem Fill.drewN {K : IntKind} {t : TypeId} {g L k : Nat} {f : Nat → Int} {w : World} (h : Fill K t g L k f w) (m : Nat) : Fill K t g L k f (w.drewN m) := h
theorem Fill.drew {K : IntKind} {t : TypeId} {g L k : Nat} {f : Nat → Int} {w : World} (h : Fill K t g L k f w) : Fill K t g L k f w.drew := h
theorem Fill.start {K : IntKind} {t : TypeId} {g L : Nat} {f : Nat → Int} {w : World} (h : Blk w g (enc K (List.replicate L 0)).toArray t) : Fill K t g L 0 f w := ⟨_, h, by simp [enc_length], fun j hj => absurd hj (by omega)⟩
theorem Fill.cell {K : IntKind} {t : TypeId} {g L k : Nat} {f : Nat → Int} {w : World} (h : Fill K t g L k f w) {j : Nat} (hj : j < L) : (∃ u, w.cell? ⟨g, j, none⟩ = some u) ∧ w.frozen? ⟨g, j, none⟩ = false := by
  obtain ⟨tab, h1, h2, _⟩ := h
  exact ⟨⟨tab[j]'(by omega), h1.cell (by simp [h2, hj])⟩, h1.free j⟩
theorem Fill.step {K : IntKind} {t : TypeId} {g L k : Nat} {f : Nat → Int} {w : World} (h : Fill K t g L k f w) (hk : k < L) {x : Int} (hx : x = f k) : Fill K t g L (k + 1) f (w.setCell ⟨g, k, none⟩ (.int K x)) := by
  obtain ⟨tab, h1, h2, h3⟩ := h
  subst hx
  refine ⟨_, h1.set _ _, by simpa using h2, fun j hj => ?_⟩
  rw [Array.getElem?_setIfInBounds]
  split
  · rename_i e; subst e; rw [if_pos (by omega)]
  · exact h3 j (by omega)
theorem Fill.whole {K : IntKind} {t : TypeId} {g L : Nat} {f : Nat → Int} {w : World} (h : Fill K t g L L f w) : Blk w g (enc K ((List.range L).map f)).toArray t := by
  obtain ⟨tab, h1, h2, h3⟩ := h
  have e : tab = (enc K ((List.range L).map f)).toArray := by
    apply Array.ext'
    apply List.ext_getElem?
    intro j
    by_cases hj : j < L
    · rw [Array.getElem?_toList, h3 j hj]
      simp [enc, hj]
    · rw [List.getElem?_eq_none (by simp; omega), List.getElem?_eq_none (by simp [enc]; omega)]
  rw [← e]; exact h1
theorem Fill.lt {K : IntKind} {t : TypeId} {g L k : Nat} {f : Nat → Int} {w : World} (h : Fill K t g L k f w) : g < w.heap.size := by
  obtain ⟨_, h, _⟩ := h; exact h.lt

set_option maxRecDepth 100000 in
set_option maxHeartbeats 1000000 in
/-- the sums over rows of waves -/
theorem sums_any (p lo hi lo' hi' : Nat) (vw vn : Value) (zs : List Int) (wss : List (List Int)) (s : Int) (n : Nat) (w : World) (hp : w.cell? ⟨p, 2, none⟩ = some vw) (hw : Rows .i16 lo hi w vw wss) (hn : Reads .i32 lo' hi' w vn zs)
    (hrow : ∀ i, i < wss.length → (wss.getD i []).length = zs.length) (s0 : 0 ≤ s) (s1 : s ≤ 62) (z1 : zs.length ≤ 65536) (c0 : 0 < wss.length) (c1 : wss.length ≤ 65536) (h1 : hi ≤ w.heap.size) (h2 : hi' ≤ w.heap.size) (hl : wss.length = n) :
    Calls Tryd.prog 27 #[.pointer (some ⟨p, 0, none⟩), vn, .int .i64 s] w fun e w' => e = .returned (.slice (some ⟨w.heap.size, 0, none⟩) n n) ∧
      Blk w' w.heap.size (enc .i32 ((List.range n).map fun i => M.sat32 (M.rnd (Dot.dotTo zs (wss.getD i []) zs.length) s))).toArray 21 ∧ Below w.heap.size w w' ∧ w'.heap.size = w.heap.size + 1 := by
  have hmk := make32 w n (by omega)
  have hst : Fill .i32 21 w.heap.size n 0 (fun i => M.sat32 (M.rnd (Dot.dotTo zs (wss.getD i []) zs.length) s)) (w.alloc (.cells (enc .i32 (List.replicate n 0)).toArray 21)) := Fill.start (Blk.new w _ _)
  generalize (enc .i32 (List.replicate n 0)).toArray = cs at hmk hst
  obtain ⟨a, c, rfl, hac⟩ := hw.form
  obtain ⟨b, off, rfl, hb0, hb1, hcell⟩ := hw.cell c0
  rw [hl] at hac hcell hrow hp
  obtain ⟨an, cn, rfl⟩ := hn.form
  have hp2 : (w.alloc (.cells cs 21)).cell? ⟨p, 2, none⟩ = some (.slice (some ⟨b, off, none⟩) n c) := Lib.cell?_alloc_some _ hp
  have bel : Below w.heap.size w (w.alloc (.cells cs 21)) := (Below.refl _ _).alloc (Nat.le_refl _) _
  have hsz : (w.alloc (.cells cs 21)).heap.size = w.heap.size + 1 := by simp
  have n1 : (n : Int) ≤ 65536 := by omega
  have HC : Hid _ := hcell
  have HR : Hid _ := hrow
  have HN : Hid (Reads .i32 lo' hi' w (.slice an zs.length cn) zs) := hn
  generalize hF : (fun i => M.sat32 (M.rnd (Dot.dotTo zs (wss.getD i []) zs.length) s)) = F at *
  have HF : Hid _ := hF
  clear hcell hrow hn hw hF hl c1
  go_enter Tryd.func27, Tryd.ntmps27
  go_wp2
  go_loopw [21] (fun i wr => ∃ k : Nat, k ≤ n ∧ i = .int .i64 k ∧ Fill .i32 21 w.heap.size n k F wr ∧ Below w.heap.size w wr ∧ wr.heap.size = w.heap.size + 1) (fun i _ => n - (intOf i).toNat)
  case atStart => exact ⟨0, by omega, rfl, hst, bel, hsz⟩
  case round =>
    obtain ⟨k, hk, rfl, hf, hbw, hsw⟩ := hrel
    clear hst bel hsz hmk hp2
    by_cases hlt : k < n
    · obtain ⟨u, hu, hr⟩ := HC.out k hlt
      have hu2 : wr.cell? ⟨b, off + k, none⟩ = some u := (cell_keep (hbw.block b (by omega))).trans hu
      have hr2 := hr.below hbw h1
      have hn2 := Reads.below HN.out hbw h2
      obtain ⟨ar, cr, rfl⟩ := hr.form
      rw [HR.out k hlt] at hu2 hu hr hr2
      have hd := Dot.Dot_ok an ar zs.length cn cr s zs (wss.getD k []) wr hn2.row.2.2 hr2.row.2.2 s0 s1 z1
      obtain ⟨⟨u0, hu0⟩, hfz⟩ := hf.cell hlt
      have hlt' : (k : Int) < n := by omega
      clear hr hr2 hn2 hu
      have HFk : Hid (M.sat32 (M.rnd (Dot.dotTo zs (wss.getD k []) zs.length) s) = F k) := congrFun HF.out k
      generalize M.sat32 (M.rnd (Dot.dotTo zs (wss.getD k []) zs.length) s) = y at hd HFk
      generalize zs.length = lz at *
      go_wp2_with (go_at_call 39; refine hd.mono ?_; rintro e w' ⟨rfl, m, rfl⟩)
      go_roundw
      case rel => exact ⟨k + 1, by omega, by go_num, (hf.drewN _).step hlt HFk.out, (below_drewN hbw _).setCell (Nat.le_refl _) _, by simpa [World.setCell] using hsw⟩
      case measure => simp [intOf]; omega
    · obtain rfl : k = n := by omega
      go_wp2
      go_ret
      exact ⟨rfl, hf.whole, hbw, hsw⟩

end Poly
end Go.Proofs.YtkmkackifihhjaaDoor
