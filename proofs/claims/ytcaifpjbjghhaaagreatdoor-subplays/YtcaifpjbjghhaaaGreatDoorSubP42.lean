import Derived.Test.YtcaifpjbjghhaaaGreatDoorSubP40
import Derived.Test.YtcaifpjbjghhaaaGreatDoorSubP32
import Derived.Test.YtcaifpjbjghhaaaGreatDoorSubP24
/-
  Encoders and decoders in plain numbers and in memory. No walk. Conditions: as told at each.
-/
namespace Go.Proofs.YtcaifpjbjghhaaaGreatDoor
set_option linter.unusedVariables false
open Go.RowKit
namespace M
def sst (B : Nat) (x xs : List Int) : Nat → List Int
  | 0 => xs
  | k + 1 => nx B ((x.drop (B * k)).take B) (sst B x xs k)
def spF (B : Nat) (x xs : List Int) (k b : Nat) : Int := (spl B (sst B x xs (k + 1))).getD b 0
def enX (B N C : Nat) (l : List Int) (L : Nat → List Int) (c : Nat) : Nat → Nat → Int := spF B (chn (N * B) l c C) (L c)
def enL (B N C : Nat) (l : List Int) (L : Nat → List Int) (c : Nat) : List Int := sst B (chn (N * B) l c C) (L c) N
theorem spl_32 (B : Nat) (xs : List Int) (b : Nat) : -2147483648 ≤ (spl B xs).getD b 0 ∧ (spl B xs).getD b 0 ≤ 2147483647 := by
  refine get_bd (fun z hz => ?_) (by decide) (by decide) b
  obtain ⟨i, _, rfl⟩ := List.mem_map.1 hz
  exact sat32_32 _
theorem enX_32 (B N C : Nat) (l : List Int) (L : Nat → List Int) (c : Nat) : Qnt.F32 (enX B N C l L c) := fun i b => spl_32 _ _ _
def jst (B : Nat) (F : Nat → Nat → Int) (l : List Int) : Nat → List Int
  | 0 => l
  | k + 1 => nj B (Sub.rl B (F k)) (jst B F l k)
def jsm (B : Nat) (F : Nat → Nat → Int) (l : List Int) : Nat → List Int
  | 0 => []
  | k + 1 => jsm B F l k ++ jn B (jst B F l (k + 1))
theorem jsm_length (B : Nat) (F : Nat → Nat → Int) (l : List Int) : ∀ k, (jsm B F l k).length = k * B
  | 0 => by simp [jsm]
  | k + 1 => by rw [jsm, List.length_append, jsm_length B F l k, jn_length, Nat.succ_mul]
theorem jsm_fits (B : Nat) (F : Nat → Nat → Int) (l : List Int) : ∀ k, fits16 (jsm B F l k)
  | 0 => fun z hz => by cases hz
  | k + 1 => fun z hz => (List.mem_append.1 hz).elim (jsm_fits B F l k z) (jn_fits _ _ z)
end M
namespace Sub
open Bank (Blk But)
open Poly (cell_keep alloc_size Spl Joi Reads)
open _root_.Go.Proofs.YtcaifpjbjghhaaaGreatDoor.Form (fv fc bel1 blk_below)

structure Lns (g : Nat → Nat) (C : Nat) (w w' : World) : Prop where
  os : w'.os = w.os
  tape : w'.tape = w.tape
  output : w'.output = w.output
  size : w.heap.size ≤ w'.heap.size
  block : ∀ k, k < w.heap.size → (∀ c, c < C → k ≠ g c) → w'.heap[k]? = w.heap[k]?
section
variable {g : Nat → Nat} {C C' : Nat} {a w w' : World}
theorem Lns.refl (g : Nat → Nat) (C : Nat) (w : World) : Lns g C w w := ⟨rfl, rfl, rfl, Nat.le_refl _, fun _ _ _ => rfl⟩
theorem Lns.trans (h : Lns g C a w) (k : Lns g C w w') : Lns g C a w' := ⟨k.os.trans h.os, k.tape.trans h.tape, k.output.trans h.output, Nat.le_trans h.size k.size, fun b h0 h1 => (k.block b (Nat.lt_of_lt_of_le h0 h.size) h1).trans (h.block b h0 h1)⟩
theorem Lns.of_below (h : Below w.heap.size w w') : Lns g C w w' := ⟨h.os, h.tape, h.output, h.size, fun b h0 _ => h.block b h0⟩
theorem Lns.below (h : Lns g C a w) (k : Below w.heap.size w w') : Lns g C a w' := h.trans (Lns.of_below k)
theorem Lns.of_but {c : Nat} (h : But (g c) w w') (hc : c < C) : Lns g C w w' := ⟨h.os, h.tape, h.output, h.size, fun b h0 h1 => h.block b h0 (h1 c hc)⟩
theorem Lns.drew (h : Lns g C a w) : Lns g C a w.drew := ⟨h.os, h.tape, h.output, h.size, h.block⟩
theorem Lns.drewN (h : Lns g C a w) (m : Nat) : Lns g C a (w.drewN m) := ⟨h.os, h.tape, h.output, h.size, h.block⟩
theorem Lns.mono (h : Lns g C w w') (hc : C ≤ C') : Lns g C' w w' := ⟨h.os, h.tape, h.output, h.size, fun b h0 h1 => h.block b h0 fun c hc' => h1 c (by omega)⟩
theorem Lns.blk (h : Lns g C w w') {k : Nat} {cur : Array Value} {t : TypeId} (hk : Blk w k cur t) (h1 : ∀ c, c < C → k ≠ g c) : Blk w' k cur t := (h.block k hk.lt h1).trans hk
theorem Lns.to_below (h : Lns g C w w') {B : Nat} (hB : ∀ c, c < C → B ≤ g c) (hs : B ≤ w.heap.size) : Below B w w' := ⟨h.os, h.tape, h.output, h.size, fun b hb => h.block b (by omega) fun c hc => by have := hB c hc; omega⟩
end

structure Objs (t : TypeId) (S : Nat → Nat → Nat → World → Prop) (l E C : Nat) (lo g : Nat → Nat) (w : World) : Prop where
  top : ∃ hd : Array Value, Blk w l hd t ∧ hd.size = C ∧ ∀ c, c < C → hd[c]? = some (.pointer (some ⟨g c + 1, 0, none⟩))
  obj : ∀ c, c < C → S c (lo c) (g c) w
  low : ∀ c, c < C → l < lo c ∧ lo c ≤ g c ∧ g c + 2 ≤ E
  ord : ∀ c c', c < c' → c' < C → g c + 2 ≤ lo c'
abbrev Spls (l E C B : Nat) (lo g : Nat → Nat) (L : Nat → List Int) (w : World) : Prop := Objs 143 (fun c lo g w => Spl lo g B (L c) w) l E C lo g w
abbrev Jois (l E C B : Nat) (lo g : Nat → Nat) (L : Nat → List Int) (w : World) : Prop := Objs 176 (fun c lo g w => Joi lo g B (L c) w) l E C lo g w
section
variable {l E C B : Nat} {lo g : Nat → Nat} {L L' : Nat → List Int} {w w' : World}
theorem Spls.keep (h : Spls l E C B lo g L w) (hs : w.heap.size ≤ w'.heap.size) (hk : ∀ b, l ≤ b → (b < E ∨ b = l) → w'.heap[b]? = w.heap[b]?) : Spls l E C B lo g L w' := by
  obtain ⟨⟨hd, h1, h2⟩, h3, h4, h5⟩ := h
  exact ⟨⟨hd, (hk l (Nat.le_refl _) (.inr rfl)).trans h1, h2⟩, fun c hc => (h3 c hc).keep hs fun b k0 k1 => hk b (by have := h4 c hc; omega) (.inl (by have := h4 c hc; omega)), h4, h5⟩
theorem Jois.keep (h : Jois l E C B lo g L w) (hs : w.heap.size ≤ w'.heap.size) (hk : ∀ b, l ≤ b → (b < E ∨ b = l) → w'.heap[b]? = w.heap[b]?) : Jois l E C B lo g L w' := by
  obtain ⟨⟨hd, h1, h2⟩, h3, h4, h5⟩ := h
  exact ⟨⟨hd, (hk l (Nat.le_refl _) (.inr rfl)).trans h1, h2⟩, fun c hc => (h3 c hc).keep hs fun b k0 k1 => hk b (by have := h4 c hc; omega) (.inl (by have := h4 c hc; omega)), h4, h5⟩
theorem Spls.below {H : Nat} (h : Spls l E C B lo g L w) (hb : Below H w w') (hE : E ≤ H) (hl : l < H) : Spls l E C B lo g L w' := h.keep hb.size fun b _ h1 => hb.block b (by omega)
theorem Jois.below {H : Nat} (h : Jois l E C B lo g L w) (hb : Below H w w') (hE : E ≤ H) (hl : l < H) : Jois l E C B lo g L w' := h.keep hb.size fun b _ h1 => hb.block b (by omega)
theorem Spls.fed {c : Nat} {xs : List Int} (h : Spls l E C B lo g L w) (hc : c < C) (hb : But (g c) w w') (hx : Spl (lo c) (g c) B xs w') (hL : L' c = xs) (ho : ∀ c', c' ≠ c → L' c' = L c') : Spls l E C B lo g L' w' := by
  obtain ⟨⟨hd, h1, h2⟩, h3, h4, h5⟩ := h
  have hl := h4 c hc
  refine ⟨⟨hd, hb.blk h1 (by omega), h2⟩, fun c' hc' => ?_, h4, h5⟩
  by_cases e : c' = c
  · subst e; rw [hL]; exact hx
  · rw [ho c' e]
    refine (h3 c' hc').but hb ?_
    rcases Nat.lt_or_gt_of_ne e with hlt | hlt
    · have := h5 c' c hlt hc; omega
    · have := h5 c c' hlt hc'; omega
theorem Jois.fed {c : Nat} {xs : List Int} (h : Jois l E C B lo g L w) (hc : c < C) (hb : But (g c) w w') (hx : Joi (lo c) (g c) B xs w') (hL : L' c = xs) (ho : ∀ c', c' ≠ c → L' c' = L c') : Jois l E C B lo g L' w' := by
  obtain ⟨⟨hd, h1, h2⟩, h3, h4, h5⟩ := h
  have hl := h4 c hc
  refine ⟨⟨hd, hb.blk h1 (by omega), h2⟩, fun c' hc' => ?_, h4, h5⟩
  by_cases e : c' = c
  · subst e; rw [hL]; exact hx
  · rw [ho c' e]
    refine (h3 c' hc').but hb ?_
    rcases Nat.lt_or_gt_of_ne e with hlt | hlt
    · have := h5 c' c hlt hc; omega
    · have := h5 c c' hlt hc'; omega
end
end Sub
end Go.Proofs.YtcaifpjbjghhaaaGreatDoor

/-
  Contracts of ofChannels: a splitter, a joiner for each channel. Conditions: the polynomial's numbers stand as their initialiser lays them; one goroutine; as told at each.
-/
namespace Go.Proofs.YtcaifpjbjghhaaaGreatDoor
set_option linter.unusedVariables false
open Go.RowKit
namespace Sub
open Bank (Blk But)
open Poly (cell_keep alloc_size Spl Joi)
open _root_.Go.Proofs.YtcaifpjbjghhaaaGreatDoor.Form (fv fc bel1 Says box_cells box_behind blk_below of_drew)

def ptrs (n : Nat) : Array Value := (List.replicate n (.pointer none)).toArray
theorem bank_set {b : Nat} {D : List (Nat × Nat)} {t : Int} {N : Nat} {w : World} {l i : Nat} {hd : Array Value} {ty : TypeId} (h : Bank.Bank b D t N w) (hl : Blk w l hd ty) (hne : ty ≠ 182) (hb : b ≠ l) (v : Value) : Bank.Bank b D t N (w.setCell ⟨l, i, none⟩ v) := by
  obtain ⟨h1, h2, cur, h3, h4, h5, h6, h7⟩ := h
  have key : ∀ k, k ≠ l → (w.setCell ⟨l, i, none⟩ v).heap[k]? = w.heap[k]? := fun k hk => Below.heap_setCell _ _ _ _ (by show k ≠ l; exact hk)
  refine ⟨h1, by simpa [World.setCell] using h2, cur, (key b hb).trans h3, h4, h5, h6, fun κ n hok => ⟨(h7 κ n hok).1, fun hd' => ?_⟩⟩
  obtain ⟨k1, g, k2, k3, k4, k5⟩ := (h7 κ n hok).2 hd'
  exact ⟨k1, g, k2, k3, k4, (key g (fun e => by subst e; exact hne (k5.same hl).2.symm)).trans k5⟩
theorem ptrs_size (n : Nat) : (ptrs n).size = n := by simp [ptrs]

theorem infoSplitter : (Tryz.prog.info? 143).map (fun i => (i.zero, i.size, i.bytes)) = some (some (.pointer none), 1, 8) := by kernel_rfl
theorem mkSplitter (w : World) (n : Nat) (hn : n ≤ 65536) : (Instr.makeSlice 140 (.int .i64 n) (.int .i64 n)).run Tryz.prog w = .ok (.slice (some ⟨w.heap.size, 0, none⟩) n n) (w.alloc (.cells (ptrs n) 143)) := by
  obtain ⟨i0, hi, hz0, hz1, hz2⟩ := info_parts infoSplitter
  have := run_make (P := Tryz.prog) w 140 143 i0 (.pointer none) Tryz.underlying140 hi hz0 .i64 .i64 n n (by omega) (by omega) (by rw [hz2]; omega) (by omega)
  rw [this, hz1]; unfold ptrs; rw [← Poly.madeCells_rep]; simp [Value.cells]
structure Splitterq (b l C B q : Nat) (lo g : Nat → Nat) (w wr : World) : Prop where
  top : ∃ hd : Array Value, Blk wr l hd 143 ∧ hd.size = C ∧ ∀ c, c < q → hd[c]? = some (.pointer (some ⟨g c + 1, 0, none⟩))
  obj : ∀ c, c < q → Spl (lo c) (g c) B (List.replicate (10 * B) 0) wr
  low : ∀ c, c < q → l < lo c ∧ lo c ≤ g c ∧ g c + 2 ≤ wr.heap.size
  ord : ∀ c c', c < c' → c' < q → g c + 2 ≤ lo c'
  bank : ∃ (D : List (Nat × Nat)) (t : Int) (X : Nat), Bank.Bank b D t X wr ∧ D.length ≤ 2 * q ∧ t = 2 * q
  but : But b w wr
  tab : Wave.Tab wr
  lt : l < wr.heap.size
theorem Splitterq.step {b l C B q : Nat} {lo g : Nat → Nat} {w wr w2 : World} (h : Splitterq b l C B q lo g w wr) (hq : q < C) (hb : b < l) (hwl : w.heap.size ≤ l) {gl : Nat} (hx : Spl wr.heap.size gl B (List.replicate (10 * B) 0) w2) (hs : w2.heap.size = gl + 2) (hbk : ∃ (D : List (Nat × Nat)) (t : Int) (X : Nat), Bank.Bank b D t X w2 ∧ D.length ≤ 2 * (q + 1) ∧ t = 2 * (q + 1)) (hbt : But b wr w2) (hn : l ≠ 2 ∧ b ≠ 2)
    (hX : ∀ D t X, Bank.Bank b D t X w2 → Bank.Bank b D t X (w2.setCell ⟨l, q, none⟩ (.pointer (some ⟨gl + 1, 0, none⟩)))) :
    ∃ lo' g', Splitterq b l C B (q + 1) lo' g' w (w2.setCell ⟨l, q, none⟩ (.pointer (some ⟨gl + 1, 0, none⟩))) := by
  obtain ⟨⟨hd, h1, h2, h3⟩, h4, h5, h6, _, h8, h9, h10⟩ := h
  have szz : (w2.setCell ⟨l, q, none⟩ (.pointer (some ⟨gl + 1, 0, none⟩))).heap.size = w2.heap.size := by simp [World.setCell]
  have hgl : wr.heap.size ≤ gl := hx.1
  have h1' : Blk w2 l hd 143 := hbt.blk h1 (by omega)
  have keep : ∀ lo0 g0, l < lo0 → g0 + 2 ≤ w2.heap.size → ∀ xs, Spl lo0 g0 B xs w2 → Spl lo0 g0 B xs (w2.setCell ⟨l, q, none⟩ (.pointer (some ⟨gl + 1, 0, none⟩))) := fun lo0 g0 k0 k1 xs hh => hh.keep (by omega) fun k q0 q1 => Below.heap_setCell _ _ _ _ (by show k ≠ l; omega)
  refine ⟨fun c => if c = q then wr.heap.size else lo c, fun c => if c = q then gl else g c, ⟨_, h1'.set q _, by simpa using h2, fun c hc => ?_⟩, fun c hc => ?_, fun c hc => ?_, fun c c' hlt hc' => ?_, ?_, ?_, ?_, by omega⟩
  · rw [Array.getElem?_setIfInBounds]
    by_cases e : c = q
    · subst e; rw [if_pos rfl, if_pos (by omega)]; simp
    · rw [if_neg (fun e' => e e'.symm), h3 c (by omega)]; simp [e]
  · by_cases e : c = q
    · subst e; simp only [if_true]
      exact keep _ _ h10 (by omega) _ hx
    · simp only [e, if_false]
      have := h5 c (by omega)
      exact keep _ _ this.1 (by have := hbt.size; omega) _ ((h4 c (by omega)).but hbt (.inl (by omega)))
  · by_cases e : c = q
    · subst e; simp only [if_true]; omega
    · simp only [e, if_false]
      have := h5 c (by omega); have := hbt.size; omega
  · have hcq : c ≠ q := by omega
    simp only [hcq, if_false]
    by_cases e : c' = q
    · subst e; simp only [if_true]
      have := h5 c hlt; omega
    · simp only [e, if_false]
      exact h6 c c' hlt (by omega)
  · obtain ⟨D, t, X, k1, k2⟩ := hbk
    exact ⟨D, t, X, hX D t X k1, k2⟩
  · exact (h8.trans hbt).set (.inr (by show w.heap.size ≤ l; omega)) _
  · obtain ⟨t, fr, h'⟩ := hbt.tab h9 (fun e => hn.2 e.symm)
    exact ⟨t, fr, (Below.heap_setCell _ _ _ _ (by show _ ≠ l; exact fun e => hn.1 e.symm)).trans h'⟩

set_option maxRecDepth 100000 in
set_option maxHeartbeats 4000000 in
theorem ofSplitter_any (b : Nat) (f : M.Fmt) (C B N r X : Nat) (w : World) (hT : Wave.Tab w) (hB : Bank.Bank b [] 0 X w) (hF : Sb f C B N r) :
    Calls Tryz.prog 83 #[.pointer (some ⟨b, 0, none⟩), fv f, .func (.func 84) #[] #[]] w fun e w' => ∃ l lo g, e = .returned (.tuple #[.slice (some ⟨l, 0, none⟩) C C, .int .i64 0]) ∧ w.heap.size ≤ l ∧ Spls l w'.heap.size C B lo g (fun _ => List.replicate (10 * B) 0) w' ∧ But b w w' ∧ l < w'.heap.size := by
  have hbw : b < w.heap.size := by have := hB.1; have := hB.2.1; omega
  have nT : 2 ≠ b := by
    obtain ⟨_, _, cur, h3, h4, _⟩ := id hB
    exact Bank.tab_ne hT h3 (by omega)
  have hTl : 2 < w.heap.size := by obtain ⟨t, fr, h'⟩ := hT; exact (Array.getElem?_eq_some_iff.1 h').1
  have c2 := hF.c2
  have b8 := hF.b8
  obtain ⟨W1, hW1⟩ : ∃ W1, w.alloc (.cells (fc f) 23) = W1 := ⟨_, rfl⟩
  have sz1 : W1.heap.size = w.heap.size + 1 := by rw [← hW1]; simp
  have bel : Below w.heap.size w W1 := by rw [← hW1]; exact bel1 _ _
  have hf1 : Blk W1 w.heap.size (fc f) 23 := by rw [← hW1]; exact Blk.new w _ _
  have h1 : Calls Tryz.prog 42 #[fv f] W1 fun e w' => e = .returned (.bool true) ∧ Below W1.heap.size W1 w' := (isSub_any f W1).mono fun e w' ⟨q, he, hb, hq⟩ => ⟨by rw [he, hq.2 hF.ok], hb⟩
  have hst : ∀ w2, Below W1.heap.size W1 w2 → Splitterq b w2.heap.size C B 0 (fun _ => 0) (fun _ => 0) w (w2.alloc (.cells (ptrs C) 143)) := fun w2 b2 => by
    have b02 := bel.trans (b2.mono bel.size)
    have b03 := b02.alloc b02.size (.cells (ptrs C) 143)
    exact ⟨⟨_, Blk.new _ _ _, ptrs_size C, fun c hc => absurd hc (by omega)⟩, fun c hc => absurd hc (by omega), fun c hc => absurd hc (by omega), fun c c' _ hc => absurd hc (by omega), ⟨[], 0, X, hB.below b03 hB.2.1, by simp, by simp⟩, But.of_below b03 (Nat.le_refl _), Bank.tab_below b03 (Nat.le_refl _) hT, by rw [alloc_size]; omega⟩
  have HSt : Hid _ := hst
  have HF1 : Hid (Blk W1 w.heap.size (fc f) 23) := hf1
  obtain ⟨x0, x1, x2, x3, x4, x5, x6, x7, x8, x9⟩ := box_cells hf1
  obtain ⟨M2, M8, ML, hm⟩ : ∃ M2 M8 ML : Nat, (B = 4 ∧ M2 = 8 ∧ M8 = 32 ∧ ML = 40) ∨ (B = 8 ∧ M2 = 16 ∧ M8 = 64 ∧ ML = 80) := by
    rcases b8 with h | h
    · exact ⟨8, 32, 40, .inl ⟨h, rfl, rfl, rfl⟩⟩
    · exact ⟨16, 64, 80, .inr ⟨h, rfl, rfl, rfl⟩⟩
  have hN := hF.hN
  have hC := hF.hC
  have hBB := hF.hB
  have HBel : Hid (Below w.heap.size w W1) := bel
  clear hst hf1 hT hB hF bel
  obtain ⟨c_, r_, h_, b_, k_, m_, j_, p_, l_, y_⟩ := f
  obtain rfl : h_ = C := hC
  obtain rfl : b_ = B := hBB
  obtain rfl : k_ = N := hN
  unfold fv at h1 ⊢
  unfold fc at hW1
  dsimp only at h1 hW1 x0 x1 x2 x3 x4 x5 x6 x7 x8 x9 ⊢
  have hmk := fun wx => mkSplitter wx C (by omega)
  go_enter Tryz.func83, Tryz.ntmps83
  go_wp2_with (go_at_call 42; refine h1.mono ?_; clear h1; rintro e w2 ⟨rfl, b2⟩; have B2 : Hid (Below W1.heap.size W1 w2) := b2; have S2 : Hid _ := HSt.out w2 b2; clear HSt x0 x1 x2 x3 x4 x5 x6 x7 x8 x9; have xs := box_cells (blk_below b2 HF1.out HF1.out.lt); dsimp only at xs; obtain ⟨x0, x1, x2, x3, x4, x5, x6, x7, x8, x9⟩ := xs; clear b2)
  have s2 := B2.out.size
  go_loopw [20] (fun i wr => ∃ q : Nat, q ≤ C ∧ i = .int .i64 q ∧ (∃ lo g, Splitterq b w2.heap.size C B q lo g w wr) ∧ Blk wr w.heap.size (fc ⟨c_, r_, C, B, N, m_, j_, p_, l_, y_⟩) 23) (fun i _ => C - (intOf i).toNat)
  case atStart => exact ⟨0, by omega, rfl, ⟨_, _, S2.out⟩, (blk_below B2.out HF1.out HF1.out.lt).alloc _⟩
  case round =>
    clear S2 x0 x1 x2 x3 x4 x5 x6 x7 x8 x9
    obtain ⟨q, hq, rfl, ⟨lo, g, hl⟩, hfb⟩ := hrel
    by_cases hlt : q < C
    · have hlt' : (q : Int) < C := by omega
      obtain ⟨D, t, Y, hBk, hD, ht⟩ := hl.bank
      have hnew := Poly.newSplitter_at B M2 M8 ML b Y D t wr hm hl.tab hBk (by omega) (by omega) (by omega)
      have HN : Hid (Calls _ _ _ _ _) := hnew
      have x3 : wr.cell? ⟨w.heap.size, 3, none⟩ = some (.int .i64 (B : Int)) := hfb.cell rfl
      have HL : Hid (Splitterq b w2.heap.size C B q lo g w wr) := hl
      have HFb : Hid (Blk wr w.heap.size (fc ⟨c_, r_, C, B, N, m_, j_, p_, l_, y_⟩) 23) := hfb
      have hDl : (Bank.ins (Bank.ins D 2 B) 0 M8).length ≤ 2 * (q + 1) := by
        have a1 : ∀ (D : List (Nat × Nat)) k n, (Bank.ins D k n).length ≤ D.length + 1 := fun D k n => by unfold Bank.ins; split <;> simp
        have := a1 D 2 B; have := a1 (Bank.ins D 2 B) 0 M8; omega
      have hall : ∀ gl w3, Spl wr.heap.size gl B (List.replicate (10 * B) 0) w3 → w3.heap.size = gl + 2 → (∃ Z, Bank.Bank b (Bank.ins (Bank.ins D 2 B) 0 M8) (t + 2) Z w3) → But b wr w3 →
          (∃ u, w3.cell? ⟨w2.heap.size, q, none⟩ = some u) ∧ w3.frozen? ⟨w2.heap.size, q, none⟩ = false ∧ (∃ lo' g', Splitterq b w2.heap.size C B (q + 1) lo' g' w (w3.setCell ⟨w2.heap.size, q, none⟩ (.pointer (some ⟨gl + 1, 0, none⟩)))) ∧ Blk w3 w.heap.size (fc ⟨c_, r_, C, B, N, m_, j_, p_, l_, y_⟩) 23 := by
        intro gl w3 sp3 sz3 bk3 bt3
        obtain ⟨hd, t1, t2, _⟩ := hl.top
        have t3 : Blk w3 w2.heap.size hd 143 := bt3.blk t1 (by omega)
        refine ⟨⟨hd[q]'(by omega), t3.cell (by simp [t2, hlt])⟩, t3.free q, hl.step hlt (by omega) (by omega) sp3 sz3 ?_ bt3 ⟨by omega, fun e => nT e.symm⟩ (fun D t X hX => bank_set hX t3 (by decide) (by omega) _), bt3.blk hfb (by omega)⟩
        obtain ⟨Z, hZ⟩ := bk3
        exact ⟨_, _, Z, hZ, hDl, by omega⟩
      have HAll : Hid _ := hall
      clear hl hfb hBk hnew hall
      go_wp2_with (go_at_call 84; refine HN.out.mono ?_; clear HN; rintro e w3 ⟨gl, rfl, sp3, sz3, bk3, bt3⟩; obtain ⟨⟨u, hu⟩, hfz, hst3, hf3⟩ := HAll.out gl w3 sp3 sz3 bk3 bt3; have HS3 : Hid _ := hst3; have HF3 : Hid (Blk w3 w.heap.size (fc ⟨c_, r_, C, B, N, m_, j_, p_, l_, y_⟩) 23) := hf3; clear hst3 sp3 sz3 bk3 bt3 hf3)
      go_roundw
      case rel => exact ⟨q + 1, by omega, by go_num, HS3.out, HF3.out.set_ne (by show w.heap.size ≠ w2.heap.size; omega) _⟩
      case measure => simp [intOf]; omega
    · obtain rfl : C = q := by omega
      have HL : Hid (Splitterq b w2.heap.size C B C lo g w wr) := hl
      clear hl hfb
      go_wp2
      go_ret2
      have hl := HL.out
      exact ⟨_, lo, g, rfl, by omega, ⟨hl.top, hl.obj, hl.low, hl.ord⟩, hl.but, hl.lt⟩

theorem infoJoiner : (Tryz.prog.info? 176).map (fun i => (i.zero, i.size, i.bytes)) = some (some (.pointer none), 1, 8) := by kernel_rfl
theorem mkJoiner (w : World) (n : Nat) (hn : n ≤ 65536) : (Instr.makeSlice 173 (.int .i64 n) (.int .i64 n)).run Tryz.prog w = .ok (.slice (some ⟨w.heap.size, 0, none⟩) n n) (w.alloc (.cells (ptrs n) 176)) := by
  obtain ⟨i0, hi, hz0, hz1, hz2⟩ := info_parts infoJoiner
  have := run_make (P := Tryz.prog) w 173 176 i0 (.pointer none) Tryz.underlying173 hi hz0 .i64 .i64 n n (by omega) (by omega) (by rw [hz2]; omega) (by omega)
  rw [this, hz1]; unfold ptrs; rw [← Poly.madeCells_rep]; simp [Value.cells]
structure Joinerq (b l C B q : Nat) (lo g : Nat → Nat) (w wr : World) : Prop where
  top : ∃ hd : Array Value, Blk wr l hd 176 ∧ hd.size = C ∧ ∀ c, c < q → hd[c]? = some (.pointer (some ⟨g c + 1, 0, none⟩))
  obj : ∀ c, c < q → Joi (lo c) (g c) B (List.replicate (20 * B) 0) wr
  low : ∀ c, c < q → l < lo c ∧ lo c ≤ g c ∧ g c + 2 ≤ wr.heap.size
  ord : ∀ c c', c < c' → c' < q → g c + 2 ≤ lo c'
  bank : ∃ (D : List (Nat × Nat)) (t : Int) (X : Nat), Bank.Bank b D t X wr ∧ D.length ≤ 2 * q ∧ t = 2 * q
  but : But b w wr
  tab : Wave.Tab wr
  lt : l < wr.heap.size
theorem Joinerq.step {b l C B q : Nat} {lo g : Nat → Nat} {w wr w2 : World} (h : Joinerq b l C B q lo g w wr) (hq : q < C) (hb : b < l) (hwl : w.heap.size ≤ l) {gl : Nat} (hx : Joi wr.heap.size gl B (List.replicate (20 * B) 0) w2) (hs : w2.heap.size = gl + 2) (hbk : ∃ (D : List (Nat × Nat)) (t : Int) (X : Nat), Bank.Bank b D t X w2 ∧ D.length ≤ 2 * (q + 1) ∧ t = 2 * (q + 1)) (hbt : But b wr w2) (hn : l ≠ 2 ∧ b ≠ 2)
    (hX : ∀ D t X, Bank.Bank b D t X w2 → Bank.Bank b D t X (w2.setCell ⟨l, q, none⟩ (.pointer (some ⟨gl + 1, 0, none⟩)))) :
    ∃ lo' g', Joinerq b l C B (q + 1) lo' g' w (w2.setCell ⟨l, q, none⟩ (.pointer (some ⟨gl + 1, 0, none⟩))) := by
  obtain ⟨⟨hd, h1, h2, h3⟩, h4, h5, h6, _, h8, h9, h10⟩ := h
  have szz : (w2.setCell ⟨l, q, none⟩ (.pointer (some ⟨gl + 1, 0, none⟩))).heap.size = w2.heap.size := by simp [World.setCell]
  have hgl : wr.heap.size ≤ gl := hx.1
  have h1' : Blk w2 l hd 176 := hbt.blk h1 (by omega)
  have keep : ∀ lo0 g0, l < lo0 → g0 + 2 ≤ w2.heap.size → ∀ xs, Joi lo0 g0 B xs w2 → Joi lo0 g0 B xs (w2.setCell ⟨l, q, none⟩ (.pointer (some ⟨gl + 1, 0, none⟩))) := fun lo0 g0 k0 k1 xs hh => hh.keep (by omega) fun k q0 q1 => Below.heap_setCell _ _ _ _ (by show k ≠ l; omega)
  refine ⟨fun c => if c = q then wr.heap.size else lo c, fun c => if c = q then gl else g c, ⟨_, h1'.set q _, by simpa using h2, fun c hc => ?_⟩, fun c hc => ?_, fun c hc => ?_, fun c c' hlt hc' => ?_, ?_, ?_, ?_, by omega⟩
  · rw [Array.getElem?_setIfInBounds]
    by_cases e : c = q
    · subst e; rw [if_pos rfl, if_pos (by omega)]; simp
    · rw [if_neg (fun e' => e e'.symm), h3 c (by omega)]; simp [e]
  · by_cases e : c = q
    · subst e; simp only [if_true]
      exact keep _ _ h10 (by omega) _ hx
    · simp only [e, if_false]
      have := h5 c (by omega)
      exact keep _ _ this.1 (by have := hbt.size; omega) _ ((h4 c (by omega)).but hbt (.inl (by omega)))
  · by_cases e : c = q
    · subst e; simp only [if_true]; omega
    · simp only [e, if_false]
      have := h5 c (by omega); have := hbt.size; omega
  · have hcq : c ≠ q := by omega
    simp only [hcq, if_false]
    by_cases e : c' = q
    · subst e; simp only [if_true]
      have := h5 c hlt; omega
    · simp only [e, if_false]
      exact h6 c c' hlt (by omega)
  · obtain ⟨D, t, X, k1, k2⟩ := hbk
    exact ⟨D, t, X, hX D t X k1, k2⟩
  · exact (h8.trans hbt).set (.inr (by show w.heap.size ≤ l; omega)) _
  · obtain ⟨t, fr, h'⟩ := hbt.tab h9 (fun e => hn.2 e.symm)
    exact ⟨t, fr, (Below.heap_setCell _ _ _ _ (by show _ ≠ l; exact fun e => hn.1 e.symm)).trans h'⟩

set_option maxRecDepth 100000 in
set_option maxHeartbeats 4000000 in
theorem ofJoiner_any (b : Nat) (f : M.Fmt) (C B N r X : Nat) (w : World) (hT : Wave.Tab w) (hB : Bank.Bank b [] 0 X w) (hF : Sb f C B N r) :
    Calls Tryz.prog 90 #[.pointer (some ⟨b, 0, none⟩), fv f, .func (.func 91) #[] #[]] w fun e w' => ∃ l lo g, e = .returned (.tuple #[.slice (some ⟨l, 0, none⟩) C C, .int .i64 0]) ∧ w.heap.size ≤ l ∧ Jois l w'.heap.size C B lo g (fun _ => List.replicate (20 * B) 0) w' ∧ But b w w' ∧ l < w'.heap.size := by
  have hbw : b < w.heap.size := by have := hB.1; have := hB.2.1; omega
  have nT : 2 ≠ b := by
    obtain ⟨_, _, cur, h3, h4, _⟩ := id hB
    exact Bank.tab_ne hT h3 (by omega)
  have hTl : 2 < w.heap.size := by obtain ⟨t, fr, h'⟩ := hT; exact (Array.getElem?_eq_some_iff.1 h').1
  have c2 := hF.c2
  have b8 := hF.b8
  obtain ⟨W1, hW1⟩ : ∃ W1, w.alloc (.cells (fc f) 23) = W1 := ⟨_, rfl⟩
  have sz1 : W1.heap.size = w.heap.size + 1 := by rw [← hW1]; simp
  have bel : Below w.heap.size w W1 := by rw [← hW1]; exact bel1 _ _
  have hf1 : Blk W1 w.heap.size (fc f) 23 := by rw [← hW1]; exact Blk.new w _ _
  have h1 : Calls Tryz.prog 42 #[fv f] W1 fun e w' => e = .returned (.bool true) ∧ Below W1.heap.size W1 w' := (isSub_any f W1).mono fun e w' ⟨q, he, hb, hq⟩ => ⟨by rw [he, hq.2 hF.ok], hb⟩
  have hst : ∀ w2, Below W1.heap.size W1 w2 → Joinerq b w2.heap.size C B 0 (fun _ => 0) (fun _ => 0) w (w2.alloc (.cells (ptrs C) 176)) := fun w2 b2 => by
    have b02 := bel.trans (b2.mono bel.size)
    have b03 := b02.alloc b02.size (.cells (ptrs C) 176)
    exact ⟨⟨_, Blk.new _ _ _, ptrs_size C, fun c hc => absurd hc (by omega)⟩, fun c hc => absurd hc (by omega), fun c hc => absurd hc (by omega), fun c c' _ hc => absurd hc (by omega), ⟨[], 0, X, hB.below b03 hB.2.1, by simp, by simp⟩, But.of_below b03 (Nat.le_refl _), Bank.tab_below b03 (Nat.le_refl _) hT, by rw [alloc_size]; omega⟩
  have HSt : Hid _ := hst
  have HF1 : Hid (Blk W1 w.heap.size (fc f) 23) := hf1
  obtain ⟨x0, x1, x2, x3, x4, x5, x6, x7, x8, x9⟩ := box_cells hf1
  obtain ⟨M2, M8, ML, hm⟩ : ∃ M2 M8 ML : Nat, (B = 4 ∧ M2 = 8 ∧ M8 = 32 ∧ ML = 80) ∨ (B = 8 ∧ M2 = 16 ∧ M8 = 64 ∧ ML = 160) := by
    rcases b8 with h | h
    · exact ⟨8, 32, 80, .inl ⟨h, rfl, rfl, rfl⟩⟩
    · exact ⟨16, 64, 160, .inr ⟨h, rfl, rfl, rfl⟩⟩
  have hN := hF.hN
  have hC := hF.hC
  have hBB := hF.hB
  have HBel : Hid (Below w.heap.size w W1) := bel
  clear hst hf1 hT hB hF bel
  obtain ⟨c_, r_, h_, b_, k_, m_, j_, p_, l_, y_⟩ := f
  obtain rfl : h_ = C := hC
  obtain rfl : b_ = B := hBB
  obtain rfl : k_ = N := hN
  unfold fv at h1 ⊢
  unfold fc at hW1
  dsimp only at h1 hW1 x0 x1 x2 x3 x4 x5 x6 x7 x8 x9 ⊢
  have hmk := fun wx => mkJoiner wx C (by omega)
  go_enter Tryz.func90, Tryz.ntmps90
  go_wp2_with (go_at_call 42; refine h1.mono ?_; clear h1; rintro e w2 ⟨rfl, b2⟩; have B2 : Hid (Below W1.heap.size W1 w2) := b2; have S2 : Hid _ := HSt.out w2 b2; clear HSt x0 x1 x2 x3 x4 x5 x6 x7 x8 x9; have xs := box_cells (blk_below b2 HF1.out HF1.out.lt); dsimp only at xs; obtain ⟨x0, x1, x2, x3, x4, x5, x6, x7, x8, x9⟩ := xs; clear b2)
  have s2 := B2.out.size
  go_loopw [20] (fun i wr => ∃ q : Nat, q ≤ C ∧ i = .int .i64 q ∧ (∃ lo g, Joinerq b w2.heap.size C B q lo g w wr) ∧ Blk wr w.heap.size (fc ⟨c_, r_, C, B, N, m_, j_, p_, l_, y_⟩) 23) (fun i _ => C - (intOf i).toNat)
  case atStart => exact ⟨0, by omega, rfl, ⟨_, _, S2.out⟩, (blk_below B2.out HF1.out HF1.out.lt).alloc _⟩
  case round =>
    clear S2 x0 x1 x2 x3 x4 x5 x6 x7 x8 x9
    obtain ⟨q, hq, rfl, ⟨lo, g, hl⟩, hfb⟩ := hrel
    by_cases hlt : q < C
    · have hlt' : (q : Int) < C := by omega
      obtain ⟨D, t, Y, hBk, hD, ht⟩ := hl.bank
      have hnew := Poly.newJoiner_at B M2 M8 ML b Y D t wr hm hl.tab hBk (by omega) (by omega) (by omega)
      have HN : Hid (Calls _ _ _ _ _) := hnew
      have x3 : wr.cell? ⟨w.heap.size, 3, none⟩ = some (.int .i64 (B : Int)) := hfb.cell rfl
      have HL : Hid (Joinerq b w2.heap.size C B q lo g w wr) := hl
      have HFb : Hid (Blk wr w.heap.size (fc ⟨c_, r_, C, B, N, m_, j_, p_, l_, y_⟩) 23) := hfb
      have hDl : (Bank.ins (Bank.ins D 2 B) 0 M8).length ≤ 2 * (q + 1) := by
        have a1 : ∀ (D : List (Nat × Nat)) k n, (Bank.ins D k n).length ≤ D.length + 1 := fun D k n => by unfold Bank.ins; split <;> simp
        have := a1 D 2 B; have := a1 (Bank.ins D 2 B) 0 M8; omega
      have hall : ∀ gl w3, Joi wr.heap.size gl B (List.replicate (20 * B) 0) w3 → w3.heap.size = gl + 2 → (∃ Z, Bank.Bank b (Bank.ins (Bank.ins D 2 B) 0 M8) (t + 2) Z w3) → But b wr w3 →
          (∃ u, w3.cell? ⟨w2.heap.size, q, none⟩ = some u) ∧ w3.frozen? ⟨w2.heap.size, q, none⟩ = false ∧ (∃ lo' g', Joinerq b w2.heap.size C B (q + 1) lo' g' w (w3.setCell ⟨w2.heap.size, q, none⟩ (.pointer (some ⟨gl + 1, 0, none⟩)))) ∧ Blk w3 w.heap.size (fc ⟨c_, r_, C, B, N, m_, j_, p_, l_, y_⟩) 23 := by
        intro gl w3 sp3 sz3 bk3 bt3
        obtain ⟨hd, t1, t2, _⟩ := hl.top
        have t3 : Blk w3 w2.heap.size hd 176 := bt3.blk t1 (by omega)
        refine ⟨⟨hd[q]'(by omega), t3.cell (by simp [t2, hlt])⟩, t3.free q, hl.step hlt (by omega) (by omega) sp3 sz3 ?_ bt3 ⟨by omega, fun e => nT e.symm⟩ (fun D t X hX => bank_set hX t3 (by decide) (by omega) _), bt3.blk hfb (by omega)⟩
        obtain ⟨Z, hZ⟩ := bk3
        exact ⟨_, _, Z, hZ, hDl, by omega⟩
      have HAll : Hid _ := hall
      clear hl hfb hBk hnew hall
      go_wp2_with (go_at_call 91; refine HN.out.mono ?_; clear HN; rintro e w3 ⟨gl, rfl, sp3, sz3, bk3, bt3⟩; obtain ⟨⟨u, hu⟩, hfz, hst3, hf3⟩ := HAll.out gl w3 sp3 sz3 bk3 bt3; have HS3 : Hid _ := hst3; have HF3 : Hid (Blk w3 w.heap.size (fc ⟨c_, r_, C, B, N, m_, j_, p_, l_, y_⟩) 23) := hf3; clear hst3 sp3 sz3 bk3 bt3 hf3)
      go_roundw
      case rel => exact ⟨q + 1, by omega, by go_num, HS3.out, HF3.out.set_ne (by show w.heap.size ≠ w2.heap.size; omega) _⟩
      case measure => simp [intOf]; omega
    · obtain rfl : C = q := by omega
      have HL : Hid (Joinerq b w2.heap.size C B C lo g w wr) := hl
      clear hl hfb
      go_wp2
      go_ret2
      have hl := HL.out
      exact ⟨_, lo, g, rfl, by omega, ⟨hl.top, hl.obj, hl.low, hl.ord⟩, hl.but, hl.lt⟩

end Sub
end Go.Proofs.YtcaifpjbjghhaaaGreatDoor

/-
  Contracts of slices.Chunk over []int16: an iterator over blocks of B samples. Conditions: as told at each.
-/
namespace Go.Proofs.YtcaifpjbjghhaaaGreatDoor
set_option linter.unusedVariables false
open Go.RowKit Go.Shelf
namespace Sub
open Bank (Blk But)
open Poly (Reads cell_keep alloc_size elem16 size16 add_off)
open _root_.Go.Proofs.YtcaifpjbjghhaaaGreatDoor.Form (fv fc bel1 blk_below)
attribute [local go_sem] Oper.semAt_some

theorem cut_rest (b off L c i : Nat) (hi : i < L) (hc : L ≤ c) (wx : World) : (Instr.slice 55 (.slice (some ⟨b, off, none⟩) L c) (some (.int .i64 (i : Int))) none none).run Tryz.prog wx = .ok (.slice (some ⟨b, off + i, none⟩) (L - i) (c - i)) wx := by
  rw [run_slice_l (P := Tryz.prog) wx 55 _ L c (by rw [elem16]; exact Tryz.underlying55) .i64 i (by omega) (by omega), elem16, size16]
  show Result.ok (Go.sliced _ (i : Int).toNat L c 1) wx = _
  unfold Go.sliced
  rw [if_neg (by omega), show (i : Int).toNat = i from by omega]
  simp [add_off]
theorem cut_mid (b off L c i m : Nat) (hi : i + m ≤ L) (hm : 0 < m) (hc : L ≤ c) (wx : World) : (Instr.slice 55 (.slice (some ⟨b, off, none⟩) L c) (some (.int .i64 (i : Int))) (some (.int .i64 ((i : Int) + (m : Int)))) (some (.int .i64 ((i : Int) + (m : Int))))).run Tryz.prog wx = .ok (.slice (some ⟨b, off + i, none⟩) m m) wx := by
  rw [run_slice_lhm (P := Tryz.prog) wx 55 _ L c (by rw [elem16]; exact Tryz.underlying55) .i64 .i64 .i64 i (i + m) (i + m) (by omega) (by omega) (by omega) (by omega), elem16, size16]
  show Result.ok (Go.sliced _ (i : Int).toNat ((i : Int) + (m : Int)).toNat ((i : Int) + (m : Int)).toNat 1) wx = _
  unfold Go.sliced
  rw [if_neg (by omega), show ((i : Int) + (m : Int)).toNat = i + m from by omega, show (i : Int).toNat = i from by omega]
  simp [add_off]

def cv {N : Nat} (xb xo B : Nat) (x : Fin N) : Value := .slice (some ⟨xb, xo + x.val * B, none⟩) B B
def KC (Bs Bn : Nat) (W W' : World) : Prop := W'.heap[Bs]? = W.heap[Bs]? ∧ W'.heap[Bn]? = W.heap[Bn]?
theorem KC.t {Bs Bn : Nat} {A B C : World} (h : KC Bs Bn A B) (k : KC Bs Bn B C) : KC Bs Bn A C := ⟨k.1.trans h.1, k.2.trans h.2⟩
theorem KC.b {Bs Bn : Nat} {w : World} (hs : Bs < w.heap.size) (hn : Bn < w.heap.size) (W : World) (l : Nat) (o o' : Obj) (hl : w.heap.size ≤ l) (h : W.heap[l]? = some o) (_ : o.isCells = false) (_ : o.isWalk = false) : KC Bs Bn W (W.putObj l o') :=
  ⟨World.putObj_heap_other (by omega), World.putObj_heap_other (by omega)⟩
theorem drew_grown (w : World) (row : Option Nat) : w.grownBy w.drew row := ⟨rfl, rfl, rfl, Nat.le_refl _, fun _ _ _ => rfl⟩

set_option maxRecDepth 100000 in
set_option maxHeartbeats 2000000 in
theorem chunk1_in (n l Bs Bn xb xo xc N B L : Nat) (hL : L = N * B) (hc : L ≤ xc) (B1 : 1 ≤ B) (B8 : B ≤ 8) (N16 : N ≤ 16) (J Jx : List (Fin N) → World → Prop) (b0 : Nat) (hA : AbidesFrom b0 J)
    (hY : ∀ pre (x : Fin N) W, J pre W → pre.length < 10000 → YieldAt Fence.wide (n - 1) Tryz.prog l #[cv xb xo B x] W fun e W' =>
      (e = .returned (.bool true) ∧ J (pre ++ [x]) W' ∧ KC Bs Bn W W') ∨ (e = .returned (.bool false) ∧ Jx (pre ++ [x]) W'))
    (W : World) (hBs : Blk W Bs #[.slice (some ⟨xb, xo, none⟩) L xc] 55) (hBn : Blk W Bn #[.int .i64 (B : Int)] 3) (h0 : J [] W) :
    CallsIn Fence.wide n Tryz.prog 189 #[.func (.yield l) #[] #[], .pointer (some ⟨Bs, 0, none⟩), .pointer (some ⟨Bn, 0, none⟩)] W fun e W' => (∃ v, e = .returned v) ∧
      ((∃ ys, ys = List.finRange N ∧ J ys W') ∨ (∃ pre, True ∧ Jx pre W')) := by
  have HY : Hid _ := hY
  have HA : Hid (∀ s W', J s W' → J s W'.drew) := fun s W' h => hA s W' W'.drew none h (drew_grown _ _) (fun r e => by cases e)
  have HS : Hid (Blk W Bs #[.slice (some ⟨xb, xo, none⟩) L xc] 55) := hBs
  have HN : Hid (Blk W Bn #[.int .i64 (B : Int)] 3) := hBn
  have hlen : ∀ q, ((List.finRange N).take q).length < 10000 := fun q => by simp; omega
  have HLen : Hid _ := hlen
  have hcut := fun i (h : i < L) wx => cut_rest xb xo L xc i h hc wx
  have HC1 : Hid _ := hcut
  have hmid := fun i (h : i + B ≤ L) wx => cut_mid xb xo L xc i B h B1 hc wx
  have HC2 : Hid _ := hmid
  have hL' : L ≤ 128 := by rw [hL]; have := Nat.mul_le_mul N16 B8; omega
  have HL : Hid (L = N * B) := hL
  clear hY hA hBs hBn hlen hcut hmid hL hc
  refine callsIn_of_wp Tryz.func189 rfl trivial ?_ rfl
  simp only [Tryz.ntmps189, List.size_toArray, List.length_cons, List.length_nil, Nat.reduceAdd, Nat.reduceSub, Array.replicate_succ, Array.replicate_zero, List.push_toArray, List.append_toArray, List.nil_append, List.cons_append]
  gi_wp2
  gi_loopw [4] (fun i wr => ∃ q k : Nat, q ≤ N ∧ k = q * B ∧ i = .int .i64 k ∧ J ((List.finRange N).take q) wr ∧ Blk wr Bs #[.slice (some ⟨xb, xo, none⟩) L xc] 55 ∧ Blk wr Bn #[.int .i64 (B : Int)] 3) (fun i _ => L - (intOf i).toNat)
  case atStart => exact ⟨0, 0, by omega, by simp, rfl, h0, HS.out, HN.out⟩
  case round =>
    clear HS HN h0
    obtain ⟨q, k, hq, hk, rfl, hJ, hs, hn⟩ := hrel
    have s0 : wr.cell? ⟨Bs, 0, none⟩ = some (.slice (some ⟨xb, xo, none⟩) L xc) := hs.cell rfl
    have n0 : wr.cell? ⟨Bn, 0, none⟩ = some (.int .i64 (B : Int)) := hn.cell rfl
    have HJ : Hid (J _ wr) := hJ
    have HS : Hid (Blk wr Bs #[.slice (some ⟨xb, xo, none⟩) L xc] 55) := hs
    have HN : Hid (Blk wr Bn #[.int .i64 (B : Int)] 3) := hn
    have HK : Hid (k = q * B) := hk
    by_cases hlt : q < N
    · have hkb : k + B ≤ L := by rw [HL.out, hk]; have := Nat.mul_le_mul_right B (Nat.succ_le_of_lt hlt); rw [Nat.succ_mul] at this; exact this
      have hkl : k < L := by omega
      have hkl' : (k : Int) < L := by omega
      have c1 := HC1.out k hkl
      have c2 := HC2.out k hkb
      have hmin : min (B : Int) ((L - k : Nat) : Int) = B := by omega
      clear hJ hs hn hk
      gi_wp2
      refine wpIn_wide.2 ?_
      obtain ⟨fn, tmps, assign, body, hy, hR⟩ := HY.out _ ⟨q, hlt⟩ wr.drew (HA.out _ _ HJ.out) (HLen.out q)
      unfold cv at hy
      dsimp only at hy
      rw [← HK.out] at hy
      go_region
      clear c1 hmin
      gi_wp2
      refine ⟨fun h => by simp [Fence.wide] at h, hR.mono ?_⟩
      clear hR hy
      rintro e W3 (⟨rfl, hJ3, hk3⟩ | ⟨rfl, hJx3⟩)
      · have HJ3 : Hid _ := hJ3
        have hs3 : Blk W3 Bs #[.slice (some ⟨xb, xo, none⟩) L xc] 55 := hk3.1.trans HS.out
        have hn3 : Blk W3 Bn #[.int .i64 (B : Int)] 3 := hk3.2.trans HN.out
        have n3 : W3.cell? ⟨Bn, 0, none⟩ = some (.int .i64 (B : Int)) := hn3.cell rfl
        have HS3 : Hid (Blk W3 Bs #[.slice (some ⟨xb, xo, none⟩) L xc] 55) := hs3
        have HN3 : Hid (Blk W3 Bn #[.int .i64 (B : Int)] 3) := hn3
        clear hJ3 hk3 hs3 hn3 s0 n0
        gi_wp2
        go_roundw
        case rel => exact ⟨q + 1, k + B, by omega, by rw [HK.out, Nat.succ_mul], by go_num, by rw [take_fin hlt]; exact HJ3.out, HS3.out, HN3.out⟩
        case measure => simp [intOf]; omega
      · have HJ3 : Hid _ := hJx3
        clear hJx3
        gi_wp2
        refine bodyPost_ret (results_none rfl _ _ _) rfl ?_
        exact ⟨⟨_, rfl⟩, .inr ⟨_, trivial, HJ3.out⟩⟩
    · obtain rfl : N = q := by omega
      have hkl : k = L := by rw [HL.out, hk]
      clear hs hn hk
      gi_wp2
      go_end0
      exact ⟨⟨_, rfl⟩, .inl ⟨_, rfl, by have := HJ.out; rw [take_all] at this; exact this⟩⟩

theorem chunk_stops (n Bs Bn xb xo xc N B L : Nat) (hL : L = N * B) (hc : L ≤ xc) (B1 : 1 ≤ B) (B8 : B ≤ 8) (N16 : N ≤ 16) (w : World) (hBs : Blk w Bs #[.slice (some ⟨xb, xo, none⟩) L xc] 55) (hBn : Blk w Bn #[.int .i64 (B : Int)] 3) :
    SeqStopsK Fence.wide n Tryz.prog 189 #[.pointer (some ⟨Bs, 0, none⟩), .pointer (some ⟨Bn, 0, none⟩)] (fun x : Fin N => #[cv xb xo B x]) (KC Bs Bn) (fun ys => ys = List.finRange N) (fun _ => True) 10000 w := fun l J Jx W hW hA _ hY h0 =>
  chunk1_in n l Bs Bn xb xo xc N B L hL hc B1 B8 N16 J Jx W.heap.size hA hY W ((hW.block Bs hBs.lt).trans hBs) ((hW.block Bn hBn.lt).trans hBn) h0

set_option maxRecDepth 100000 in
theorem chunk_any (xb xo xc B L : Nat) (B1 : 1 ≤ B) (w : World) : Calls Tryz.prog 147 #[.slice (some ⟨xb, xo, none⟩) L xc, .int .i64 (B : Int)] w fun e w' => e = .returned (.func (.func 189) #[] #[.pointer (some ⟨w.heap.size, 0, none⟩), .pointer (some ⟨w.heap.size + 1, 0, none⟩)]) ∧ w' = (w.alloc (.cells #[.slice (some ⟨xb, xo, none⟩) L xc] 55)).alloc (.cells #[.int .i64 (B : Int)] 3) := by
  have hb : ((B : Int) < 1) = False := eq_false (by omega)
  have hb2 : ¬ ((B : Int) < 1) := by omega
  go_enter Tryz.func147, Tryz.ntmps147
  go_wp2
  go_ret
  exact ⟨rfl, rfl⟩

end Sub
end Go.Proofs.YtcaifpjbjghhaaaGreatDoor

