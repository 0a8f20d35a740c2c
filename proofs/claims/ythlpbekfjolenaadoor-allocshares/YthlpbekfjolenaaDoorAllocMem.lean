/-
  Numbers of channels' bands in memory, and the walk that tells each band. Conditions: as told at each.
-/
import Derived.Test.YthlpbekfjolenaaDoorAllocMath
import Derived.Test.YthlpbekfjolenaaDoorFormCheck
namespace Go.Proofs.YthlpbekfjolenaaDoor
set_option linter.unusedVariables false
open Go.RowKit
namespace Alloc
open Bank (Blk But)
open Poly (alloc_size)
open _root_.Go.Proofs.YthlpbekfjolenaaDoor.Form (fv fc bel1 blk_below)

/-- C rows of B numbers: the header in block a, the rows behind it; F tells them band by band -/
structure Grid (a C B : Nat) (F : Nat → Int) (w : World) : Prop where
  head : ∃ hd : Array Value, Blk w a hd 32 ∧ hd.size = C ∧ ∀ c, c < C → hd[c]? = some (.slice (some ⟨a + 1 + c, 0, none⟩) B B)
  row : ∀ c, c < C → ∃ tab : Array Value, Blk w (a + 1 + c) tab 3 ∧ tab.size = B ∧ ∀ b, b < B → tab[b]? = some (.int .i64 (F (b * C + c)))
theorem Grid.keep {a C B : Nat} {F : Nat → Int} {w w' : World} (h : Grid a C B F w) (hk : ∀ b, a ≤ b → b ≤ a + C → w'.heap[b]? = w.heap[b]?) : Grid a C B F w' := by
  obtain ⟨⟨hd, h1, h2⟩, h3⟩ := h
  refine ⟨⟨hd, (hk a (Nat.le_refl _) (by omega)).trans h1, h2⟩, fun c hc => ?_⟩
  obtain ⟨tab, t1, t2⟩ := h3 c hc
  exact ⟨tab, (hk _ (by omega) (by omega)).trans t1, t2⟩
theorem Grid.lt {a C B : Nat} {F : Nat → Int} {w : World} (h : Grid a C B F w) : a + C < w.heap.size := by
  rcases Nat.eq_zero_or_pos C with h0 | h0
  · obtain ⟨⟨hd, h1, _⟩, _⟩ := h
    have := h1.lt; omega
  · obtain ⟨tab, t1, _⟩ := h.row (C - 1) (by omega)
    have := t1.lt; omega
theorem Grid.below {a C B N : Nat} {F : Nat → Int} {w w' : World} (h : Grid a C B F w) (hb : Below N w w') (hN : a + C < N) : Grid a C B F w' := h.keep fun b h0 h1 => hb.block b (by omega)
theorem Grid.grow {a C B : Nat} {F : Nat → Int} {w w' : World} (h : Grid a C B F w) (hb : Below w.heap.size w w') : Grid a C B F w' := h.below hb h.lt
theorem Grid.at_head {a C B : Nat} {F : Nat → Int} {w : World} (h : Grid a C B F w) {c : Nat} (hc : c < C) : w.cell? ⟨a, c, none⟩ = some (.slice (some ⟨a + 1 + c, 0, none⟩) B B) := by
  obtain ⟨⟨hd, h1, _, h2⟩, _⟩ := h
  exact h1.cell (h2 c hc)
theorem Grid.at {a C B : Nat} {F : Nat → Int} {w : World} (h : Grid a C B F w) {c b : Nat} (hc : c < C) (hb : b < B) : w.cell? ⟨a + 1 + c, b, none⟩ = some (.int .i64 (F (b * C + c))) := by
  obtain ⟨tab, t1, _, t2⟩ := h.row c hc
  exact t1.cell (t2 b hb)
theorem Grid.free {a C B : Nat} {F : Nat → Int} {w : World} (h : Grid a C B F w) {c : Nat} (hc : c < C) (b : Nat) : w.frozen? ⟨a + 1 + c, b, none⟩ = false := by
  obtain ⟨tab, t1, _⟩ := h.row c hc
  exact t1.free b
theorem place {C c c' b b' : Nat} (h : c < C) (h' : c' < C) (e : b * C + c = b' * C + c') : b = b' ∧ c = c' := by
  have h1 : (b * C + c) % C = c := by rw [Nat.mul_comm, Nat.mul_add_mod, Nat.mod_eq_of_lt h]
  have h2 : (b' * C + c') % C = c' := by rw [Nat.mul_comm, Nat.mul_add_mod, Nat.mod_eq_of_lt h']
  have hc : c = c' := by rw [← h1, ← h2, e]
  subst hc
  have : b * C = b' * C := by omega
  exact ⟨Nat.eq_of_mul_eq_mul_right (by omega) this, rfl⟩
/-- one number is set -/
theorem Grid.set {a C B : Nat} {F G : Nat → Int} {w : World} (h : Grid a C B F w) {c b : Nat} (hc : c < C) (hb : b < B) {x : Int} (hx : x = G (b * C + c)) (ho : ∀ j, j ≠ b * C + c → G j = F j) : Grid a C B G (w.setCell ⟨a + 1 + c, b, none⟩ (.int .i64 x)) := by
  obtain ⟨⟨hd, h1, h2⟩, h3⟩ := h
  refine ⟨⟨hd, h1.set_ne (by show a ≠ a + 1 + c; omega) _, h2⟩, fun c' hc' => ?_⟩
  obtain ⟨tab, t1, t2, t3⟩ := h3 c' hc'
  by_cases e : c' = c
  · subst e
    refine ⟨_, t1.set b _, by simpa using t2, fun b' hb' => ?_⟩
    rw [Array.getElem?_setIfInBounds]
    split
    · rename_i e; subst e; rw [if_pos (by omega), hx]
    · rename_i e
      rw [t3 b' hb', ho _ (fun e' => e (place hc' hc' e').1.symm)]
  · refine ⟨tab, t1.set_ne (by show a + 1 + c' ≠ a + 1 + c; omega) _, t2, fun b' hb' => ?_⟩
    rw [t3 b' hb', ho _ (fun e' => e (place hc' hc e').2)]
theorem Grid.set_ne {a C B : Nat} {F : Nat → Int} {w : World} (h : Grid a C B F w) {p : Addr} (hp : p.block < a ∨ a + C < p.block) (v : Value) : Grid a C B F (w.setCell p v) :=
  h.keep fun b h0 h1 => Below.heap_setCell _ _ _ _ (by omega)
theorem Grid.ext {a C B : Nat} {F G : Nat → Int} {w : World} (h : Grid a C B F w) (e : ∀ j, j < B * C → F j = G j) : Grid a C B G w := by
  refine ⟨h.head, fun c hc => ?_⟩
  obtain ⟨tab, t1, t2, t3⟩ := h.row c hc
  refine ⟨tab, t1, t2, fun b hb => ?_⟩
  have h1 : (b + 1) * C ≤ B * C := Nat.mul_le_mul_right C hb
  rw [Nat.succ_mul] at h1
  rw [t3 b hb, e _ (by omega)]
theorem Grid.drew {a C B : Nat} {F : Nat → Int} {w : World} (h : Grid a C B F w) : Grid a C B F w.drew := ⟨h.head, h.row⟩
theorem Grid.drewN {a C B : Nat} {F : Nat → Int} {w : World} (h : Grid a C B F w) (m : Nat) : Grid a C B F (w.drewN m) := ⟨h.head, h.row⟩

/-- what a call did: blocks from N on stand as they were -/
structure Stay (N : Nat) (w w' : World) : Prop where
  size : w.heap.size ≤ w'.heap.size
  block : ∀ k, N ≤ k → k < w.heap.size → w'.heap[k]? = w.heap[k]?
theorem Stay.refl (N : Nat) (w : World) : Stay N w w := ⟨Nat.le_refl _, fun _ _ _ => rfl⟩
theorem Stay.trans {N : Nat} {a b c : World} (h : Stay N a b) (k : Stay N b c) : Stay N a c :=
  ⟨Nat.le_trans h.size k.size, fun i h0 h1 => (k.block i h0 (Nat.lt_of_lt_of_le h1 h.size)).trans (h.block i h0 h1)⟩
theorem Stay.blk {N : Nat} {w w' : World} (h : Stay N w w') {k : Nat} {cur : Array Value} {t : TypeId} (hk : Blk w k cur t) (hN : N ≤ k) : Blk w' k cur t := (h.block k hN hk.lt).trans hk
theorem Stay.of_below {N : Nat} {w w' : World} (h : Below w.heap.size w w') : Stay N w w' := ⟨h.size, fun k _ hk => h.block k hk⟩
theorem Stay.drew {N : Nat} {w w' : World} (h : Stay N w w') : Stay N w w'.drew := ⟨h.size, h.block⟩
theorem Stay.set {N : Nat} {w w' : World} (h : Stay N w w') {p : Addr} (hp : p.block < N) (v : Value) : Stay N w (w'.setCell p v) :=
  ⟨by simpa [World.setCell] using h.size, fun k h0 h1 => by rw [Below.heap_setCell _ _ _ _ (by omega)]; exact h.block k h0 h1⟩
theorem Stay.alloc {N : Nat} {w w' : World} (h : Stay N w w') (o : Obj) : Stay N w (w'.alloc o) :=
  ⟨by rw [alloc_size]; have := h.size; omega, fun k h0 h1 => by rw [Below.heap_alloc _ _ _ (Nat.lt_of_lt_of_le h1 h.size)]; exact h.block k h0 h1⟩

/-- 'tell' takes what stood before a band to what stands behind it -/
def Told (C B N : Nat) (K : FuncId) (caps : Array Value) (I : Nat → World → Prop) : Prop :=
  ∀ (c b : Nat) (w : World), c < C → b < B → N < w.heap.size → I (b * C + c) w → Calls Tryd.prog K (#[.int .i64 (c : Int), .int .i64 (b : Int)] ++ caps) w fun e w' => e = .returned (.tuple #[]) ∧ I (b * C + c + 1) w' ∧ Stay N w w'

set_option maxRecDepth 100000 in
theorem through_any (f : M.Fmt) (C B : Nat) (K : FuncId) (caps : Array Value) (I : Nat → World → Prop) (w : World) (hC : f.h = C) (hB : f.b = B) (c2 : C ≤ 2) (b8 : B ≤ 8)
    (hK : Enters Tryd.prog K) (hI : ∀ k w w', I k w → Below w.heap.size w w' → I k w') (hT : Told C B w.heap.size K caps I) (h0 : I 0 w) :
    Calls Tryd.prog 22 #[fv f, .func (.func K) #[] caps] w fun e w' => e = .returned (.tuple #[]) ∧ I (B * C) w' := by
  obtain ⟨c, r, h, b, k, m, j, p, l, y⟩ := f
  obtain rfl : h = C := hC
  obtain rfl : b = B := hB
  have HT : Hid _ := hT
  have HI : Hid (I 0 (w.alloc (.cells (fc ⟨c, r, C, B, k, m, j, p, l, y⟩) 23))) := hI 0 _ _ h0 (bel1 w _)
  have HB : Hid (Blk (w.alloc (.cells (fc ⟨c, r, C, B, k, m, j, p, l, y⟩) 23)) w.heap.size (fc ⟨c, r, C, B, k, m, j, p, l, y⟩) 23) := Blk.new w _ _
  clear hT hI h0
  have C1 : (C : Int) ≤ 2 := by omega
  have B1 : (B : Int) ≤ 8 := by omega
  unfold Enters at hK
  unfold fv
  dsimp only
  go_enter Tryd.func22, Tryd.ntmps22
  go_wp2
  go_loopw [8] (fun i wr => ∃ n : Nat, n ≤ B ∧ i = .int .i64 n ∧ I (n * C) wr ∧ Blk wr w.heap.size (fc ⟨c, r, C, B, k, m, j, p, l, y⟩) 23) (fun i _ => B - (intOf i).toNat)
  case atStart => exact ⟨0, by omega, rfl, by rw [Nat.zero_mul]; exact HI.out, HB.out⟩
  case round =>
    clear HI HB
    obtain ⟨n, hn, rfl, hi, hb⟩ := hrel
    have HI : Hid (I (n * C) wr) := hi
    have HB : Hid (Blk wr w.heap.size (fc ⟨c, r, C, B, k, m, j, p, l, y⟩) 23) := hb
    have x2 : wr.cell? ⟨w.heap.size, 2, none⟩ = some (.int .i64 C) := hb.cell rfl
    clear hi hb
    by_cases hlt : n < B
    · have hlt' : (n : Int) < B := by omega
      go_wp2
      go_loopw [13] (fun i w2 => ∃ q : Nat, q ≤ C ∧ i = .int .i64 q ∧ I (n * C + q) w2 ∧ Blk w2 w.heap.size (fc ⟨c, r, C, B, k, m, j, p, l, y⟩) 23) (fun i _ => C - (intOf i).toNat)
      case atStart => exact ⟨0, by omega, rfl, HI.out, HB.out⟩
      case round =>
        clear HI HB x2
        obtain ⟨q, hq, rfl, hi, hb⟩ := hrel
        by_cases hql : q < C
        · have hql' : (q : Int) < C := by omega
          have hcall := HT.out q n wr hql hlt hb.lt hi
          have HB : Hid (Blk wr w.heap.size (fc ⟨c, r, C, B, k, m, j, p, l, y⟩) 23) := hb
          clear hi hb
          go_wp2_with (go_at_fn K; refine hcall.mono ?_; rintro e w3 ⟨rfl, h1, h2⟩; replace h1 : Hid (I (n * C + q + 1) w3) := h1)
          go_roundw
          case rel => exact ⟨q + 1, by omega, by go_num, h1.out, h2.blk HB.out (Nat.le_refl _)⟩
          case measure => simp [intOf]; omega
        · obtain rfl : q = C := by omega
          have HI : Hid (I (n * q + q) wr) := hi
          have HB : Hid (Blk wr w.heap.size (fc ⟨c, r, q, B, k, m, j, p, l, y⟩) 23) := hb
          clear hi hb
          go_wp2
          go_roundw
          case rel => exact ⟨n + 1, by omega, by go_num, by rw [Nat.succ_mul]; exact HI.out, HB.out⟩
          case measure => simp [intOf]; omega
    · obtain rfl : n = B := by omega
      go_wp2
      go_end0
      exact ⟨rfl, HI.out⟩

end Alloc
end Go.Proofs.YthlpbekfjolenaaDoor
