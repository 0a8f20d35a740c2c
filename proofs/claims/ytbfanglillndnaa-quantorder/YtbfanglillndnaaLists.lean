/-
  Lists in memory: whole blocks, what a call may turn, lists that are read, made, filled, gathered, given. Plain facts, no walk; no function of the program is in it. Conditions: as told at each.
-/
import Derived.Test.YtbfanglillndnaaProg
import Derived.Below
import Derived.WalkKit
import Derived.OpenShut
import Derived.Deep.Quiet
import Derived.Deep.QuietTactic
import Derived.Laws.Rows
import Derived.Laws.CopyOwn
import Derived.Lib.SliceRun
import Derived.OwnWalk
import Derived.Laws.OwnMore
import Derived.ChangeSlices
import Derived.ProofKit
namespace Go.Proofs.Ytbfanglillndnaa
set_option linter.unusedVariables false
open Go.RowKit
namespace Bank

/-- a whole block -/
def Blk (w : World) (b : Nat) (cur : Array Value) (t : TypeId) : Prop := w.heap[b]? = some (.cells cur t (0, 0))
theorem Blk.lt {w : World} {b : Nat} {cur : Array Value} {t : TypeId} (h : Blk w b cur t) : b < w.heap.size := (Array.getElem?_eq_some_iff.1 h).1
theorem Blk.cell {w : World} {b : Nat} {cur : Array Value} {t : TypeId} (h : Blk w b cur t) {o : Nat} {v : Value} (hv : cur[o]? = some v) : w.cell? ⟨b, o, none⟩ = some v := by
  unfold Blk at h; simp [World.cell?, h, hv]
theorem Blk.free {w : World} {b : Nat} {cur : Array Value} {t : TypeId} (h : Blk w b cur t) (o : Nat) : w.frozen? ⟨b, o, none⟩ = false := by
  unfold Blk at h; simp [World.frozen?, h]
theorem Blk.same {w : World} {b : Nat} {cur cur' : Array Value} {t t' : TypeId} (h : Blk w b cur t) (h' : Blk w b cur' t') : cur = cur' ∧ t = t' := by
  unfold Blk at h h'
  rw [h] at h'
  simp at h'
  exact h'
theorem Blk.ne {w : World} {b b' : Nat} {cur cur' : Array Value} {t t' : TypeId} (h : Blk w b cur t) (h' : Blk w b' cur' t') (hne : t ≠ t') : b ≠ b' := by
  rintro rfl
  exact hne (h.same h').2
theorem Blk.drewN {w : World} {b : Nat} {cur : Array Value} {t : TypeId} (h : Blk w b cur t) (m : Nat) : Blk (w.drewN m) b cur t := h
theorem Blk.drew {w : World} {b : Nat} {cur : Array Value} {t : TypeId} (h : Blk w b cur t) : Blk w.drew b cur t := h
theorem Blk.set {w : World} {b : Nat} {cur : Array Value} {t : TypeId} (h : Blk w b cur t) (o : Nat) (v : Value) : Blk (w.setCell ⟨b, o, none⟩ v) b (cur.setIfInBounds o v) t := by
  unfold Blk at h ⊢
  simp [World.setCell, Array.getElem?_modify, h]
theorem Blk.set_ne {w : World} {b : Nat} {cur : Array Value} {t : TypeId} (h : Blk w b cur t) {a : Addr} (hne : b ≠ a.block) (v : Value) : Blk (w.setCell a v) b cur t := by
  unfold Blk at h ⊢
  rw [Below.heap_setCell _ _ _ _ hne]; exact h
theorem Blk.alloc {w : World} {b : Nat} {cur : Array Value} {t : TypeId} (h : Blk w b cur t) (o : Obj) : Blk (w.alloc o) b cur t := by
  have hl := h.lt
  unfold Blk at h ⊢
  rw [Below.heap_alloc _ _ _ hl]; exact h
theorem Blk.new (w : World) (c : Array Value) (t : TypeId) : Blk (w.alloc (.cells c t)) w.heap.size c t := heap_alloc_new w _

/-- nothing that was there has turned, but for block b -/
structure But (b : Nat) (w w' : World) : Prop where
  os : w'.os = w.os
  tape : w'.tape = w.tape
  output : w'.output = w.output
  size : w.heap.size ≤ w'.heap.size
  block : ∀ k, k < w.heap.size → k ≠ b → w'.heap[k]? = w.heap[k]?
theorem But.refl (b : Nat) (w : World) : But b w w := ⟨rfl, rfl, rfl, Nat.le_refl _, fun _ _ _ => rfl⟩
theorem But.trans {b : Nat} {a c d : World} (h : But b a c) (k : But b c d) : But b a d :=
  ⟨k.os.trans h.os, k.tape.trans h.tape, k.output.trans h.output, Nat.le_trans h.size k.size, fun i hi hb => (k.block i (Nat.lt_of_lt_of_le hi h.size) hb).trans (h.block i hi hb)⟩
theorem But.drewN {b : Nat} {w w' : World} (h : But b w w') (m : Nat) : But b w (w'.drewN m) := ⟨h.os, h.tape, h.output, h.size, h.block⟩
theorem But.drew {b : Nat} {w w' : World} (h : But b w w') : But b w w'.drew := ⟨h.os, h.tape, h.output, h.size, h.block⟩
theorem But.alloc {b : Nat} {w w' : World} (h : But b w w') (o : Obj) : But b w (w'.alloc o) :=
  h.trans ⟨rfl, rfl, rfl, by simp, fun k hk _ => Below.heap_alloc _ _ _ hk⟩
theorem But.set {b : Nat} {w w' : World} (h : But b w w') {a : Addr} (ha : a.block = b ∨ w.heap.size ≤ a.block) (v : Value) : But b w (w'.setCell a v) :=
  ⟨h.os, h.tape, h.output, by simpa [World.setCell] using h.size, fun k hk hb => by rw [Below.heap_setCell _ _ _ _ (by omega)]; exact h.block k hk hb⟩
theorem But.blk {b : Nat} {w w' : World} (h : But b w w') {k : Nat} {cur : Array Value} {t : TypeId} (hk : Blk w k cur t) (hb : k ≠ b) : Blk w' k cur t :=
  (h.block k hk.lt hb).trans hk
theorem But.below {b B : Nat} {w w' : World} (h : But b w w') (hB : B ≤ b) (hs : B ≤ w.heap.size) : Below B w w' :=
  ⟨h.os, h.tape, h.output, h.size, fun k hk => h.block k (by omega) (by omega)⟩
theorem But.of_below {b B : Nat} {w w' : World} (h : Below B w w') (hB : w.heap.size ≤ B) : But b w w' :=
  ⟨h.os, h.tape, h.output, h.size, fun k hk _ => h.block k (by omega)⟩
theorem But.grown {b : Nat} {a w w' : World} {row : Option Nat} (h : But b a w) (hg : w.grownBy w' row) (hr : ∀ k, row = some k → a.heap.size ≤ k) : But b a w' :=
  ⟨hg.os.trans h.os, hg.tape.trans h.tape, hg.output.trans h.output, Nat.le_trans h.size hg.size, fun k hk hb =>
    (hg.block k (by have := h.size; omega) (fun e => by have := hr k e.symm; omega)).trans (h.block k hk hb)⟩

end Bank
namespace M
def fits16 (zs : List Int) : Prop := ∀ z ∈ zs, -32768 ≤ z ∧ z ≤ 32767
def fits32 (zs : List Int) : Prop := ∀ z ∈ zs, -2147483648 ≤ z ∧ z ≤ 2147483647
theorem getD_append (A B : List Int) (i : Nat) : (A ++ B).getD i 0 = if i < A.length then A.getD i 0 else B.getD (i - A.length) 0 := by
  simp only [List.getD]
  split
  · rename_i h; rw [List.getElem?_append_left h]
  · rename_i h; rw [List.getElem?_append_right (by omega)]
theorem getD_take {A : List Int} {n i : Nat} (h : i < n) : (A.take n).getD i 0 = A.getD i 0 := by
  simp only [List.getD]
  rw [List.getElem?_take, if_pos h]
theorem getD_rep (n i : Nat) : (List.replicate n (0 : Int)).getD i 0 = 0 := by
  simp only [List.getD]
  rw [List.getElem?_replicate]
  split <;> rfl
end M
namespace Poly
open Bank (Blk But)

theorem wf16 {z : Int} : (Lit.int .i16 z).wf = true ↔ -32768 ≤ z ∧ z ≤ 32767 := by simp [Lit.wf, IntKind.min, IntKind.max, IntKind.signed, IntKind.bits]
theorem wf32 {z : Int} : (Lit.int .i32 z).wf = true ↔ -2147483648 ≤ z ∧ z ≤ 2147483647 := by simp [Lit.wf, IntKind.min, IntKind.max, IntKind.signed, IntKind.bits]
theorem fit16 {zs : List Int} : (∀ z ∈ zs, (Lit.int .i16 z).wf = true) ↔ M.fits16 zs := ⟨fun h z hz => wf16.1 (h z hz), fun h z hz => wf16.2 (h z hz)⟩
theorem fit32 {zs : List Int} : (∀ z ∈ zs, (Lit.int .i32 z).wf = true) ↔ M.fits32 zs := ⟨fun h z hz => wf32.1 (h z hz), fun h z hz => wf32.2 (h z hz)⟩

theorem add_at (g j : Nat) : (⟨g, 0, none⟩ : Addr).add j = ⟨g, j, none⟩ := by
  unfold Addr.add; split <;> simp_all
theorem add_off (g o j : Nat) : (⟨g, o, none⟩ : Addr).add j = ⟨g, o + j, none⟩ := by
  unfold Addr.add; split <;> simp_all
def enc (k : IntKind) (zs : List Int) : List Value := zs.map fun z : Int => Value.int k z
theorem enc_get {k : IntKind} {zs : List Int} {i : Nat} (h : i < zs.length) : (enc k zs)[i]? = some (.int k (zs.getD i 0)) := by
  simp [enc, List.getD, h]
theorem enc_length (k : IntKind) (zs : List Int) : (enc k zs).length = zs.length := by simp [enc]
theorem enc_one (k : IntKind) (zs : List Int) : ∀ u ∈ enc k zs, u.oneCell' = true := by
  intro u hu
  obtain ⟨z, _, rfl⟩ := List.mem_map.1 hu
  rfl

/-- v reads as zs, in blocks from lo on below hi -/
def Reads (k : IntKind) (lo hi : Nat) (w : World) (v : Value) (zs : List Int) : Prop :=
  ∃ a c, v = .slice a zs.length c ∧ zs.length ≤ c ∧ (∀ z ∈ zs, (Lit.int k z).wf = true) ∧ (zs = [] ∨ ∃ b off, a = some ⟨b, off, none⟩ ∧ lo ≤ b ∧ b < hi ∧ ∀ i, i < zs.length → w.cell? ⟨b, off + i, none⟩ = some (.int k (zs.getD i 0)))
theorem cell_keep {w w' : World} {b o : Nat} (h : w'.heap[b]? = w.heap[b]?) : w'.cell? ⟨b, o, none⟩ = w.cell? ⟨b, o, none⟩ := by simp [World.cell?, h]
theorem Reads.keep {k : IntKind} {lo hi : Nat} {w w' : World} {v : Value} {zs : List Int} (h : Reads k lo hi w v zs) (hk : ∀ b, lo ≤ b → b < hi → w'.heap[b]? = w.heap[b]?) : Reads k lo hi w' v zs := by
  obtain ⟨a, c, rfl, hl, hw, h | ⟨b, off, ha, h0, h1, hx⟩⟩ := h
  · exact ⟨a, c, rfl, hl, hw, .inl h⟩
  · exact ⟨a, c, rfl, hl, hw, .inr ⟨b, off, ha, h0, h1, fun i hi => (cell_keep (hk b h0 h1)).trans (hx i hi)⟩⟩
theorem Reads.mono {k : IntKind} {lo hi lo' hi' : Nat} {w : World} {v : Value} {zs : List Int} (h : Reads k lo hi w v zs) (h0 : lo' ≤ lo) (h1 : hi ≤ hi') : Reads k lo' hi' w v zs := by
  obtain ⟨a, c, rfl, hl, hw, h | ⟨b, off, ha, k0, k1, hx⟩⟩ := h
  · exact ⟨a, c, rfl, hl, hw, .inl h⟩
  · exact ⟨a, c, rfl, hl, hw, .inr ⟨b, off, ha, by omega, by omega, hx⟩⟩
theorem Reads.drewN {k : IntKind} {lo hi : Nat} {w : World} {v : Value} {zs : List Int} (h : Reads k lo hi w v zs) (m : Nat) : Reads k lo hi (w.drewN m) v zs := h
theorem Reads.drew {k : IntKind} {lo hi : Nat} {w : World} {v : Value} {zs : List Int} (h : Reads k lo hi w v zs) : Reads k lo hi w.drew v zs := h
theorem Reads.form {k : IntKind} {lo hi : Nat} {w : World} {v : Value} {zs : List Int} (h : Reads k lo hi w v zs) : ∃ a c, v = .slice a zs.length c := by
  obtain ⟨a, c, h, _⟩ := h; exact ⟨a, c, h⟩
theorem Reads.cell {k : IntKind} {lo hi : Nat} {w : World} {a : Option Addr} {l c : Nat} {zs : List Int} (h : Reads k lo hi w (.slice a l c) zs) (hz : 0 < zs.length) : ∃ b off, a = some ⟨b, off, none⟩ ∧ lo ≤ b ∧ b < hi ∧ ∀ i, i < zs.length → w.cell? ⟨b, off + i, none⟩ = some (.int k (zs.getD i 0)) := by
  obtain ⟨a', c', he, hl, hw, h⟩ := h
  cases he
  rcases h with rfl | h
  · exact absurd hz (by simp)
  · exact h
theorem Reads.but {k : IntKind} {lo hi g : Nat} {w w' : World} {v : Value} {zs : List Int} (h : Reads k lo hi w v zs) (hb : But g w w') (hs : hi ≤ w.heap.size) (hg : g < lo ∨ hi ≤ g) : Reads k lo hi w' v zs :=
  h.keep fun b h0 h1 => hb.block b (by omega) (by omega)
theorem Reads.below {k : IntKind} {lo hi B : Nat} {w w' : World} {v : Value} {zs : List Int} (h : Reads k lo hi w v zs) (hb : Below B w w') (hs : hi ≤ B) : Reads k lo hi w' v zs :=
  h.keep fun b h0 h1 => hb.block b (by omega)

/-- a block that holds zs and nothing else, read from its head -/
theorem reads_blk {k : IntKind} {w : World} {g : Nat} {zs : List Int} {t : TypeId} (h : Blk w g (enc k zs).toArray t) (hw : ∀ z ∈ zs, (Lit.int k z).wf = true) : Reads k g (g + 1) w (.slice (some ⟨g, 0, none⟩) zs.length zs.length) zs :=
  ⟨_, _, rfl, Nat.le_refl _, hw, .inr ⟨g, 0, rfl, Nat.le_refl _, Nat.lt_succ_self _, fun i hi => by rw [Nat.zero_add]; exact h.cell (by rw [List.getElem?_toArray]; exact enc_get hi)⟩⟩
/-- a row that a call owns -/
theorem reads_own {k : IntKind} {w : World} {B : Nat} {t : TypeId} {v : Value} {zs : List Int} (h : w.ownsRow B t 1 v zs.length (enc k zs)) (hw : ∀ z ∈ zs, (Lit.int k z).wf = true) : Reads k B w.heap.size w v zs := by
  rcases id h.2 with ⟨rfl, h0⟩ | ⟨g, cap, cur, rfl, hg, hh, h1, h2, h3, h4⟩
  · obtain rfl : zs = [] := List.length_eq_zero_iff.1 h0
    exact ⟨none, 0, rfl, Nat.le_refl _, hw, .inl rfl⟩
  · refine ⟨_, cap, rfl, by omega, hw, .inr ⟨g, 0, rfl, hg, (Array.getElem?_eq_some_iff.1 hh).1, fun i hi => ?_⟩⟩
    have := h.cells (g := g) rfl i _ (enc_get hi)
    rw [add_at] at this
    rw [Nat.zero_add]; exact this

theorem But.setRow {b : Nat} {w w' : World} (h : But b w w') (cs : Array Value) : But b w (w'.setRow b cs) :=
  ⟨h.os, h.tape, h.output, by simpa using h.size, fun k hk hb => by rw [setRow_other _ _ _ _ hb]; exact h.block k hk hb⟩
theorem But.setRow_new {b g : Nat} {w w' : World} (h : But b w w') (hg : w.heap.size ≤ g) (cs : Array Value) : But b w (w'.setRow g cs) :=
  ⟨h.os, h.tape, h.output, by simpa using h.size, fun k hk hb => by rw [setRow_other _ _ _ _ (by omega)]; exact h.block k hk hb⟩
theorem Blk.setRow {w : World} {b : Nat} {cur : Array Value} {t : TypeId} (h : Blk w b cur t) (cs : Array Value) : Blk (w.setRow b cs) b cs t := setRow_heap w b cur cs t (0, 0) h
theorem Blk.setRow_ne {w : World} {b g : Nat} {cur : Array Value} {t : TypeId} (h : Blk w b cur t) (hne : b ≠ g) (cs : Array Value) : Blk (w.setRow g cs) b cur t := (setRow_other w g b cs hne).trans h
theorem But.below' {b B : Nat} {a w w' : World} (h : But b a w) (hb : Below B w w') (hB : a.heap.size ≤ B) : But b a w' :=
  ⟨hb.os.trans h.os, hb.tape.trans h.tape, hb.output.trans h.output, Nat.le_trans h.size hb.size, fun k hk hne => (hb.block k (by omega)).trans (h.block k hk hne)⟩
theorem But.but' {b c : Nat} {a w w' : World} (h : But b a w) (hb : But c w w') (hc : c = b ∨ a.heap.size ≤ c) : But b a w' :=
  ⟨hb.os.trans h.os, hb.tape.trans h.tape, hb.output.trans h.output, Nat.le_trans h.size hb.size, fun k hk hne => (hb.block k (by have := h.size; omega) (by omega)).trans (h.block k hk hne)⟩
theorem below_but {b B : Nat} {a w w' : World} (h : Below B a w) (hb : But b w w') (hB : B ≤ a.heap.size) (hb' : B ≤ b) : Below B a w' :=
  ⟨hb.os.trans h.os, hb.tape.trans h.tape, hb.output.trans h.output, Nat.le_trans h.size hb.size, fun k hk => (hb.block k (by have := h.size; omega) (by omega)).trans (h.block k hk)⟩
theorem below_drewN {B : Nat} {w w' : World} (h : Below B w w') (m : Nat) : Below B w (w'.drewN m) := ⟨h.os, h.tape, h.output, h.size, h.block⟩
theorem below_drew {B : Nat} {w w' : World} (h : Below B w w') : Below B w w'.drew := ⟨h.os, h.tape, h.output, h.size, h.block⟩

/-- what 'make' lays -/
theorem madeCells_rep (z : Value) (n : Nat) : madeCells #[z] n = (List.replicate n z).toArray := by
  unfold madeCells
  apply Array.ext
  · simp
  · intro i h1 h2
    simp [Nat.mod_one]
theorem enc_rep (k : IntKind) (n : Nat) : enc k (List.replicate n 0) = List.replicate n (.int k 0) := by simp [enc]

theorem info32 : (Try.prog.info? 21).map (fun i => (i.zero, i.size, i.bytes)) = some (some (.int .i32 0), 1, 4) := by kernel_rfl

theorem info64 : (Try.prog.info? 2).map (fun i => (i.zero, i.size, i.bytes)) = some (some (.int .i64 0), 1, 8) := by kernel_rfl

theorem infoS32 : (Try.prog.info? 52).map (fun i => (i.zero, i.size, i.bytes)) = some (some (.slice none 0 0), 1, 24) := by kernel_rfl

theorem make32 (w : World) (n : Nat) (hn : n ≤ 65536) : (Instr.makeSlice 52 (.int .i64 n) (.int .i64 n)).run Try.prog w = .ok (.slice (some ⟨w.heap.size, 0, none⟩) n n) (w.alloc (.cells (enc .i32 (List.replicate n 0)).toArray 21)) := by
  obtain ⟨i0, hi, hz0, hz1, hz2⟩ := info_parts info32
  have := run_make (P := Try.prog) w 52 21 i0 (.int .i32 0) Try.underlying52 hi hz0 .i64 .i64 n n (by omega) (by omega) (by rw [hz2]; omega) (by omega)
  rw [this, hz1, enc_rep, ← madeCells_rep]; simp [Value.cells]

/-- rows of lists: v a slice of slices, in blocks from lo on below hi -/
def Rows (k : IntKind) (lo hi : Nat) (w : World) (v : Value) (zss : List (List Int)) : Prop :=
  ∃ a c, v = .slice a zss.length c ∧ zss.length ≤ c ∧ (zss = [] ∨ ∃ b off, a = some ⟨b, off, none⟩ ∧ lo ≤ b ∧ b < hi ∧ ∀ i, i < zss.length → ∃ u, w.cell? ⟨b, off + i, none⟩ = some u ∧ Reads k lo hi w u (zss.getD i []))
theorem Rows.keep {k : IntKind} {lo hi : Nat} {w w' : World} {v : Value} {zs : List (List Int)} (h : Rows k lo hi w v zs) (hk : ∀ b, lo ≤ b → b < hi → w'.heap[b]? = w.heap[b]?) : Rows k lo hi w' v zs := by
  obtain ⟨a, c, rfl, hl, h | ⟨b, off, ha, h0, h1, hx⟩⟩ := h
  · exact ⟨a, c, rfl, hl, .inl h⟩
  · refine ⟨a, c, rfl, hl, .inr ⟨b, off, ha, h0, h1, fun i hi => ?_⟩⟩
    obtain ⟨u, hu, hr⟩ := hx i hi
    exact ⟨u, (cell_keep (hk b h0 h1)).trans hu, hr.keep hk⟩
theorem Rows.mono {k : IntKind} {lo hi lo' hi' : Nat} {w : World} {v : Value} {zs : List (List Int)} (h : Rows k lo hi w v zs) (h0 : lo' ≤ lo) (h1 : hi ≤ hi') : Rows k lo' hi' w v zs := by
  obtain ⟨a, c, rfl, hl, h | ⟨b, off, ha, k0, k1, hx⟩⟩ := h
  · exact ⟨a, c, rfl, hl, .inl h⟩
  · refine ⟨a, c, rfl, hl, .inr ⟨b, off, ha, by omega, by omega, fun i hi => ?_⟩⟩
    obtain ⟨u, hu, hr⟩ := hx i hi
    exact ⟨u, hu, hr.mono h0 h1⟩
theorem Rows.drewN {k : IntKind} {lo hi : Nat} {w : World} {v : Value} {zs : List (List Int)} (h : Rows k lo hi w v zs) (m : Nat) : Rows k lo hi (w.drewN m) v zs := h
theorem Rows.but {k : IntKind} {lo hi g : Nat} {w w' : World} {v : Value} {zs : List (List Int)} (h : Rows k lo hi w v zs) (hb : But g w w') (hs : hi ≤ w.heap.size) (hg : g < lo ∨ hi ≤ g) : Rows k lo hi w' v zs :=
  h.keep fun b h0 h1 => hb.block b (by omega) (by omega)
theorem Rows.below {k : IntKind} {lo hi B : Nat} {w w' : World} {v : Value} {zs : List (List Int)} (h : Rows k lo hi w v zs) (hb : Below B w w') (hs : hi ≤ B) : Rows k lo hi w' v zs :=
  h.keep fun b h0 h1 => hb.block b (by omega)
theorem Rows.form {k : IntKind} {lo hi : Nat} {w : World} {v : Value} {zs : List (List Int)} (h : Rows k lo hi w v zs) : ∃ a c, v = .slice a zs.length c ∧ zs.length ≤ c := by
  obtain ⟨a, c, h, hl, _⟩ := h; exact ⟨a, c, h, hl⟩
theorem Rows.cell {k : IntKind} {lo hi : Nat} {w : World} {a : Option Addr} {l c : Nat} {zs : List (List Int)} (h : Rows k lo hi w (.slice a l c) zs) (hz : 0 < zs.length) : ∃ b off, a = some ⟨b, off, none⟩ ∧ lo ≤ b ∧ b < hi ∧ ∀ i, i < zs.length → ∃ u, w.cell? ⟨b, off + i, none⟩ = some u ∧ Reads k lo hi w u (zs.getD i []) := by
  obtain ⟨a', c', he, hl, h⟩ := h
  cases he
  rcases h with rfl | h
  · exact absurd hz (by simp)
  · exact h

theorem elem32 : Try.prog.elem 52 = 21 := by simp [Program.elem, Try.underlying52]

theorem size32 (w : World) : (Go.sizeOf 21).run Try.prog w = .ok 1 w := by kernel_rfl

theorem rest32 (g l n : Nat) (hn : n < l) (w : World) : (Instr.slice 52 (.slice (some ⟨g, 0, none⟩) l l) (some (.int .i64 (n : Int))) none none).run Try.prog w = .ok (.slice (some ⟨g, n, none⟩) (l - n) (l - n)) w := by
  rw [run_slice_l (P := Try.prog) w 52 _ l l (by rw [elem32]; exact Try.underlying52) .i64 n (by omega) (by omega), elem32, size32]
  show Result.ok (Go.sliced _ (n : Int).toNat l l 1) w = _
  unfold Go.sliced
  rw [if_neg (by omega)]
  simp [add_at]

/-- a list that is being filled: of the L numbers of block g the first k are told -/
def Fill (K : IntKind) (t : TypeId) (g L k : Nat) (f : Nat → Int) (w : World) : Prop := ∃ tab : Array Value, Blk w g tab t ∧ tab.size = L ∧ ∀ j, j < k → tab[j]? = some (.int K (f j))
theorem Fill.drewN {K : IntKind} {t : TypeId} {g L k : Nat} {f : Nat → Int} {w : World} (h : Fill K t g L k f w) (m : Nat) : Fill K t g L k f (w.drewN m) := h
theorem Fill.drew {K : IntKind} {t : TypeId} {g L k : Nat} {f : Nat → Int} {w : World} (h : Fill K t g L k f w) : Fill K t g L k f w.drew := h
theorem Fill.start {K : IntKind} {t : TypeId} {g L : Nat} {f : Nat → Int} {w : World} (h : Blk w g (enc K (List.replicate L 0)).toArray t) : Fill K t g L 0 f w := ⟨_, h, by simp [enc_length], fun j hj => absurd hj (by omega)⟩
theorem Fill.cell {K : IntKind} {t : TypeId} {g L k : Nat} {f : Nat → Int} {w : World} (h : Fill K t g L k f w) {j : Nat} (hj : j < L) : (∃ u, w.cell? ⟨g, j, none⟩ = some u) ∧ w.frozen? ⟨g, j, none⟩ = false := by
  obtain ⟨tab, h1, h2, _⟩ := h
  exact ⟨⟨tab[j]'(by omega), h1.cell (by simp [h2, hj])⟩, h1.free j⟩
theorem Fill.step {K : IntKind} {t : TypeId} {g L k : Nat} {f : Nat → Int} {w : World} (h : Fill K t g L k f w) (hk : k < L) {x : Int} (hx : x = f k) : Fill K t g L (k + 1) f (w.setCell ⟨g, k, none⟩ (.int K x)) := by
  obtain ⟨tab, h1, h2, h3⟩ := h
  subst hx
  refine ⟨_, h1.set _ _, by simpa using h2, fun j hj => ?_⟩
  rw [Array.getElem?_setIfInBounds]
  split
  · rename_i e; subst e; rw [if_pos (by omega)]
  · exact h3 j (by omega)
theorem Fill.whole {K : IntKind} {t : TypeId} {g L : Nat} {f : Nat → Int} {w : World} (h : Fill K t g L L f w) : Blk w g (enc K ((List.range L).map f)).toArray t := by
  obtain ⟨tab, h1, h2, h3⟩ := h
  have e : tab = (enc K ((List.range L).map f)).toArray := by
    apply Array.ext'
    apply List.ext_getElem?
    intro j
    by_cases hj : j < L
    · rw [Array.getElem?_toList, h3 j hj]
      simp [enc, hj]
    · rw [List.getElem?_eq_none (by simp; omega), List.getElem?_eq_none (by simp [enc]; omega)]
  rw [← e]; exact h1
theorem Fill.lt {K : IntKind} {t : TypeId} {g L k : Nat} {f : Nat → Int} {w : World} (h : Fill K t g L k f w) : g < w.heap.size := by
  obtain ⟨_, h, _⟩ := h; exact h.lt

theorem alloc_len (w : World) (o : Obj) : (w.alloc o).heap.size = w.heap.size + 1 := by simp
theorem own_apart {w : World} {b1 b2 e1 e2 s1 s2 n1 n2 : Nat} {v1 v2 : Value} {x1 x2 : List Value} (h1 : w.ownsRow b1 e1 s1 v1 n1 x1) (h2 : w.ownsRow b2 e2 s2 v2 n2 x2) (hne : e1 ≠ e2) : v1.ownBlock = none ∨ v1.ownBlock ≠ v2.ownBlock := by
  rcases h1.2 with ⟨rfl, _⟩ | ⟨g, c, cur, rfl, _, hg, _⟩
  · exact .inl rfl
  · rcases h2.2 with ⟨rfl, _⟩ | ⟨g2, c2, cur2, rfl, _, hg2, _⟩
    · right; simp [Value.ownBlock]
    · right
      simp only [Value.ownBlock, ne_eq, Option.some.injEq]
      rintro rfl
      rw [hg] at hg2
      simp at hg2
      exact hne hg2.2
theorem own_form {w : World} {b e n : Nat} {v : Value} {x : List Value} (h : w.ownsRow b e 1 v n x) : ∃ a c, v = .slice a n c := by
  rcases h.2 with ⟨rfl, rfl⟩ | ⟨g, c, cur, rfl, _⟩
  · exact ⟨_, _, rfl⟩
  · exact ⟨_, _, rfl⟩
theorem own_drewN {w : World} {b e s n : Nat} {v : Value} {x : List Value} (h : w.ownsRow b e s v n x) (k : Nat) : (w.drewN k).ownsRow b e s v n x := h
theorem own_mono {w : World} {b b' e s n : Nat} {v : Value} {x : List Value} (h : w.ownsRow b e s v n x) (hb : b' ≤ b) : w.ownsRow b' e s v n x := by
  refine ⟨h.1, ?_⟩
  rcases h.2 with h | ⟨g, c, cur, hv, hg, r⟩
  · exact .inl h
  · exact .inr ⟨g, c, cur, hv, by omega, r⟩

theorem alloc_size (w : World) (o : Obj) : (w.alloc o).heap.size = w.heap.size + 1 := by simp
/-- a list and an object are made -/
theorem two_new (w : World) (n : Nat) (c d : Array Value) (s t : TypeId) : Below w.heap.size w (((w.drewN n).alloc (.cells c s)).alloc (.cells d t)) :=
  ((below_drewN (Below.refl w.heap.size w) n).alloc (Nat.le_refl _) _).alloc (by rw [alloc_size]; exact Nat.le_succ _) _
theorem zeros16 (n : Nat) : M.fits16 (List.replicate n 0) := fun z hz => by rw [List.eq_of_mem_replicate hz]; decide
theorem zeros32 (n : Nat) : M.fits32 (List.replicate n 0) := fun z hz => by rw [List.eq_of_mem_replicate hz]; decide

/-- 'clear(s)', s a whole row -/
theorem run_clear_row {P : Program} (w : World) (t e ty : TypeId) (z : Value) (ht : P.underlying t = some (.slice e)) (hv : ∀ w, (zeroValue e).run P w = .ok z w) (hz : z.cells = #[z]) (h1 : z.oneCell' = true) (g n c : Nat) (cur : Array Value) (tt : TypeId)
    (hg : w.heap[g]? = some (.cells cur tt (0, 0))) (hs : cur.size = n) (hn : 0 < n) :
    (Builtin.clear_ #[t] ty #[.slice (some ⟨g, 0, none⟩) n c]).run P w = .ok (.tuple #[]) (w.setRow g (List.replicate n z).toArray) := by
  have hzc : (Builtin.zeroCells z.cells n).toList = List.replicate n z := by
    rw [hz]
    simp [Builtin.zeroCells]
    apply List.ext_getElem
    · simp
    · intro i h1 h2
      simp [Nat.mod_one]
  have hst := run_storeCells_at (P := P) g 0 tt (List.replicate n z) 0 cur w hg (by simp; omega) (by intro v hv'; rw [List.eq_of_mem_replicate hv']; exact h1)
  have hX : cur.toList.take (0 + 0) ++ List.replicate n z ++ cur.toList.drop (0 + 0 + (List.replicate n z).length) = List.replicate n z := by
    rw [List.drop_eq_nil_of_le (by simp; omega)]; simp
  rw [hX] at hst
  obtain ⟨m, rfl⟩ : ∃ m, n = m + 1 := ⟨n - 1, by omega⟩
  simp [Builtin.clear_, run_underlying ht, hv, hzc, hst]

/-- a list that is gathered, in blocks from B on -/
def Gat (k : IntKind) (t : TypeId) (B : Nat) (v : Value) (zs : List Int) (w wr : World) : Prop := wr.ownsRow B t 1 v zs.length (enc k zs) ∧ Below B w wr ∧ w.heap.size = B
theorem Gat.drewN {k : IntKind} {t : TypeId} {B : Nat} {v : Value} {zs : List Int} {w wr : World} (h : Gat k t B v zs w wr) (n : Nat) : Gat k t B v zs w (wr.drewN n) := ⟨h.1, below_drewN h.2.1 n, h.2.2⟩
theorem Gat.nil (k : IntKind) (t : TypeId) (w : World) : Gat k t w.heap.size (.slice none 0 0) [] w w := ⟨World.ownsRow_nil _ _ _ _, Below.refl _ _, rfl⟩
theorem Gat.size {k : IntKind} {t : TypeId} {B : Nat} {v : Value} {zs : List Int} {w wr : World} (h : Gat k t B v zs w wr) : B ≤ wr.heap.size := by have := h.2.1.size; have := h.2.2; omega
theorem Gat.form {k : IntKind} {t : TypeId} {B : Nat} {v : Value} {zs : List Int} {w wr : World} (h : Gat k t B v zs w wr) : ∃ a c, v = .slice a zs.length c := own_form h.1
theorem Gat.step {k : IntKind} {t : TypeId} {B : Nat} {v v' : Value} {zs : List Int} {w wr w1 : World} {c : Array Value} {ty : TypeId} {x : Int} (h : Gat k t B v zs w wr)
    (hown : w1.ownsRow B t 1 v' (zs.length + 1) (enc k zs ++ [.int k x])) (hg : (wr.alloc (.cells c ty)).grownBy w1 v.ownBlock) : Gat k t B v' (zs ++ [x]) w w1 := by
  refine ⟨?_, ?_, h.2.2⟩
  · have e : enc k (zs ++ [x]) = enc k zs ++ [.int k x] := by simp [enc]
    rw [e, List.length_append]
    exact hown
  · have hs := h.size
    exact (h.2.1.alloc hs _).grown hg (by simp; omega) (fun j hj => (h.1.lt j hj).1)
theorem Gat.reads {k : IntKind} {t : TypeId} {B : Nat} {v : Value} {zs : List Int} {w wr : World} (h : Gat k t B v zs w wr) (hw : ∀ z ∈ zs, (Lit.int k z).wf = true) : Reads k B wr.heap.size wr v zs := reads_own h.1 hw
theorem wf64 {z : Int} (h0 : -9223372036854775808 ≤ z) (h1 : z ≤ 9223372036854775807) : (Lit.int .i64 z).wf = true := by simp [Lit.wf, IntKind.min, IntKind.max, IntKind.signed, IntKind.bits]; omega

/-- a new list of nothing but 0 -/

theorem reads_new32 (w : World) (n : Nat) : Reads .i32 w.heap.size (w.heap.size + 1) (w.alloc (.cells (enc .i32 (List.replicate n 0)).toArray 21)) (.slice (some ⟨w.heap.size, 0, none⟩) n n) (List.replicate n 0) := by
  have := reads_blk (Blk.new w (enc .i32 (List.replicate n 0)).toArray 21) (fit32.2 (zeros32 n))
  simpa using this

theorem new_below {B : Nat} {w w' : World} (h : Below B w w') (hB : w.heap.size = B) (c : Array Value) (t : TypeId) : Below B w (w'.alloc (.cells c t)) := h.alloc (by have := h.size; omega) _

theorem open32 {H : Type} {enc' : TypeId × Value → H} {w : World} {base : Nat} {spare : Nat → Bool} {held : Bool} {fuel : Nat} {a : Option Addr} {len cap : Nat} {x : DataW H × List MemPlace}
    (h : DataW.trod enc' Try.prog w base spare held fuel 52 [.slice a len cap] = some x) : ∃ xs, Reads .i32 0 w.heap.size w (.slice a len cap) xs := by
  rcases Go.ChangeShapes.open_ints Try.underlying52 Try.underlying21 (by kernel_rfl) h with ⟨hcs, _⟩ | ⟨a', len', cap', zs, hcs, hb, hl, hm, hzl, _, hc, hw⟩
  · simp at hcs
    obtain ⟨rfl, rfl, rfl⟩ := hcs
    exact ⟨[], none, 0, rfl, Nat.le_refl _, fun z hz => by simp at hz, .inl rfl⟩
  · simp at hcs
    obtain ⟨rfl, rfl, rfl⟩ := hcs
    have hlm : len ≤ zs.length := by rw [hzl]; split <;> omega
    refine ⟨zs.take len, some a', cap, by rw [List.length_take, Nat.min_eq_left hlm], by rw [List.length_take]; omega, fun z hz => hw z (List.mem_of_mem_take hz), ?_⟩
    rcases Nat.eq_zero_or_pos len with h0 | h0
    · exact .inl (by rw [h0]; rfl)
    · obtain ⟨b, off, spot⟩ := a'
      have hspot : spot = none := by simpa [Addr.add] using World.cell?_spot (hc 0 (by omega))
      subst hspot
      refine .inr ⟨b, off, rfl, Nat.zero_le _, ?_, fun i hi => ?_⟩
      · have := World.block_lt_of_cell? w _ (hc 0 (by omega))
        simpa [Addr.add] using this
      · rw [List.length_take] at hi
        have k := hc i (by omega)
        rw [Go.WideShapes.add_plain] at k
        rw [k, M.getD_take (by omega)]

end Poly
end Go.Proofs.Ytbfanglillndnaa
