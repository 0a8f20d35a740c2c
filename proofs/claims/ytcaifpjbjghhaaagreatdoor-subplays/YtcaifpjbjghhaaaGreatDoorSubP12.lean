import Derived.Test.YtcaifpjbjghhaaaGreatDoorProg
import Derived.Below
import Derived.WalkKit
import Derived.OpenShut
import Derived.Deep.Quiet
import Derived.Deep.QuietTactic
import Derived.Laws.Rows
import Derived.Laws.CopyOwn
import Derived.Lib.SliceRun
import Derived.OwnWalk
import Derived.Laws.OwnMore
import Derived.ChangeSlices
import Derived.ProofKit
/-
  Lists in memory: whole blocks, what a call may turn, lists that are read, made, filled, gathered, given. Plain facts, no walk; no function of the program is in it. Conditions: as told at each.
-/
namespace Go.Proofs.YtcaifpjbjghhaaaGreatDoor
set_option linter.unusedVariables false
open Go.RowKit
namespace Bank

def Blk (w : World) (b : Nat) (cur : Array Value) (t : TypeId) : Prop := w.heap[b]? = some (.cells cur t (0, 0))
theorem Blk.lt {w : World} {b : Nat} {cur : Array Value} {t : TypeId} (h : Blk w b cur t) : b < w.heap.size := (Array.getElem?_eq_some_iff.1 h).1
theorem Blk.cell {w : World} {b : Nat} {cur : Array Value} {t : TypeId} (h : Blk w b cur t) {o : Nat} {v : Value} (hv : cur[o]? = some v) : w.cell? ⟨b, o, none⟩ = some v := by
  unfold Blk at h; simp [World.cell?, h, hv]
theorem Blk.free {w : World} {b : Nat} {cur : Array Value} {t : TypeId} (h : Blk w b cur t) (o : Nat) : w.frozen? ⟨b, o, none⟩ = false := by
  unfold Blk at h; simp [World.frozen?, h]
theorem Blk.same {w : World} {b : Nat} {cur cur' : Array Value} {t t' : TypeId} (h : Blk w b cur t) (h' : Blk w b cur' t') : cur = cur' ∧ t = t' := by
  unfold Blk at h h'
  rw [h] at h'
  simp at h'
  exact h'
theorem Blk.ne {w : World} {b b' : Nat} {cur cur' : Array Value} {t t' : TypeId} (h : Blk w b cur t) (h' : Blk w b' cur' t') (hne : t ≠ t') : b ≠ b' := by
  rintro rfl
  exact hne (h.same h').2
theorem Blk.drewN {w : World} {b : Nat} {cur : Array Value} {t : TypeId} (h : Blk w b cur t) (m : Nat) : Blk (w.drewN m) b cur t := h
theorem Blk.drew {w : World} {b : Nat} {cur : Array Value} {t : TypeId} (h : Blk w b cur t) : Blk w.drew b cur t := h
theorem Blk.set {w : World} {b : Nat} {cur : Array Value} {t : TypeId} (h : Blk w b cur t) (o : Nat) (v : Value) : Blk (w.setCell ⟨b, o, none⟩ v) b (cur.setIfInBounds o v) t := by
  unfold Blk at h ⊢
  simp [World.setCell, Array.getElem?_modify, h]
theorem Blk.set_ne {w : World} {b : Nat} {cur : Array Value} {t : TypeId} (h : Blk w b cur t) {a : Addr} (hne : b ≠ a.block) (v : Value) : Blk (w.setCell a v) b cur t := by
  unfold Blk at h ⊢
  rw [Below.heap_setCell _ _ _ _ hne]; exact h
theorem Blk.alloc {w : World} {b : Nat} {cur : Array Value} {t : TypeId} (h : Blk w b cur t) (o : Obj) : Blk (w.alloc o) b cur t := by
  have hl := h.lt
  unfold Blk at h ⊢
  rw [Below.heap_alloc _ _ _ hl]; exact h
theorem Blk.new (w : World) (c : Array Value) (t : TypeId) : Blk (w.alloc (.cells c t)) w.heap.size c t := heap_alloc_new w _

structure But (b : Nat) (w w' : World) : Prop where
  os : w'.os = w.os
  tape : w'.tape = w.tape
  output : w'.output = w.output
  size : w.heap.size ≤ w'.heap.size
  block : ∀ k, k < w.heap.size → k ≠ b → w'.heap[k]? = w.heap[k]?
theorem But.refl (b : Nat) (w : World) : But b w w := ⟨rfl, rfl, rfl, Nat.le_refl _, fun _ _ _ => rfl⟩
theorem But.trans {b : Nat} {a c d : World} (h : But b a c) (k : But b c d) : But b a d :=
  ⟨k.os.trans h.os, k.tape.trans h.tape, k.output.trans h.output, Nat.le_trans h.size k.size, fun i hi hb => (k.block i (Nat.lt_of_lt_of_le hi h.size) hb).trans (h.block i hi hb)⟩
theorem But.drewN {b : Nat} {w w' : World} (h : But b w w') (m : Nat) : But b w (w'.drewN m) := ⟨h.os, h.tape, h.output, h.size, h.block⟩
theorem But.drew {b : Nat} {w w' : World} (h : But b w w') : But b w w'.drew := ⟨h.os, h.tape, h.output, h.size, h.block⟩
theorem But.alloc {b : Nat} {w w' : World} (h : But b w w') (o : Obj) : But b w (w'.alloc o) :=
  h.trans ⟨rfl, rfl, rfl, by simp, fun k hk _ => Below.heap_alloc _ _ _ hk⟩
theorem But.set {b : Nat} {w w' : World} (h : But b w w') {a : Addr} (ha : a.block = b ∨ w.heap.size ≤ a.block) (v : Value) : But b w (w'.setCell a v) :=
  ⟨h.os, h.tape, h.output, by simpa [World.setCell] using h.size, fun k hk hb => by rw [Below.heap_setCell _ _ _ _ (by omega)]; exact h.block k hk hb⟩
theorem But.blk {b : Nat} {w w' : World} (h : But b w w') {k : Nat} {cur : Array Value} {t : TypeId} (hk : Blk w k cur t) (hb : k ≠ b) : Blk w' k cur t :=
  (h.block k hk.lt hb).trans hk
theorem But.below {b B : Nat} {w w' : World} (h : But b w w') (hB : B ≤ b) (hs : B ≤ w.heap.size) : Below B w w' :=
  ⟨h.os, h.tape, h.output, h.size, fun k hk => h.block k (by omega) (by omega)⟩
theorem But.of_below {b B : Nat} {w w' : World} (h : Below B w w') (hB : w.heap.size ≤ B) : But b w w' :=
  ⟨h.os, h.tape, h.output, h.size, fun k hk _ => h.block k (by omega)⟩
theorem But.grown {b : Nat} {a w w' : World} {row : Option Nat} (h : But b a w) (hg : w.grownBy w' row) (hr : ∀ k, row = some k → a.heap.size ≤ k) : But b a w' :=
  ⟨hg.os.trans h.os, hg.tape.trans h.tape, hg.output.trans h.output, Nat.le_trans h.size hg.size, fun k hk hb =>
    (hg.block k (by have := h.size; omega) (fun e => by have := hr k e.symm; omega)).trans (h.block k hk hb)⟩

end Bank
namespace M
def fits16 (zs : List Int) : Prop := ∀ z ∈ zs, -32768 ≤ z ∧ z ≤ 32767
def fits32 (zs : List Int) : Prop := ∀ z ∈ zs, -2147483648 ≤ z ∧ z ≤ 2147483647
theorem getD_append (A B : List Int) (i : Nat) : (A ++ B).getD i 0 = if i < A.length then A.getD i 0 else B.getD (i - A.length) 0 := by
  simp only [List.getD]
  split
  · rename_i h; rw [List.getElem?_append_left h]
  · rename_i h; rw [List.getElem?_append_right (by omega)]
theorem getD_take {A : List Int} {n i : Nat} (h : i < n) : (A.take n).getD i 0 = A.getD i 0 := by
  simp only [List.getD]
  rw [List.getElem?_take, if_pos h]
theorem getD_rep (n i : Nat) : (List.replicate n (0 : Int)).getD i 0 = 0 := by
  simp only [List.getD]
  rw [List.getElem?_replicate]
  split <;> rfl
end M
namespace Poly
open Bank (Blk But)

theorem wf16 {z : Int} : (Lit.int .i16 z).wf = true ↔ -32768 ≤ z ∧ z ≤ 32767 := by simp [Lit.wf, IntKind.min, IntKind.max, IntKind.signed, IntKind.bits]
theorem wf32 {z : Int} : (Lit.int .i32 z).wf = true ↔ -2147483648 ≤ z ∧ z ≤ 2147483647 := by simp [Lit.wf, IntKind.min, IntKind.max, IntKind.signed, IntKind.bits]
theorem fit16 {zs : List Int} : (∀ z ∈ zs, (Lit.int .i16 z).wf = true) ↔ M.fits16 zs := ⟨fun h z hz => wf16.1 (h z hz), fun h z hz => wf16.2 (h z hz)⟩
theorem fit32 {zs : List Int} : (∀ z ∈ zs, (Lit.int .i32 z).wf = true) ↔ M.fits32 zs := ⟨fun h z hz => wf32.1 (h z hz), fun h z hz => wf32.2 (h z hz)⟩

theorem add_at (g j : Nat) : (⟨g, 0, none⟩ : Addr).add j = ⟨g, j, none⟩ := by
  unfold Addr.add; split <;> simp_all
theorem add_off (g o j : Nat) : (⟨g, o, none⟩ : Addr).add j = ⟨g, o + j, none⟩ := by
  unfold Addr.add; split <;> simp_all
def enc (k : IntKind) (zs : List Int) : List Value := zs.map fun z : Int => Value.int k z
theorem enc_get {k : IntKind} {zs : List Int} {i : Nat} (h : i < zs.length) : (enc k zs)[i]? = some (.int k (zs.getD i 0)) := by
  simp [enc, List.getD, h]
theorem enc_length (k : IntKind) (zs : List Int) : (enc k zs).length = zs.length := by simp [enc]
theorem enc_one (k : IntKind) (zs : List Int) : ∀ u ∈ enc k zs, u.oneCell' = true := by
  intro u hu
  obtain ⟨z, _, rfl⟩ := List.mem_map.1 hu
  rfl

def Reads (k : IntKind) (lo hi : Nat) (w : World) (v : Value) (zs : List Int) : Prop :=
  ∃ a c, v = .slice a zs.length c ∧ zs.length ≤ c ∧ (∀ z ∈ zs, (Lit.int k z).wf = true) ∧ (zs = [] ∨ ∃ b off, a = some ⟨b, off, none⟩ ∧ lo ≤ b ∧ b < hi ∧ ∀ i, i < zs.length → w.cell? ⟨b, off + i, none⟩ = some (.int k (zs.getD i 0)))
theorem cell_keep {w w' : World} {b o : Nat} (h : w'.heap[b]? = w.heap[b]?) : w'.cell? ⟨b, o, none⟩ = w.cell? ⟨b, o, none⟩ := by simp [World.cell?, h]
theorem Reads.keep {k : IntKind} {lo hi : Nat} {w w' : World} {v : Value} {zs : List Int} (h : Reads k lo hi w v zs) (hk : ∀ b, lo ≤ b → b < hi → w'.heap[b]? = w.heap[b]?) : Reads k lo hi w' v zs := by
  obtain ⟨a, c, rfl, hl, hw, h | ⟨b, off, ha, h0, h1, hx⟩⟩ := h
  · exact ⟨a, c, rfl, hl, hw, .inl h⟩
  · exact ⟨a, c, rfl, hl, hw, .inr ⟨b, off, ha, h0, h1, fun i hi => (cell_keep (hk b h0 h1)).trans (hx i hi)⟩⟩
theorem Reads.mono {k : IntKind} {lo hi lo' hi' : Nat} {w : World} {v : Value} {zs : List Int} (h : Reads k lo hi w v zs) (h0 : lo' ≤ lo) (h1 : hi ≤ hi') : Reads k lo' hi' w v zs := by
  obtain ⟨a, c, rfl, hl, hw, h | ⟨b, off, ha, k0, k1, hx⟩⟩ := h
  · exact ⟨a, c, rfl, hl, hw, .inl h⟩
  · exact ⟨a, c, rfl, hl, hw, .inr ⟨b, off, ha, by omega, by omega, hx⟩⟩
theorem Reads.drewN {k : IntKind} {lo hi : Nat} {w : World} {v : Value} {zs : List Int} (h : Reads k lo hi w v zs) (m : Nat) : Reads k lo hi (w.drewN m) v zs := h
theorem Reads.drew {k : IntKind} {lo hi : Nat} {w : World} {v : Value} {zs : List Int} (h : Reads k lo hi w v zs) : Reads k lo hi w.drew v zs := h
theorem Reads.form {k : IntKind} {lo hi : Nat} {w : World} {v : Value} {zs : List Int} (h : Reads k lo hi w v zs) : ∃ a c, v = .slice a zs.length c := by
  obtain ⟨a, c, h, _⟩ := h; exact ⟨a, c, h⟩
theorem Reads.cell {k : IntKind} {lo hi : Nat} {w : World} {a : Option Addr} {l c : Nat} {zs : List Int} (h : Reads k lo hi w (.slice a l c) zs) (hz : 0 < zs.length) : ∃ b off, a = some ⟨b, off, none⟩ ∧ lo ≤ b ∧ b < hi ∧ ∀ i, i < zs.length → w.cell? ⟨b, off + i, none⟩ = some (.int k (zs.getD i 0)) := by
  obtain ⟨a', c', he, hl, hw, h⟩ := h
  cases he
  rcases h with rfl | h
  · exact absurd hz (by simp)
  · exact h
theorem Reads.but {k : IntKind} {lo hi g : Nat} {w w' : World} {v : Value} {zs : List Int} (h : Reads k lo hi w v zs) (hb : But g w w') (hs : hi ≤ w.heap.size) (hg : g < lo ∨ hi ≤ g) : Reads k lo hi w' v zs :=
  h.keep fun b h0 h1 => hb.block b (by omega) (by omega)
theorem Reads.below {k : IntKind} {lo hi B : Nat} {w w' : World} {v : Value} {zs : List Int} (h : Reads k lo hi w v zs) (hb : Below B w w') (hs : hi ≤ B) : Reads k lo hi w' v zs :=
  h.keep fun b h0 h1 => hb.block b (by omega)

theorem reads_blk {k : IntKind} {w : World} {g : Nat} {zs : List Int} {t : TypeId} (h : Blk w g (enc k zs).toArray t) (hw : ∀ z ∈ zs, (Lit.int k z).wf = true) : Reads k g (g + 1) w (.slice (some ⟨g, 0, none⟩) zs.length zs.length) zs :=
  ⟨_, _, rfl, Nat.le_refl _, hw, .inr ⟨g, 0, rfl, Nat.le_refl _, Nat.lt_succ_self _, fun i hi => by rw [Nat.zero_add]; exact h.cell (by rw [List.getElem?_toArray]; exact enc_get hi)⟩⟩
theorem reads_own {k : IntKind} {w : World} {B : Nat} {t : TypeId} {v : Value} {zs : List Int} (h : w.ownsRow B t 1 v zs.length (enc k zs)) (hw : ∀ z ∈ zs, (Lit.int k z).wf = true) : Reads k B w.heap.size w v zs := by
  rcases id h.2 with ⟨rfl, h0⟩ | ⟨g, cap, cur, rfl, hg, hh, h1, h2, h3, h4⟩
  · obtain rfl : zs = [] := List.length_eq_zero_iff.1 h0
    exact ⟨none, 0, rfl, Nat.le_refl _, hw, .inl rfl⟩
  · refine ⟨_, cap, rfl, by omega, hw, .inr ⟨g, 0, rfl, hg, (Array.getElem?_eq_some_iff.1 hh).1, fun i hi => ?_⟩⟩
    have := h.cells (g := g) rfl i _ (enc_get hi)
    rw [add_at] at this
    rw [Nat.zero_add]; exact this

theorem But.setRow {b : Nat} {w w' : World} (h : But b w w') (cs : Array Value) : But b w (w'.setRow b cs) :=
  ⟨h.os, h.tape, h.output, by simpa using h.size, fun k hk hb => by rw [setRow_other _ _ _ _ hb]; exact h.block k hk hb⟩
theorem Blk.setRow {w : World} {b : Nat} {cur : Array Value} {t : TypeId} (h : Blk w b cur t) (cs : Array Value) : Blk (w.setRow b cs) b cs t := setRow_heap w b cur cs t (0, 0) h
theorem But.below' {b B : Nat} {a w w' : World} (h : But b a w) (hb : Below B w w') (hB : a.heap.size ≤ B) : But b a w' :=
  ⟨hb.os.trans h.os, hb.tape.trans h.tape, hb.output.trans h.output, Nat.le_trans h.size hb.size, fun k hk hne => (hb.block k (by omega)).trans (h.block k hk hne)⟩
theorem below_but {b B : Nat} {a w w' : World} (h : Below B a w) (hb : But b w w') (hB : B ≤ a.heap.size) (hb' : B ≤ b) : Below B a w' :=
  ⟨hb.os.trans h.os, hb.tape.trans h.tape, hb.output.trans h.output, Nat.le_trans h.size hb.size, fun k hk => (hb.block k (by have := h.size; omega) (by omega)).trans (h.block k hk)⟩
theorem below_drewN {B : Nat} {w w' : World} (h : Below B w w') (m : Nat) : Below B w (w'.drewN m) := ⟨h.os, h.tape, h.output, h.size, h.block⟩
theorem below_drew {B : Nat} {w w' : World} (h : Below B w w') : Below B w w'.drew := ⟨h.os, h.tape, h.output, h.size, h.block⟩

theorem madeCells_rep (z : Value) (n : Nat) : madeCells #[z] n = (List.replicate n z).toArray := by
  unfold madeCells
  apply Array.ext
  · simp
  · intro i h1 h2
    simp [Nat.mod_one]
theorem enc_rep (k : IntKind) (n : Nat) : enc k (List.replicate n 0) = List.replicate n (.int k 0) := by simp [enc]

theorem info16 : (Tryz.prog.info? 182).map (fun i => (i.zero, i.size, i.bytes)) = some (some (.int .i16 0), 1, 2) := by kernel_rfl

theorem info32 : (Tryz.prog.info? 21).map (fun i => (i.zero, i.size, i.bytes)) = some (some (.int .i32 0), 1, 4) := by kernel_rfl

theorem info64 : (Tryz.prog.info? 2).map (fun i => (i.zero, i.size, i.bytes)) = some (some (.int .i64 0), 1, 8) := by kernel_rfl

theorem infoS16 : (Tryz.prog.info? 55).map (fun i => (i.zero, i.size, i.bytes)) = some (some (.slice none 0 0), 1, 24) := by kernel_rfl

theorem infoS32 : (Tryz.prog.info? 97).map (fun i => (i.zero, i.size, i.bytes)) = some (some (.slice none 0 0), 1, 24) := by kernel_rfl

theorem make16 (w : World) (n : Nat) (hn : n ≤ 65536) : (Instr.makeSlice 55 (.int .i64 n) (.int .i64 n)).run Tryz.prog w = .ok (.slice (some ⟨w.heap.size, 0, none⟩) n n) (w.alloc (.cells (enc .i16 (List.replicate n 0)).toArray 182)) := by
  obtain ⟨i0, hi, hz0, hz1, hz2⟩ := info_parts info16
  have := run_make (P := Tryz.prog) w 55 182 i0 (.int .i16 0) Tryz.underlying55 hi hz0 .i64 .i64 n n (by omega) (by omega) (by rw [hz2]; omega) (by omega)
  rw [this, hz1, enc_rep, ← madeCells_rep]; simp [Value.cells]

theorem make32 (w : World) (n : Nat) (hn : n ≤ 65536) : (Instr.makeSlice 97 (.int .i64 n) (.int .i64 n)).run Tryz.prog w = .ok (.slice (some ⟨w.heap.size, 0, none⟩) n n) (w.alloc (.cells (enc .i32 (List.replicate n 0)).toArray 21)) := by
  obtain ⟨i0, hi, hz0, hz1, hz2⟩ := info_parts info32
  have := run_make (P := Tryz.prog) w 97 21 i0 (.int .i32 0) Tryz.underlying97 hi hz0 .i64 .i64 n n (by omega) (by omega) (by rw [hz2]; omega) (by omega)
  rw [this, hz1, enc_rep, ← madeCells_rep]; simp [Value.cells]

theorem makeS16 (w : World) (n : Nat) (hn : n ≤ 65536) : (Instr.makeSlice 62 (.int .i64 n) (.int .i64 n)).run Tryz.prog w = .ok (.slice (some ⟨w.heap.size, 0, none⟩) n n) (w.alloc (.cells (List.replicate n (.slice none 0 0)).toArray 55)) := by
  obtain ⟨i0, hi, hz0, hz1, hz2⟩ := info_parts infoS16
  have := run_make (P := Tryz.prog) w 62 55 i0 (.slice none 0 0) Tryz.underlying62 hi hz0 .i64 .i64 n n (by omega) (by omega) (by rw [hz2]; omega) (by omega)
  rw [this, hz1, ← madeCells_rep]; simp [Value.cells]

def Rows (k : IntKind) (lo hi : Nat) (w : World) (v : Value) (zss : List (List Int)) : Prop :=
  ∃ a c, v = .slice a zss.length c ∧ zss.length ≤ c ∧ (zss = [] ∨ ∃ b off, a = some ⟨b, off, none⟩ ∧ lo ≤ b ∧ b < hi ∧ ∀ i, i < zss.length → ∃ u, w.cell? ⟨b, off + i, none⟩ = some u ∧ Reads k lo hi w u (zss.getD i []))
theorem Rows.keep {k : IntKind} {lo hi : Nat} {w w' : World} {v : Value} {zs : List (List Int)} (h : Rows k lo hi w v zs) (hk : ∀ b, lo ≤ b → b < hi → w'.heap[b]? = w.heap[b]?) : Rows k lo hi w' v zs := by
  obtain ⟨a, c, rfl, hl, h | ⟨b, off, ha, h0, h1, hx⟩⟩ := h
  · exact ⟨a, c, rfl, hl, .inl h⟩
  · refine ⟨a, c, rfl, hl, .inr ⟨b, off, ha, h0, h1, fun i hi => ?_⟩⟩
    obtain ⟨u, hu, hr⟩ := hx i hi
    exact ⟨u, (cell_keep (hk b h0 h1)).trans hu, hr.keep hk⟩
theorem Rows.mono {k : IntKind} {lo hi lo' hi' : Nat} {w : World} {v : Value} {zs : List (List Int)} (h : Rows k lo hi w v zs) (h0 : lo' ≤ lo) (h1 : hi ≤ hi') : Rows k lo' hi' w v zs := by
  obtain ⟨a, c, rfl, hl, h | ⟨b, off, ha, k0, k1, hx⟩⟩ := h
  · exact ⟨a, c, rfl, hl, .inl h⟩
  · refine ⟨a, c, rfl, hl, .inr ⟨b, off, ha, by omega, by omega, fun i hi => ?_⟩⟩
    obtain ⟨u, hu, hr⟩ := hx i hi
    exact ⟨u, hu, hr.mono h0 h1⟩
theorem Rows.drewN {k : IntKind} {lo hi : Nat} {w : World} {v : Value} {zs : List (List Int)} (h : Rows k lo hi w v zs) (m : Nat) : Rows k lo hi (w.drewN m) v zs := h
theorem Rows.but {k : IntKind} {lo hi g : Nat} {w w' : World} {v : Value} {zs : List (List Int)} (h : Rows k lo hi w v zs) (hb : But g w w') (hs : hi ≤ w.heap.size) (hg : g < lo ∨ hi ≤ g) : Rows k lo hi w' v zs :=
  h.keep fun b h0 h1 => hb.block b (by omega) (by omega)
theorem Rows.below {k : IntKind} {lo hi B : Nat} {w w' : World} {v : Value} {zs : List (List Int)} (h : Rows k lo hi w v zs) (hb : Below B w w') (hs : hi ≤ B) : Rows k lo hi w' v zs :=
  h.keep fun b h0 h1 => hb.block b (by omega)
theorem Rows.form {k : IntKind} {lo hi : Nat} {w : World} {v : Value} {zs : List (List Int)} (h : Rows k lo hi w v zs) : ∃ a c, v = .slice a zs.length c ∧ zs.length ≤ c := by
  obtain ⟨a, c, h, hl, _⟩ := h; exact ⟨a, c, h, hl⟩
theorem Rows.cell {k : IntKind} {lo hi : Nat} {w : World} {a : Option Addr} {l c : Nat} {zs : List (List Int)} (h : Rows k lo hi w (.slice a l c) zs) (hz : 0 < zs.length) : ∃ b off, a = some ⟨b, off, none⟩ ∧ lo ≤ b ∧ b < hi ∧ ∀ i, i < zs.length → ∃ u, w.cell? ⟨b, off + i, none⟩ = some u ∧ Reads k lo hi w u (zs.getD i []) := by
  obtain ⟨a', c', he, hl, h⟩ := h
  cases he
  rcases h with rfl | h
  · exact absurd hz (by simp)
  · exact h

theorem elem16 : Tryz.prog.elem 55 = 182 := by simp [Program.elem, Tryz.underlying55]

theorem size16 (w : World) : (Go.sizeOf 182).run Tryz.prog w = .ok 1 w := by kernel_rfl

theorem elem32 : Tryz.prog.elem 97 = 21 := by simp [Program.elem, Tryz.underlying97]

theorem size32 (w : World) : (Go.sizeOf 21).run Tryz.prog w = .ok 1 w := by kernel_rfl

theorem rest16 (g l n : Nat) (hn : n < l) (w : World) : (Instr.slice 55 (.slice (some ⟨g, 0, none⟩) l l) (some (.int .i64 (n : Int))) none none).run Tryz.prog w = .ok (.slice (some ⟨g, n, none⟩) (l - n) (l - n)) w := by
  rw [run_slice_l (P := Tryz.prog) w 55 _ l l (by rw [elem16]; exact Tryz.underlying55) .i64 n (by omega) (by omega), elem16, size16]
  show Result.ok (Go.sliced _ (n : Int).toNat l l 1) w = _
  unfold Go.sliced
  rw [if_neg (by omega)]
  simp [add_at]

theorem rest32 (g l n : Nat) (hn : n < l) (w : World) : (Instr.slice 97 (.slice (some ⟨g, 0, none⟩) l l) (some (.int .i64 (n : Int))) none none).run Tryz.prog w = .ok (.slice (some ⟨g, n, none⟩) (l - n) (l - n)) w := by
  rw [run_slice_l (P := Tryz.prog) w 97 _ l l (by rw [elem32]; exact Tryz.underlying97) .i64 n (by omega) (by omega), elem32, size32]
  show Result.ok (Go.sliced _ (n : Int).toNat l l 1) w = _
  unfold Go.sliced
  rw [if_neg (by omega)]
  simp [add_at]

def Fill (K : IntKind) (t : TypeId) (g L k : Nat) (f : Nat → Int) (w : World) : Prop := ∃ tab : Array Value, Blk w g tab t ∧ tab.size = L ∧ ∀ j, j < k → tab[j]? = some (.int K (f j))
theorem Fill.drewN {K : IntKind} {t : TypeId} {g L k : Nat} {f : Nat → Int} {w : World} (h : Fill K t g L k f w) (m : Nat) : Fill K t g L k f (w.drewN m) := h
theorem Fill.drew {K : IntKind} {t : TypeId} {g L k : Nat} {f : Nat → Int} {w : World} (h : Fill K t g L k f w) : Fill K t g L k f w.drew := h
theorem Fill.start {K : IntKind} {t : TypeId} {g L : Nat} {f : Nat → Int} {w : World} (h : Blk w g (enc K (List.replicate L 0)).toArray t) : Fill K t g L 0 f w := ⟨_, h, by simp [enc_length], fun j hj => absurd hj (by omega)⟩
theorem Fill.cell {K : IntKind} {t : TypeId} {g L k : Nat} {f : Nat → Int} {w : World} (h : Fill K t g L k f w) {j : Nat} (hj : j < L) : (∃ u, w.cell? ⟨g, j, none⟩ = some u) ∧ w.frozen? ⟨g, j, none⟩ = false := by
  obtain ⟨tab, h1, h2, _⟩ := h
  exact ⟨⟨tab[j]'(by omega), h1.cell (by simp [h2, hj])⟩, h1.free j⟩
theorem Fill.step {K : IntKind} {t : TypeId} {g L k : Nat} {f : Nat → Int} {w : World} (h : Fill K t g L k f w) (hk : k < L) {x : Int} (hx : x = f k) : Fill K t g L (k + 1) f (w.setCell ⟨g, k, none⟩ (.int K x)) := by
  obtain ⟨tab, h1, h2, h3⟩ := h
  subst hx
  refine ⟨_, h1.set _ _, by simpa using h2, fun j hj => ?_⟩
  rw [Array.getElem?_setIfInBounds]
  split
  · rename_i e; subst e; rw [if_pos (by omega)]
  · exact h3 j (by omega)
theorem Fill.whole {K : IntKind} {t : TypeId} {g L : Nat} {f : Nat → Int} {w : World} (h : Fill K t g L L f w) : Blk w g (enc K ((List.range L).map f)).toArray t := by
  obtain ⟨tab, h1, h2, h3⟩ := h
  have e : tab = (enc K ((List.range L).map f)).toArray := by
    apply Array.ext'
    apply List.ext_getElem?
    intro j
    by_cases hj : j < L
    · rw [Array.getElem?_toList, h3 j hj]
      simp [enc, hj]
    · rw [List.getElem?_eq_none (by simp; omega), List.getElem?_eq_none (by simp [enc]; omega)]
  rw [← e]; exact h1
theorem Fill.lt {K : IntKind} {t : TypeId} {g L k : Nat} {f : Nat → Int} {w : World} (h : Fill K t g L k f w) : g < w.heap.size := by
  obtain ⟨_, h, _⟩ := h; exact h.lt

theorem own_form {w : World} {b e n : Nat} {v : Value} {x : List Value} (h : w.ownsRow b e 1 v n x) : ∃ a c, v = .slice a n c := by
  rcases h.2 with ⟨rfl, rfl⟩ | ⟨g, c, cur, rfl, _⟩
  · exact ⟨_, _, rfl⟩
  · exact ⟨_, _, rfl⟩
theorem own_mono {w : World} {b b' e s n : Nat} {v : Value} {x : List Value} (h : w.ownsRow b e s v n x) (hb : b' ≤ b) : w.ownsRow b' e s v n x := by
  refine ⟨h.1, ?_⟩
  rcases h.2 with h | ⟨g, c, cur, hv, hg, r⟩
  · exact .inl h
  · exact .inr ⟨g, c, cur, hv, by omega, r⟩

theorem alloc_size (w : World) (o : Obj) : (w.alloc o).heap.size = w.heap.size + 1 := by simp
theorem two_new (w : World) (n : Nat) (c d : Array Value) (s t : TypeId) : Below w.heap.size w (((w.drewN n).alloc (.cells c s)).alloc (.cells d t)) :=
  ((below_drewN (Below.refl w.heap.size w) n).alloc (Nat.le_refl _) _).alloc (by rw [alloc_size]; exact Nat.le_succ _) _
theorem zeros16 (n : Nat) : M.fits16 (List.replicate n 0) := fun z hz => by rw [List.eq_of_mem_replicate hz]; decide
theorem zeros32 (n : Nat) : M.fits32 (List.replicate n 0) := fun z hz => by rw [List.eq_of_mem_replicate hz]; decide

def Gat (k : IntKind) (t : TypeId) (B : Nat) (v : Value) (zs : List Int) (w wr : World) : Prop := wr.ownsRow B t 1 v zs.length (enc k zs) ∧ Below B w wr ∧ w.heap.size = B
theorem Gat.drewN {k : IntKind} {t : TypeId} {B : Nat} {v : Value} {zs : List Int} {w wr : World} (h : Gat k t B v zs w wr) (n : Nat) : Gat k t B v zs w (wr.drewN n) := ⟨h.1, below_drewN h.2.1 n, h.2.2⟩
theorem Gat.nil (k : IntKind) (t : TypeId) (w : World) : Gat k t w.heap.size (.slice none 0 0) [] w w := ⟨World.ownsRow_nil _ _ _ _, Below.refl _ _, rfl⟩
theorem Gat.size {k : IntKind} {t : TypeId} {B : Nat} {v : Value} {zs : List Int} {w wr : World} (h : Gat k t B v zs w wr) : B ≤ wr.heap.size := by have := h.2.1.size; have := h.2.2; omega
theorem Gat.form {k : IntKind} {t : TypeId} {B : Nat} {v : Value} {zs : List Int} {w wr : World} (h : Gat k t B v zs w wr) : ∃ a c, v = .slice a zs.length c := own_form h.1
theorem Gat.step {k : IntKind} {t : TypeId} {B : Nat} {v v' : Value} {zs : List Int} {w wr w1 : World} {c : Array Value} {ty : TypeId} {x : Int} (h : Gat k t B v zs w wr)
    (hown : w1.ownsRow B t 1 v' (zs.length + 1) (enc k zs ++ [.int k x])) (hg : (wr.alloc (.cells c ty)).grownBy w1 v.ownBlock) : Gat k t B v' (zs ++ [x]) w w1 := by
  refine ⟨?_, ?_, h.2.2⟩
  · have e : enc k (zs ++ [x]) = enc k zs ++ [.int k x] := by simp [enc]
    rw [e, List.length_append]
    exact hown
  · have hs := h.size
    exact (h.2.1.alloc hs _).grown hg (by simp; omega) (fun j hj => (h.1.lt j hj).1)
theorem Gat.reads {k : IntKind} {t : TypeId} {B : Nat} {v : Value} {zs : List Int} {w wr : World} (h : Gat k t B v zs w wr) (hw : ∀ z ∈ zs, (Lit.int k z).wf = true) : Reads k B wr.heap.size wr v zs := reads_own h.1 hw
theorem wf64 {z : Int} (h0 : -9223372036854775808 ≤ z) (h1 : z ≤ 9223372036854775807) : (Lit.int .i64 z).wf = true := by simp [Lit.wf, IntKind.min, IntKind.max, IntKind.signed, IntKind.bits]; omega

theorem reads_new16 (w : World) (n : Nat) : Reads .i16 w.heap.size (w.heap.size + 1) (w.alloc (.cells (enc .i16 (List.replicate n 0)).toArray 182)) (.slice (some ⟨w.heap.size, 0, none⟩) n n) (List.replicate n 0) := by
  have := reads_blk (Blk.new w (enc .i16 (List.replicate n 0)).toArray 182) (fit16.2 (zeros16 n))
  simpa using this

theorem open16 {H : Type} {enc' : TypeId × Value → H} {w : World} {base : Nat} {spare : Nat → Bool} {held : Bool} {fuel : Nat} {a : Option Addr} {len cap : Nat} {x : DataW H × List MemPlace}
    (h : DataW.trod enc' Tryz.prog w base spare held fuel 55 [.slice a len cap] = some x) : ∃ xs, Reads .i16 0 w.heap.size w (.slice a len cap) xs := by
  rcases Go.ChangeShapes.open_ints Tryz.underlying55 Tryz.underlying182 (by kernel_rfl) h with ⟨hcs, _⟩ | ⟨a', len', cap', zs, hcs, hb, hl, hm, hzl, _, hc, hw⟩
  · simp at hcs
    obtain ⟨rfl, rfl, rfl⟩ := hcs
    exact ⟨[], none, 0, rfl, Nat.le_refl _, fun z hz => by simp at hz, .inl rfl⟩
  · simp at hcs
    obtain ⟨rfl, rfl, rfl⟩ := hcs
    have hlm : len ≤ zs.length := by rw [hzl]; split <;> omega
    refine ⟨zs.take len, some a', cap, by rw [List.length_take, Nat.min_eq_left hlm], by rw [List.length_take]; omega, fun z hz => hw z (List.mem_of_mem_take hz), ?_⟩
    rcases Nat.eq_zero_or_pos len with h0 | h0
    · exact .inl (by rw [h0]; rfl)
    · obtain ⟨b, off, spot⟩ := a'
      have hspot : spot = none := by simpa [Addr.add] using World.cell?_spot (hc 0 (by omega))
      subst hspot
      refine .inr ⟨b, off, rfl, Nat.zero_le _, ?_, fun i hi => ?_⟩
      · have := World.block_lt_of_cell? w _ (hc 0 (by omega))
        simpa [Addr.add] using this
      · rw [List.length_take] at hi
        have k := hc i (by omega)
        rw [Go.WideShapes.add_plain] at k
        rw [k, M.getD_take (by omega)]

theorem open32 {H : Type} {enc' : TypeId × Value → H} {w : World} {base : Nat} {spare : Nat → Bool} {held : Bool} {fuel : Nat} {a : Option Addr} {len cap : Nat} {x : DataW H × List MemPlace}
    (h : DataW.trod enc' Tryz.prog w base spare held fuel 97 [.slice a len cap] = some x) : ∃ xs, Reads .i32 0 w.heap.size w (.slice a len cap) xs := by
  rcases Go.ChangeShapes.open_ints Tryz.underlying97 Tryz.underlying21 (by kernel_rfl) h with ⟨hcs, _⟩ | ⟨a', len', cap', zs, hcs, hb, hl, hm, hzl, _, hc, hw⟩
  · simp at hcs
    obtain ⟨rfl, rfl, rfl⟩ := hcs
    exact ⟨[], none, 0, rfl, Nat.le_refl _, fun z hz => by simp at hz, .inl rfl⟩
  · simp at hcs
    obtain ⟨rfl, rfl, rfl⟩ := hcs
    have hlm : len ≤ zs.length := by rw [hzl]; split <;> omega
    refine ⟨zs.take len, some a', cap, by rw [List.length_take, Nat.min_eq_left hlm], by rw [List.length_take]; omega, fun z hz => hw z (List.mem_of_mem_take hz), ?_⟩
    rcases Nat.eq_zero_or_pos len with h0 | h0
    · exact .inl (by rw [h0]; rfl)
    · obtain ⟨b, off, spot⟩ := a'
      have hspot : spot = none := by simpa [Addr.add] using World.cell?_spot (hc 0 (by omega))
      subst hspot
      refine .inr ⟨b, off, rfl, Nat.zero_le _, ?_, fun i hi => ?_⟩
      · have := World.block_lt_of_cell? w _ (hc 0 (by omega))
        simpa [Addr.add] using this
      · rw [List.length_take] at hi
        have k := hc i (by omega)
        rw [Go.WideShapes.add_plain] at k
        rw [k, M.getD_take (by omega)]

end Poly
end Go.Proofs.YtcaifpjbjghhaaaGreatDoor

/-
  The lengths of package lapped, and the document's. Conditions: none.
-/
namespace Go.Proofs.YtcaifpjbjghhaaaGreatDoor
set_option linter.unusedVariables false
open Go.RowKit
namespace Lapd
open Bank (Blk But)

def lens : Array Value := #[.int .i64 40, .int .i64 60, .int .i64 80, .int .i64 120]

theorem Lengths_any (w : World) : Calls Tryz.prog 236 #[] w fun e w' => e = .returned (.slice (some ⟨w.heap.size, 0, none⟩) 4 4) ∧ Blk w' w.heap.size lens 310 ∧ Below w.heap.size w w' ∧ w'.heap.size = w.heap.size + 1 := by
  have hB := Blk.new w lens 310
  have bel : Below w.heap.size w (w.alloc (.cells lens 310)) := (Below.refl _ _).alloc (Nat.le_refl _) _
  go_enter Tryz.func236, Tryz.ntmps236
  go_wp2
  go_ret
  exact ⟨rfl, hB, bel, by simp⟩

theorem Index_any (n : Int) (b : Nat) (w : World) (hb : Blk w b lens 310) :
    Calls Tryz.prog 254 #[.slice (some ⟨b, 0, none⟩) 4 4, .int .i64 n] w fun e w' => ∃ r : Int, e = .returned (.int .i64 r) ∧ w' = w ∧ (0 ≤ r ↔ (n = 40 ∨ n = 60 ∨ n = 80 ∨ n = 120)) := by
  have h0 : w.cell? ⟨b, 0, none⟩ = some (.int .i64 40) := hb.cell rfl
  have h1 : w.cell? ⟨b, 1, none⟩ = some (.int .i64 60) := hb.cell rfl
  have h2 : w.cell? ⟨b, 2, none⟩ = some (.int .i64 80) := hb.cell rfl
  have h3 : w.cell? ⟨b, 3, none⟩ = some (.int .i64 120) := hb.cell rfl
  clear hb
  rcases (by omega : n = 40 ∨ n = 60 ∨ n = 80 ∨ n = 120 ∨ (n ≠ 40 ∧ n ≠ 60 ∧ n ≠ 80 ∧ n ≠ 120)) with rfl | rfl | rfl | rfl | ⟨n0, n1, n2, n3⟩
  · go_enter Tryz.func254, Tryz.ntmps254
    go_wp2
    refine wp_loop_rounds 5 ?_
    rw [rounds_succ]
    go_wp2
    go_ret
    exact ⟨_, rfl, rfl, by decide⟩
  · go_enter Tryz.func254, Tryz.ntmps254
    go_wp2
    refine wp_loop_rounds 5 ?_
    rw [rounds_succ]
    go_wp2
    rw [rounds_succ]
    go_wp2
    go_ret
    exact ⟨_, rfl, rfl, by decide⟩
  · go_enter Tryz.func254, Tryz.ntmps254
    go_wp2
    refine wp_loop_rounds 5 ?_
    rw [rounds_succ]
    go_wp2
    rw [rounds_succ]
    go_wp2
    rw [rounds_succ]
    go_wp2
    go_ret
    exact ⟨_, rfl, rfl, by decide⟩
  · go_enter Tryz.func254, Tryz.ntmps254
    go_wp2
    refine wp_loop_rounds 5 ?_
    rw [rounds_succ]
    go_wp2
    rw [rounds_succ]
    go_wp2
    rw [rounds_succ]
    go_wp2
    rw [rounds_succ]
    go_wp2
    go_ret
    exact ⟨_, rfl, rfl, by decide⟩
  · have e0 : (n == 40) = false := by simpa using n0
    have e1 : (n == 60) = false := by simpa using n1
    have e2 : (n == 80) = false := by simpa using n2
    have e3 : (n == 120) = false := by simpa using n3
    go_enter Tryz.func254, Tryz.ntmps254
    go_wp2
    refine wp_loop_rounds 5 ?_
    rw [rounds_succ]
    go_wp2
    rw [rounds_succ]
    go_wp2
    rw [rounds_succ]
    go_wp2
    rw [rounds_succ]
    go_wp2
    rw [rounds_succ]
    go_wp2
    go_ret
    exact ⟨_, rfl, rfl, by omega⟩

theorem Contains_any (n : Int) (b : Nat) (w : World) (hb : Blk w b lens 310) :
    Calls Tryz.prog 235 #[.slice (some ⟨b, 0, none⟩) 4 4, .int .i64 n] w fun e w' => ∃ r : Bool, e = .returned (.bool r) ∧ w' = w ∧ (r = true ↔ (n = 40 ∨ n = 60 ∨ n = 80 ∨ n = 120)) := by
  go_enter Tryz.func235, Tryz.ntmps235
  go_wp2_with (go_at_call 254; refine (Index_any n b w hb).mono ?_; rintro e w' ⟨r, rfl, hw, hr⟩; rw [hw]; clear hw w')
  go_ret
  exact ⟨_, rfl, rfl, by simp⟩

end Lapd
end Go.Proofs.YtcaifpjbjghhaaaGreatDoor

/-
  Formats in plain numbers: which there are, their samples, bits and bytes. No walk. Conditions: none.
-/
namespace Go.Proofs.YtcaifpjbjghhaaaGreatDoor
set_option linter.unusedVariables false
open Go.RowKit
namespace M

structure Fmt where
  c : Int
  r : Int
  h : Int
  b : Int
  k : Int
  m : Int
  j : Int
  p : Int
  l : Int
  y : Int

def bitS (f : Fmt) : Int := 32 + 4 * f.b * f.h + f.k * f.p + (if f.j = 1 then f.b else 0)

def cS (f : Fmt) : Nat → Prop
  | 0 => 0 ≤ f.r ∧ f.r ≤ 3
  | 1 => 1 ≤ f.h ∧ f.h ≤ 2
  | 2 => f.b = 4 ∨ f.b = 8
  | 3 => (4 ≤ f.k ∧ f.k ≤ 16) ∧ f.k % 4 = 0
  | 4 => 0 ≤ f.m ∧ f.m ≤ 1
  | 5 => f.j = 0 ∨ (f.j = 1 ∧ f.h = 2)
  | 6 => 2 ≤ f.p ∧ f.p ≤ 16 * f.b * f.h ∧ f.p ≤ 250
  | 7 => f.l = 0 ∧ f.y = 0
  | _ => (bitS f + 7) / 8 ≤ 512
def cL (f : Fmt) : Nat → Prop
  | 0 => 0 ≤ f.r ∧ f.r ≤ 3
  | 1 => 1 ≤ f.h ∧ f.h ≤ 2
  | 2 => f.l = 40 ∨ f.l = 60 ∨ f.l = 80 ∨ f.l = 120
  | 3 => 20 ≤ f.y ∧ f.y ≤ 120
  | 4 => f.c = 2 ∧ f.b = 0 ∧ f.k = 0 ∧ f.m = 0 ∧ f.j = 0 ∧ f.p = 0
  | _ => f.y * f.h ≤ 512

def okS (f : Fmt) : Prop := f.c = 1 ∧ (0 ≤ f.r ∧ f.r ≤ 3) ∧ (f.h = 1 ∨ f.h = 2) ∧ (f.b = 4 ∨ f.b = 8) ∧ (f.k = 4 ∨ f.k = 8 ∨ f.k = 12 ∨ f.k = 16) ∧ (f.m = 0 ∨ f.m = 1) ∧ (f.j = 0 ∨ (f.j = 1 ∧ f.h = 2)) ∧
  2 ≤ f.p ∧ f.p ≤ 16 * f.b * f.h ∧ f.p ≤ 250 ∧ f.l = 0 ∧ f.y = 0 ∧ bitS f ≤ 4096
def okL (f : Fmt) : Prop := f.c = 2 ∧ (0 ≤ f.r ∧ f.r ≤ 3) ∧ (f.h = 1 ∨ f.h = 2) ∧ (f.b = 0 ∧ f.k = 0 ∧ f.m = 0 ∧ f.j = 0 ∧ f.p = 0) ∧ (f.l = 40 ∨ f.l = 60 ∨ f.l = 80 ∨ f.l = 120) ∧ 20 ≤ f.y ∧ f.y ≤ 120
def okF (f : Fmt) : Prop := okS f ∨ okL f

theorem cS_all (f : Fmt) (hc : f.c = 1) : (∀ i, i < 9 → cS f i) ↔ okS f := by
  constructor
  · intro h
    have h0 := h 0 (by omega)
    have h1 := h 1 (by omega)
    have h2 := h 2 (by omega)
    have h3 := h 3 (by omega)
    have h4 := h 4 (by omega)
    have h5 := h 5 (by omega)
    have h6 := h 6 (by omega)
    have h7 := h 7 (by omega)
    have h8 := h 8 (by omega)
    simp only [cS] at h0 h1 h2 h3 h4 h5 h6 h7 h8
    exact ⟨hc, h0, by omega, h2, by omega, by omega, h5, h6.1, h6.2.1, h6.2.2, h7.1, h7.2, by omega⟩
  · rintro ⟨_, h0, h1, h2, h3, h4, h5, h6, h6', h6'', h7, h7', h8⟩ i hi
    match i, hi with
    | 0, _ => exact h0
    | 1, _ => show 1 ≤ f.h ∧ f.h ≤ 2; omega
    | 2, _ => exact h2
    | 3, _ => show (4 ≤ f.k ∧ f.k ≤ 16) ∧ f.k % 4 = 0; omega
    | 4, _ => show 0 ≤ f.m ∧ f.m ≤ 1; omega
    | 5, _ => exact h5
    | 6, _ => exact ⟨h6, h6', h6''⟩
    | 7, _ => exact ⟨h7, h7'⟩
    | 8, _ => show (bitS f + 7) / 8 ≤ 512; omega
theorem cL_all (f : Fmt) (hc : f.c = 2) : (∀ i, i < 6 → cL f i) ↔ okL f := by
  constructor
  · intro h
    have h0 := h 0 (by omega)
    have h1 := h 1 (by omega)
    have h2 := h 2 (by omega)
    have h3 := h 3 (by omega)
    have h4 := h 4 (by omega)
    simp only [cL] at h0 h1 h2 h3 h4
    exact ⟨hc, h0, by omega, h4.2, h2, h3⟩
  · rintro ⟨_, h0, h1, h2, h3, h4⟩ i hi
    match i, hi with
    | 0, _ => exact h0
    | 1, _ => show 1 ≤ f.h ∧ f.h ≤ 2; omega
    | 2, _ => exact h3
    | 3, _ => exact h4
    | 4, _ => exact ⟨hc, h2⟩
    | 5, _ => show f.y * f.h ≤ 512; rcases h1 with h | h <;> rw [h] <;> omega

def sam (f : Fmt) : Int := if f.c = 1 then f.b * f.k else f.l
def bitF (f : Fmt) : Int := if f.c = 1 then bitS f else 8 * f.y
def pay (f : Fmt) : Int := if f.c = 1 then (bitS f + 7) / 8 else f.y * f.h

theorem kp_bd {f : Fmt} (hk : f.k = 4 ∨ f.k = 8 ∨ f.k = 12 ∨ f.k = 16) (hp : 0 ≤ f.p ∧ f.p ≤ 251) : 0 ≤ f.k * f.p ∧ f.k * f.p ≤ 4016 := by
  rcases hk with h | h | h | h <;> rw [h] <;> omega
theorem bitS_bd {f : Fmt} (hk : f.k = 4 ∨ f.k = 8 ∨ f.k = 12 ∨ f.k = 16) (hp : 0 ≤ f.p ∧ f.p ≤ 251) (hb : f.b = 4 ∨ f.b = 8) (hh : f.h = 1 ∨ f.h = 2) : 32 ≤ bitS f ∧ bitS f ≤ 4200 := by
  have := kp_bd hk hp
  unfold bitS
  rcases hb with h | h <;> rcases hh with h' | h' <;> rw [h, h'] <;> split <;> omega

theorem ends {f : Fmt} (h : okF f) : 16 ≤ sam f ∧ sam f ≤ 128 ∧ 7 ≤ pay f ∧ pay f ≤ 512 ∧ bitF f ≤ 8 * pay f := by
  rcases h with ⟨hc, h0, h1, h2, h3, h4, h5, h6, h6', h6'', h7, h7', h8⟩ | ⟨hc, h0, h1, h2, h3, h4⟩
  · unfold sam pay bitF
    rw [if_pos hc, if_pos hc, if_pos hc]
    have hl : 56 ≤ bitS f := by
      unfold bitS
      rcases h2 with h | h <;> rcases h1 with h' | h' <;> rcases h3 with h'' | h'' | h'' | h'' <;> rw [h, h', h''] <;> split <;> omega
    refine ⟨?_, ?_, by omega, by omega, by omega⟩ <;> rcases h2 with h | h <;> rcases h3 with h'' | h'' | h'' | h'' <;> rw [h, h''] <;> omega
  · unfold sam pay bitF
    rw [if_neg (by omega), if_neg (by omega), if_neg (by omega)]
    rcases h1 with h | h <;> rw [h] <;> omega

def more (f : Fmt) : Fmt := { f with p := if f.c = 1 then f.p + 1 else 0, y := if f.c = 1 then 0 else f.y + 1 }
end M
end Go.Proofs.YtcaifpjbjghhaaaGreatDoor

/-
  What bands need and the bits that they get, in plain numbers: the slice, what it has paid for, the two goes. No walk. Conditions: none.
-/
namespace Go.Proofs.YtcaifpjbjghhaaaGreatDoor
set_option linter.unusedVariables false
open Go.RowKit
namespace M

def tab4 : List Int := [-1, 0, 0, 0, -2, 0, 0, 1, -2, 0, 0, 1, -2, 0, 0, 1]
def tab8 : List Int := [-2, 0, 0, 0, 0, 0, 0, 1, -3, 0, 0, 0, 0, 0, 1, 2, -4, 0, 0, 0, 0, 0, 1, 2, -4, 0, 0, 0, 0, 0, 1, 2]
def off (B r b : Nat) : Int := if B = 4 then tab4.getD (4 * r + b) 0 else tab8.getD (8 * r + b) 0
theorem off_bd (B r b : Nat) : -4 ≤ off B r b ∧ off B r b ≤ 2 := by
  unfold off
  split
  · have h : ∀ z ∈ tab4, -4 ≤ z ∧ z ≤ 2 := by decide
    by_cases hl : 4 * r + b < tab4.length
    · rw [List.getD_eq_getElem?_getD, List.getElem?_eq_getElem hl]; exact h _ (List.getElem_mem hl)
    · rw [List.getD_eq_getElem?_getD, List.getElem?_eq_none (by omega)]; decide
  · have h : ∀ z ∈ tab8, -4 ≤ z ∧ z ≤ 2 := by decide
    by_cases hl : 8 * r + b < tab8.length
    · rw [List.getD_eq_getElem?_getD, List.getElem?_eq_getElem hl]; exact h _ (List.getElem_mem hl)
    · rw [List.getD_eq_getElem?_getD, List.getElem?_eq_none (by omega)]; decide
def loud (x o : Int) : Int := if x = 0 then -5 else if 0 < x - o then (x - o) / 2 else x - o
theorem loud_bd {x o : Int} (h0 : 0 ≤ x) (h1 : x ≤ 15) (o0 : -4 ≤ o) (o1 : o ≤ 2) : -5 ≤ loud x o ∧ loud x o ≤ 15 := by
  unfold loud; split
  · omega
  · split <;> omega
def sca (zss : List (List Int)) (c b : Nat) : Int := (zss.getD c []).getD b 0
def need (m : Int) (B r : Nat) (zss : List (List Int)) (c b : Nat) : Int := if m = 1 then sca zss c b else loud (sca zss c b) (off B r b)
def okZ (B : Nat) (zss : List (List Int)) : Prop := ∀ zs ∈ zss, zs.length = B ∧ ∀ z ∈ zs, 0 ≤ z ∧ z ≤ 15
theorem sca_bd {B : Nat} {zss : List (List Int)} (h : okZ B zss) (c b : Nat) : 0 ≤ sca zss c b ∧ sca zss c b ≤ 15 := by
  unfold sca
  by_cases hc : c < zss.length
  · have h1 := h _ (List.getElem_mem hc)
    rw [List.getD_eq_getElem?_getD (l := zss), List.getElem?_eq_getElem hc]
    simp only [Option.getD_some]
    by_cases hb : b < (zss[c]).length
    · rw [List.getD_eq_getElem?_getD, List.getElem?_eq_getElem hb]; exact h1.2 _ (List.getElem_mem hb)
    · rw [List.getD_eq_getElem?_getD, List.getElem?_eq_none (by omega)]; decide
  · rw [List.getD_eq_getElem?_getD (l := zss), List.getElem?_eq_none (by omega)]; simp
theorem need_bd {m : Int} {B r : Nat} {zss : List (List Int)} (h : okZ B zss) (c b : Nat) : -5 ≤ need m B r zss c b ∧ need m B r zss c b ≤ 15 := by
  have := sca_bd h c b
  have := off_bd B r b
  unfold need; split
  · omega
  · exact loud_bd (by omega) (by omega) (by omega) (by omega)
def nd (m : Int) (C B r : Nat) (zss : List (List Int)) (j : Nat) : Int := need m B r zss (j % C) (j / C)
theorem nd_bd {m : Int} {C B r : Nat} {zss : List (List Int)} (h : okZ B zss) (j : Nat) : -5 ≤ nd m C B r zss j ∧ nd m C B r zss j ≤ 15 := need_bd h _ _
theorem nd_at {m : Int} {C B r : Nat} {zss : List (List Int)} {c b : Nat} (hc : c < C) : nd m C B r zss (b * C + c) = need m B r zss c b := by
  unfold nd
  rw [Nat.mul_comm b C, Nat.mul_add_mod, Nat.mod_eq_of_lt hc, Nat.mul_add_div (by omega), Nat.div_eq_of_lt hc, Nat.add_zero]

def h16 (x : Int) : Int := if x < 2 then 0 else if x < 16 then x else 16
def c16 (x : Int) : Int := if x = 1 then 2 else if 2 ≤ x ∧ x < 16 then 1 else 0
theorem h16_succ (x : Int) : h16 (x + 1) = h16 x + c16 x := by
  unfold h16 c16
  repeat' split
  all_goals omega
theorem h16_bd (x : Int) : 0 ≤ h16 x ∧ h16 x ≤ 16 := by unfold h16; repeat' split
                                                        all_goals omega
theorem c16_bd (x : Int) : 0 ≤ c16 x ∧ c16 x ≤ 2 := by unfold c16; repeat' split
                                                       all_goals omega
def tot (n : Nat → Int) : Nat → Int → Int
  | 0, _ => 0
  | N + 1, s => tot n N s + h16 (n N - s)
def cst (n : Nat → Int) : Nat → Int → Int
  | 0, _ => 0
  | N + 1, s => cst n N s + c16 (n N - s)
theorem tot_pred (n : Nat → Int) (N : Nat) (s : Int) : tot n N (s - 1) = tot n N s + cst n N s := by
  induction N with
  | zero => rfl
  | succ N ih =>
    have := h16_succ (n N - s)
    simp only [tot, cst, ih, show n N - (s - 1) = n N - s + 1 by omega]
    omega
theorem cst_bd (n : Nat → Int) (N : Nat) (s : Int) : 0 ≤ cst n N s ∧ cst n N s ≤ 2 * N := by
  induction N with
  | zero => simp [cst]
  | succ N ih => have := c16_bd (n N - s); simp only [cst]; omega
theorem tot_bd (n : Nat → Int) (N : Nat) (s : Int) : 0 ≤ tot n N s ∧ tot n N s ≤ 16 * N := by
  induction N with
  | zero => simp [tot]
  | succ N ih => have := h16_bd (n N - s); simp only [tot]; omega
theorem tot_top (n : Nat → Int) (N : Nat) (s : Int) (h : ∀ j, j < N → n j ≤ s + 1) : tot n N s = 0 := by
  induction N with
  | zero => rfl
  | succ N ih =>
    have := h N (by omega)
    simp only [tot]
    rw [ih (fun j hj => h j (by omega))]
    unfold h16
    rw [if_pos (by omega)]; rfl
theorem tot_low (n : Nat → Int) (N : Nat) (s : Int) (h : ∀ j, j < N → s + 16 ≤ n j) : tot n N s = 16 * N := by
  induction N with
  | zero => rfl
  | succ N ih =>
    have := h N (by omega)
    simp only [tot]
    rw [ih (fun j hj => h j (by omega))]
    unfold h16
    rw [if_neg (by omega), if_neg (by omega)]; omega
theorem tot_down (n : Nat → Int) (N : Nat) (s : Int) (k : Nat) : tot n N s ≤ tot n N (s - k) := by
  induction k with
  | zero => simp
  | succ k ih =>
    have h1 := tot_pred n N (s - k)
    have h2 := cst_bd n N (s - k)
    rw [show s - ((k + 1 : Nat) : Int) = s - k - 1 by omega]
    omega
theorem tot_mono (n : Nat → Int) (N : Nat) {s t : Int} (h : s ≤ t) : tot n N t ≤ tot n N s := by
  have := tot_down n N t (t - s).toNat
  rwa [show t - ((t - s).toNat : Int) = s by omega] at this
def lst (n : Nat → Int) (N : Nat) (p s : Int) : Prop := tot n N s < p ∧ p ≤ tot n N (s - 1)
theorem lst_one {n : Nat → Int} {N : Nat} {p s t : Int} (h : lst n N p s) (k : lst n N p t) : s = t := by
  rcases (by omega : s = t ∨ s ≤ t - 1 ∨ t ≤ s - 1) with e | e | e
  · exact e
  · have := tot_mono n N e; have := h.1; have := k.2; omega
  · have := tot_mono n N e; have := k.1; have := h.2; omega
theorem lst_lt {n : Nat → Int} {N : Nat} {p s t : Int} (h : lst n N p s) (k : tot n N (t - 1) < p) : s < t := by
  rcases (by omega : s < t ∨ t ≤ s) with e | e
  · exact e
  · have := tot_mono n N (show t - 1 ≤ s - 1 by omega); have := h.2; omega
theorem lst_is {n : Nat → Int} {N : Nat} {p : Int} (hn : ∀ j, j < N → -5 ≤ n j) (h0 : 0 < p) (h1 : p ≤ 16 * N) (top : Int) (ht : tot n N top < p) : ∃ s, lst n N p s ∧ -21 < s ∧ s ≤ top := by
  have key : ∀ k : Nat, p ≤ tot n N (top - k) → ∃ s, lst n N p s ∧ top - k < s ∧ s ≤ top := by
    intro k
    induction k with
    | zero => intro h; simp at h; omega
    | succ k ih =>
      intro h
      by_cases hk : p ≤ tot n N (top - k)
      · obtain ⟨s, a, b, c⟩ := ih hk
        exact ⟨s, a, by omega, c⟩
      · refine ⟨top - k, ⟨by omega, ?_⟩, by omega, by omega⟩
        rw [show top - ((k + 1 : Nat) : Int) = top - k - 1 by omega] at h
        exact h
  have hl : tot n N (-21) = 16 * N := tot_low n N _ (fun j hj => by have := hn j hj; omega)
  have hlt : -21 < top := by
    rcases (by omega : -21 < top ∨ top ≤ -21) with e | e
    · exact e
    · have := tot_mono n N e; omega
  obtain ⟨s, a, b, c⟩ := key (top + 21).toNat (by rw [show top - ((top + 21).toNat : Int) = -21 by omega]; omega)
  exact ⟨s, a, by omega, c⟩
def fin (n : Nat → Int) (N : Nat) (p s : Int) : Int := if tot n N (s - 1) = p then s - 1 else s
theorem fin_bd (n : Nat → Int) (N : Nat) (p s : Int) : s - 1 ≤ fin n N p s ∧ fin n N p s ≤ s := by unfold fin; split <;> omega
theorem fin_tot {n : Nat → Int} {N : Nat} {p s : Int} (h : lst n N p s) : tot n N (fin n N p s) ≤ p := by
  unfold fin; split
  · rename_i e; omega
  · have := h.1; omega

def mx (n : Nat → Int) : Nat → Int
  | 0 => -5
  | N + 1 => if mx n N < n N then n N else mx n N
theorem mx_ge (n : Nat → Int) (N j : Nat) (h : j < N) : n j ≤ mx n N := by
  induction N with
  | zero => omega
  | succ N ih =>
    simp only [mx]
    rcases (by omega : j < N ∨ j = N) with h' | rfl
    · have := ih h'; split <;> omega
    · split <;> omega
theorem mx_bd (n : Nat → Int) (N : Nat) (h : ∀ j, j < N → n j ≤ 15) : -5 ≤ mx n N ∧ mx n N ≤ 15 := by
  induction N with
  | zero => simp [mx]
  | succ N ih => have := ih (fun j hj => h j (by omega)); have := h N (by omega); simp only [mx]; split <;> omega
theorem mx_top (n : Nat → Int) (N : Nat) (s : Int) (h : mx n N ≤ s + 1) : tot n N s = 0 := tot_top n N s (fun j hj => by have := mx_ge n N j hj; omega)

def bt1 (bg : Bool) (n s p x β : Int) : Int := if p - x ≤ 0 then β else if 2 ≤ β ∧ β < 16 then β + 1 else if bg = true ∧ n = s + 1 ∧ 2 ≤ p - x then 2 else β
def sg1 (bg : Bool) (n s p x β : Int) : Int := if p - x ≤ 0 then x else if 2 ≤ β ∧ β < 16 then x + 1 else if bg = true ∧ n = s + 1 ∧ 2 ≤ p - x then x + 2 else x
def sg (bg : Bool) (n : Nat → Int) (s p : Int) (β : Nat → Int) (x : Int) : Nat → Int
  | 0 => x
  | k + 1 => sg1 bg (n k) s p (sg bg n s p β x k) (β k)
def bts (bg : Bool) (n : Nat → Int) (s p : Int) (β : Nat → Int) (x : Int) (k j : Nat) : Int := if j < k then bt1 bg (n j) s p (sg bg n s p β x j) (β j) else β j
theorem sg_bd (bg : Bool) (n : Nat → Int) (s p : Int) (β : Nat → Int) (x : Int) (hx : 0 ≤ x ∧ x ≤ p) (k : Nat) : 0 ≤ sg bg n s p β x k ∧ sg bg n s p β x k ≤ p := by
  induction k with
  | zero => exact hx
  | succ k ih => simp only [sg, sg1]; repeat' split
                 all_goals omega
theorem bt1_bd {bg : Bool} {n s p x β : Int} (h : 0 ≤ β ∧ β ≤ 16) : 0 ≤ bt1 bg n s p x β ∧ bt1 bg n s p x β ≤ 16 := by
  unfold bt1; repeat' split
  all_goals omega
theorem bts_bd (bg : Bool) (n : Nat → Int) (s p : Int) (β : Nat → Int) (x : Int) (h : ∀ j, 0 ≤ β j ∧ β j ≤ 16) (k j : Nat) : 0 ≤ bts bg n s p β x k j ∧ bts bg n s p β x k j ≤ 16 := by
  unfold bts; split
  · exact bt1_bd (h j)
  · exact h j
theorem bts_zero (bg : Bool) (n : Nat → Int) (s p : Int) (β : Nat → Int) (x : Int) (j : Nat) : bts bg n s p β x 0 j = β j := by unfold bts; rw [if_neg (by omega)]
theorem bts_self (bg : Bool) (n : Nat → Int) (s p : Int) (β : Nat → Int) (x : Int) (k : Nat) : bts bg n s p β x k k = β k := by unfold bts; rw [if_neg (by omega)]
theorem bts_new (bg : Bool) (n : Nat → Int) (s p : Int) (β : Nat → Int) (x : Int) (k : Nat) : bts bg n s p β x (k + 1) k = bt1 bg (n k) s p (sg bg n s p β x k) (β k) := by unfold bts; rw [if_pos (by omega)]
theorem bts_old (bg : Bool) (n : Nat → Int) (s p : Int) (β : Nat → Int) (x : Int) {k j : Nat} (h : j ≠ k) : bts bg n s p β x (k + 1) j = bts bg n s p β x k j := by
  unfold bts
  by_cases hj : j < k
  · rw [if_pos (by omega), if_pos hj]
  · rw [if_neg (by omega), if_neg hj]
def b0 (n : Nat → Int) (N : Nat) (p s : Int) (j : Nat) : Int := h16 (n j - fin n N p s)
def x0 (n : Nat → Int) (N : Nat) (p s : Int) : Int := tot n N (fin n N p s)
def b1 (n : Nat → Int) (N : Nat) (p s : Int) (j : Nat) : Int := bts true n (fin n N p s) p (b0 n N p s) (x0 n N p s) N j
def x1 (n : Nat → Int) (N : Nat) (p s : Int) : Int := sg true n (fin n N p s) p (b0 n N p s) (x0 n N p s) N
def shr (n : Nat → Int) (N : Nat) (p s : Int) (j : Nat) : Int := bts false n (fin n N p s) p (b1 n N p s) (x1 n N p s) N j
theorem b0_bd (n : Nat → Int) (N : Nat) (p s : Int) (j : Nat) : 0 ≤ b0 n N p s j ∧ b0 n N p s j ≤ 16 := h16_bd _
theorem b1_bd (n : Nat → Int) (N : Nat) (p s : Int) (j : Nat) : 0 ≤ b1 n N p s j ∧ b1 n N p s j ≤ 16 := bts_bd _ _ _ _ _ _ (b0_bd n N p s) _ _
theorem shr_bd (n : Nat → Int) (N : Nat) (p s : Int) (j : Nat) : 0 ≤ shr n N p s j ∧ shr n N p s j ≤ 16 := bts_bd _ _ _ _ _ _ (b1_bd n N p s) _ _

end M
end Go.Proofs.YtcaifpjbjghhaaaGreatDoor

/-
  When two lists are the same: the contracts of the document's comparisons for two that are. Conditions: none.
-/
namespace Go.Proofs.YtcaifpjbjghhaaaGreatDoor
set_option linter.unusedVariables false
open Go.RowKit
namespace Poly
open Bank (Blk But)

set_option maxRecDepth 100000 in
theorem same16 (lo1 hi1 lo2 hi2 : Nat) (v1 v2 : Value) (xs : List Int) (w : World) (h1 : Reads .i16 lo1 hi1 w v1 xs) (h2 : Reads .i16 lo2 hi2 w v2 xs) (hl : xs.length ≤ 1000000) :
    Calls Tryz.prog 34 #[v1, v2] w fun e w' => e = .returned (.bool true) ∧ ∃ m, w' = w.drewN m := by
  obtain ⟨a1, c1, rfl⟩ := h1.form
  obtain ⟨a2, c2, rfl⟩ := h2.form
  obtain ⟨n, hlen⟩ : ∃ n, xs.length = n := ⟨_, rfl⟩
  rcases Nat.eq_zero_or_pos n with rfl | hpos
  · rw [hlen]
    clear h1 h2 hl hlen
    go_enter Tryz.func34, Tryz.ntmps34
    go_wp2
    refine wp_loop_rounds 1 ?_
    rw [rounds_succ]
    go_wp2
    go_ret
    exact ⟨rfl, 0, rfl⟩
  · obtain ⟨g1, o1, rfl, _, _, r1⟩ := h1.cell (by omega)
    obtain ⟨g2, o2, rfl, _, _, r2⟩ := h2.cell (by omega)
    rw [hlen] at r1 r2 ⊢
    have hl' : (n : Int) ≤ 1000000 := by omega
    have R1 : Hid (∀ i, i < n → w.cell? ⟨g1, o1 + i, none⟩ = some (.int .i16 (xs.getD i 0))) := r1
    have R2 : Hid (∀ i, i < n → w.cell? ⟨g2, o2 + i, none⟩ = some (.int .i16 (xs.getD i 0))) := r2
    clear hlen r1 r2 hl h1 h2
    go_enter Tryz.func34, Tryz.ntmps34
    go_wp2
    go_loopw [5] (fun i wr => ∃ k : Nat, k ≤ n ∧ i = .int .i64 k ∧ ∃ m, wr = w.drewN m) (fun i _ => n - (intOf i).toNat)
    case atStart => exact ⟨0, by omega, rfl, 0, rfl⟩
    case round =>
      obtain ⟨k, hk, rfl, m, rfl⟩ := hrel
      by_cases hlt : k < n
      · have hlt' : (k : Int) < n := by omega
        have hb : (0 : Int) ≤ k ∧ (k : Int) < n := by omega
        have q1 := R1.out k hlt
        have q2 := R2.out k hlt
        generalize xs.getD k 0 = x at q1 q2
        go_wp2
        go_quiet (fail)
        go_wp2
        go_roundw
        case rel => exact ⟨k + 1, by omega, by go_num, _, rfl⟩
        case measure => simp [intOf]; omega
      · obtain rfl : k = n := by omega
        go_wp2
        go_ret
        exact ⟨rfl, _, rfl⟩

end Poly
end Go.Proofs.YtcaifpjbjghhaaaGreatDoor

/-
  Layer 10 in plain lists: channels, woven samples, the greatest, the sum of squares, what is taken. No walk.
-/
namespace Go.Proofs.YtcaifpjbjghhaaaGreatDoor
set_option linter.unusedVariables false
namespace M

def chn (n : Nat) (xs : List Int) (k c : Nat) : List Int := (List.range n).map fun j => xs.getD (k + c * j) 0
def wov (c n : Nat) (l : List (List Int)) : List Int := (List.range (c * n)).map fun i => (l.getD (i % c) []).getD (i / c) 0
def chs (n : Nat) (xs : List Int) (c : Nat) : List (List Int) := (List.range c).map fun k => chn n xs k c
theorem chn_length (n : Nat) (xs : List Int) (k c : Nat) : (chn n xs k c).length = n := by simp [chn]
theorem wov_length (c n : Nat) (l : List (List Int)) : (wov c n l).length = c * n := by simp [wov]
theorem chs_length (n : Nat) (xs : List Int) (c : Nat) : (chs n xs c).length = c := by simp [chs]
theorem getD_map_range {α : Type} (n i : Nat) (f : Nat → α) (d : α) (h : i < n) : ((List.range n).map f).getD i d = f i := by
  simp [List.getD, h]
theorem chs_get {n : Nat} {xs : List Int} {c k : Nat} (h : k < c) : (chs n xs c).getD k [] = chn n xs k c := getD_map_range _ _ _ _ h
theorem fits_getD {xs : List Int} (h : fits16 xs) (i : Nat) : -32768 ≤ xs.getD i 0 ∧ xs.getD i 0 ≤ 32767 := by
  rw [List.getD_eq_getElem?_getD]
  rcases Nat.lt_or_ge i xs.length with hi | hi
  · rw [List.getElem?_eq_getElem hi]; exact h _ (List.getElem_mem _)
  · rw [List.getElem?_eq_none hi]; decide
theorem fits_map {n : Nat} {f : Nat → Int} (h : ∀ i, -32768 ≤ f i ∧ f i ≤ 32767) : fits16 ((List.range n).map f) := fun z hz => by
  obtain ⟨i, _, rfl⟩ := List.mem_map.1 hz
  exact h i
theorem chn_fits {n : Nat} {xs : List Int} {k c : Nat} (h : fits16 xs) : fits16 (chn n xs k c) := fits_map fun i => fits_getD h _
theorem wov_fits {c n : Nat} {l : List (List Int)} (h : ∀ k, fits16 (l.getD k [])) : fits16 (wov c n l) := fits_map fun i => fits_getD (h _) _

def en (xs : List Int) : Nat → Int
  | 0 => 0
  | k + 1 => en xs k + xs.getD k 0 * xs.getD k 0
end M
end Go.Proofs.YtcaifpjbjghhaaaGreatDoor

