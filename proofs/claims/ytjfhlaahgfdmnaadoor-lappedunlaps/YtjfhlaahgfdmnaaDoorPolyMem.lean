/-
  Memory of layer 8: lists that are read, rows of lists, lists that were made. Plain facts, no walk.
-/
import Derived.Test.YtjfhlaahgfdmnaaDoorPolyMath
import Derived.Laws.CopyOwn
import Derived.Lib.SliceRun
namespace Go.Proofs.YtjfhlaahgfdmnaaDoor
set_option linter.unusedVariables false
open Go.RowKit
namespace Poly
open Bank (Blk But)

theorem wf16 {z : Int} : (Lit.int .i16 z).wf = true ↔ -32768 ≤ z ∧ z ≤ 32767 := by simp [Lit.wf, IntKind.min, IntKind.max, IntKind.signed, IntKind.bits]
theorem wf32 {z : Int} : (Lit.int .i32 z).wf = true ↔ -2147483648 ≤ z ∧ z ≤ 2147483647 := by simp [Lit.wf, IntKind.min, IntKind.max, IntKind.signed, IntKind.bits]
theorem fit16 {zs : List Int} : (∀ z ∈ zs, (Lit.int .i16 z).wf = true) ↔ M.fits16 zs := ⟨fun h z hz => wf16.1 (h z hz), fun h z hz => wf16.2 (h z hz)⟩
theorem fit32 {zs : List Int} : (∀ z ∈ zs, (Lit.int .i32 z).wf = true) ↔ M.fits32 zs := ⟨fun h z hz => wf32.1 (h z hz), fun h z hz => wf32.2 (h z hz)⟩

theorem add_at (g j : Nat) : (⟨g, 0, none⟩ : Addr).add j = ⟨g, j, none⟩ := by
  unfold Addr.add; split <;> simp_all
theorem add_off (g o j : Nat) : (⟨g, o, none⟩ : Addr).add j = ⟨g, o + j, none⟩ := by
  unfold Addr.add; split <;> simp_all
def enc (k : IntKind) (zs : List Int) : List Value := zs.map fun z : Int => Value.int k z
theorem enc_get {k : IntKind} {zs : List Int} {i : Nat} (h : i < zs.length) : (enc k zs)[i]? = some (.int k (zs.getD i 0)) := by
  simp [enc, List.getD, h]
theorem enc_length (k : IntKind) (zs : List Int) : (enc k zs).length = zs.length := by simp [enc]
theorem enc_one (k : IntKind) (zs : List Int) : ∀ u ∈ enc k zs, u.oneCell' = true := by
  intro u hu
  obtain ⟨z, _, rfl⟩ := List.mem_map.1 hu
  rfl

/-- v reads as zs, in blocks from lo on below hi -/
def Reads (k : IntKind) (lo hi : Nat) (w : World) (v : Value) (zs : List Int) : Prop :=
  ∃ a c, v = .slice a zs.length c ∧ zs.length ≤ c ∧ (∀ z ∈ zs, (Lit.int k z).wf = true) ∧ (zs = [] ∨ ∃ b off, a = some ⟨b, off, none⟩ ∧ lo ≤ b ∧ b < hi ∧ ∀ i, i < zs.length → w.cell? ⟨b, off + i, none⟩ = some (.int k (zs.getD i 0)))
theorem cell_keep {w w' : World} {b o : Nat} (h : w'.heap[b]? = w.heap[b]?) : w'.cell? ⟨b, o, none⟩ = w.cell? ⟨b, o, none⟩ := by simp [World.cell?, h]
theorem Reads.keep {k : IntKind} {lo hi : Nat} {w w' : World} {v : Value} {zs : List Int} (h : Reads k lo hi w v zs) (hk : ∀ b, lo ≤ b → b < hi → w'.heap[b]? = w.heap[b]?) : Reads k lo hi w' v zs := by
  obtain ⟨a, c, rfl, hl, hw, h | ⟨b, off, ha, h0, h1, hx⟩⟩ := h
  · exact ⟨a, c, rfl, hl, hw, .inl h⟩
  · exact ⟨a, c, rfl, hl, hw, .inr ⟨b, off, ha, h0, h1, fun i hi => (cell_keep (hk b h0 h1)).trans (hx i hi)⟩⟩
theorem Reads.mono {k : IntKind} {lo hi lo' hi' : Nat} {w : World} {v : Value} {zs : List Int} (h : Reads k lo hi w v zs) (h0 : lo' ≤ lo) (h1 : hi ≤ hi') : Reads k lo' hi' w v zs := by
  obtain ⟨a, c, rfl, hl, hw, h | ⟨b, off, ha, k0, k1, hx⟩⟩ := h
  · exact ⟨a, c, rfl, hl, hw, .inl h⟩
  · exact ⟨a, c, rfl, hl, hw, .inr ⟨b, off, ha, by omega, by omega, hx⟩⟩
theorem Reads.drewN {k : IntKind} {lo hi : Nat} {w : World} {v : Value} {zs : List Int} (h : Reads k lo hi w v zs) (m : Nat) : Reads k lo hi (w.drewN m) v zs := h
theorem Reads.drew {k : IntKind} {lo hi : Nat} {w : World} {v : Value} {zs : List Int} (h : Reads k lo hi w v zs) : Reads k lo hi w.drew v zs := h
theorem Reads.form {k : IntKind} {lo hi : Nat} {w : World} {v : Value} {zs : List Int} (h : Reads k lo hi w v zs) : ∃ a c, v = .slice a zs.length c := by
  obtain ⟨a, c, h, _⟩ := h; exact ⟨a, c, h⟩
theorem Reads.row {k : IntKind} {lo hi : Nat} {w : World} {a : Option Addr} {l c : Nat} {zs : List Int} (h : Reads k lo hi w (.slice a l c) zs) : l = zs.length ∧ l ≤ c ∧ Dot.Row k w a l zs := by
  obtain ⟨a', c', he, hl, hw, h⟩ := h
  cases he
  refine ⟨rfl, hl, rfl, ?_, hw⟩
  rcases h with rfl | ⟨b, off, rfl, _, _, hx⟩
  · exact .inl rfl
  · exact .inr ⟨b, off, rfl, hx⟩
theorem Reads.cell {k : IntKind} {lo hi : Nat} {w : World} {a : Option Addr} {l c : Nat} {zs : List Int} (h : Reads k lo hi w (.slice a l c) zs) (hz : 0 < zs.length) : ∃ b off, a = some ⟨b, off, none⟩ ∧ lo ≤ b ∧ b < hi ∧ ∀ i, i < zs.length → w.cell? ⟨b, off + i, none⟩ = some (.int k (zs.getD i 0)) := by
  obtain ⟨a', c', he, hl, hw, h⟩ := h
  cases he
  rcases h with rfl | h
  · exact absurd hz (by simp)
  · exact h
theorem Reads.but {k : IntKind} {lo hi g : Nat} {w w' : World} {v : Value} {zs : List Int} (h : Reads k lo hi w v zs) (hb : But g w w') (hs : hi ≤ w.heap.size) (hg : g < lo ∨ hi ≤ g) : Reads k lo hi w' v zs :=
  h.keep fun b h0 h1 => hb.block b (by omega) (by omega)
theorem Reads.below {k : IntKind} {lo hi B : Nat} {w w' : World} {v : Value} {zs : List Int} (h : Reads k lo hi w v zs) (hb : Below B w w') (hs : hi ≤ B) : Reads k lo hi w' v zs :=
  h.keep fun b h0 h1 => hb.block b (by omega)

/-- a block that holds zs and nothing else, read from its head -/
theorem reads_blk {k : IntKind} {w : World} {g : Nat} {zs : List Int} {t : TypeId} (h : Blk w g (enc k zs).toArray t) (hw : ∀ z ∈ zs, (Lit.int k z).wf = true) : Reads k g (g + 1) w (.slice (some ⟨g, 0, none⟩) zs.length zs.length) zs :=
  ⟨_, _, rfl, Nat.le_refl _, hw, .inr ⟨g, 0, rfl, Nat.le_refl _, Nat.lt_succ_self _, fun i hi => by rw [Nat.zero_add]; exact h.cell (by rw [List.getElem?_toArray]; exact enc_get hi)⟩⟩
/-- a row that a call owns -/
theorem reads_own {k : IntKind} {w : World} {B : Nat} {t : TypeId} {v : Value} {zs : List Int} (h : w.ownsRow B t 1 v zs.length (enc k zs)) (hw : ∀ z ∈ zs, (Lit.int k z).wf = true) : Reads k B w.heap.size w v zs := by
  rcases id h.2 with ⟨rfl, h0⟩ | ⟨g, cap, cur, rfl, hg, hh, h1, h2, h3, h4⟩
  · obtain rfl : zs = [] := List.length_eq_zero_iff.1 h0
    exact ⟨none, 0, rfl, Nat.le_refl _, hw, .inl rfl⟩
  · refine ⟨_, cap, rfl, by omega, hw, .inr ⟨g, 0, rfl, hg, (Array.getElem?_eq_some_iff.1 hh).1, fun i hi => ?_⟩⟩
    have := h.cells (g := g) rfl i _ (enc_get hi)
    rw [add_at] at this
    rw [Nat.zero_add]; exact this

theorem But.setRow {b : Nat} {w w' : World} (h : But b w w') (cs : Array Value) : But b w (w'.setRow b cs) :=
  ⟨h.os, h.tape, h.output, by simpa using h.size, fun k hk hb => by rw [setRow_other _ _ _ _ hb]; exact h.block k hk hb⟩
theorem But.setRow_new {b g : Nat} {w w' : World} (h : But b w w') (hg : w.heap.size ≤ g) (cs : Array Value) : But b w (w'.setRow g cs) :=
  ⟨h.os, h.tape, h.output, by simpa using h.size, fun k hk hb => by rw [setRow_other _ _ _ _ (by omega)]; exact h.block k hk hb⟩
theorem Blk.setRow {w : World} {b : Nat} {cur : Array Value} {t : TypeId} (h : Blk w b cur t) (cs : Array Value) : Blk (w.setRow b cs) b cs t := setRow_heap w b cur cs t (0, 0) h
theorem Blk.setRow_ne {w : World} {b g : Nat} {cur : Array Value} {t : TypeId} (h : Blk w b cur t) (hne : b ≠ g) (cs : Array Value) : Blk (w.setRow g cs) b cur t := (setRow_other w g b cs hne).trans h
theorem But.below' {b B : Nat} {a w w' : World} (h : But b a w) (hb : Below B w w') (hB : a.heap.size ≤ B) : But b a w' :=
  ⟨hb.os.trans h.os, hb.tape.trans h.tape, hb.output.trans h.output, Nat.le_trans h.size hb.size, fun k hk hne => (hb.block k (by omega)).trans (h.block k hk hne)⟩
theorem But.but' {b c : Nat} {a w w' : World} (h : But b a w) (hb : But c w w') (hc : c = b ∨ a.heap.size ≤ c) : But b a w' :=
  ⟨hb.os.trans h.os, hb.tape.trans h.tape, hb.output.trans h.output, Nat.le_trans h.size hb.size, fun k hk hne => (hb.block k (by have := h.size; omega) (by omega)).trans (h.block k hk hne)⟩
theorem below_but {b B : Nat} {a w w' : World} (h : Below B a w) (hb : But b w w') (hB : B ≤ a.heap.size) (hb' : B ≤ b) : Below B a w' :=
  ⟨hb.os.trans h.os, hb.tape.trans h.tape, hb.output.trans h.output, Nat.le_trans h.size hb.size, fun k hk => (hb.block k (by have := h.size; omega) (by omega)).trans (h.block k hk)⟩
theorem below_drewN {B : Nat} {w w' : World} (h : Below B w w') (m : Nat) : Below B w (w'.drewN m) := ⟨h.os, h.tape, h.output, h.size, h.block⟩
theorem below_drew {B : Nat} {w w' : World} (h : Below B w w') : Below B w w'.drew := ⟨h.os, h.tape, h.output, h.size, h.block⟩

/-- what 'make' lays -/
theorem madeCells_rep (z : Value) (n : Nat) : madeCells #[z] n = (List.replicate n z).toArray := by
  unfold madeCells
  apply Array.ext
  · simp
  · intro i h1 h2
    simp [Nat.mod_one]
theorem enc_rep (k : IntKind) (n : Nat) : enc k (List.replicate n 0) = List.replicate n (.int k 0) := by simp [enc]

theorem info16 : (Tryd.prog.info? 56).map (fun i => (i.zero, i.size, i.bytes)) = some (some (.int .i16 0), 1, 2) := by kernel_rfl
theorem info32 : (Tryd.prog.info? 21).map (fun i => (i.zero, i.size, i.bytes)) = some (some (.int .i32 0), 1, 4) := by kernel_rfl
theorem info64 : (Tryd.prog.info? 2).map (fun i => (i.zero, i.size, i.bytes)) = some (some (.int .i64 0), 1, 8) := by kernel_rfl
theorem infoS16 : (Tryd.prog.info? 23).map (fun i => (i.zero, i.size, i.bytes)) = some (some (.slice none 0 0), 1, 24) := by kernel_rfl
theorem infoS32 : (Tryd.prog.info? 40).map (fun i => (i.zero, i.size, i.bytes)) = some (some (.slice none 0 0), 1, 24) := by kernel_rfl

theorem make16 (w : World) (n : Nat) (hn : n ≤ 65536) : (Instr.makeSlice 23 (.int .i64 n) (.int .i64 n)).run Tryd.prog w = .ok (.slice (some ⟨w.heap.size, 0, none⟩) n n) (w.alloc (.cells (enc .i16 (List.replicate n 0)).toArray 56)) := by
  obtain ⟨i0, hi, hz0, hz1, hz2⟩ := info_parts info16
  have := run_make (P := Tryd.prog) w 23 56 i0 (.int .i16 0) Tryd.underlying23 hi hz0 .i64 .i64 n n (by omega) (by omega) (by rw [hz2]; omega) (by omega)
  rw [this, hz1, enc_rep, ← madeCells_rep]; simp [Value.cells]
theorem make32 (w : World) (n : Nat) (hn : n ≤ 65536) : (Instr.makeSlice 40 (.int .i64 n) (.int .i64 n)).run Tryd.prog w = .ok (.slice (some ⟨w.heap.size, 0, none⟩) n n) (w.alloc (.cells (enc .i32 (List.replicate n 0)).toArray 21)) := by
  obtain ⟨i0, hi, hz0, hz1, hz2⟩ := info_parts info32
  have := run_make (P := Tryd.prog) w 40 21 i0 (.int .i32 0) Tryd.underlying40 hi hz0 .i64 .i64 n n (by omega) (by omega) (by rw [hz2]; omega) (by omega)
  rw [this, hz1, enc_rep, ← madeCells_rep]; simp [Value.cells]

/-- rows of lists: v a slice of slices, in blocks from lo on below hi -/
def Rows (k : IntKind) (lo hi : Nat) (w : World) (v : Value) (zss : List (List Int)) : Prop :=
  ∃ a c, v = .slice a zss.length c ∧ zss.length ≤ c ∧ (zss = [] ∨ ∃ b off, a = some ⟨b, off, none⟩ ∧ lo ≤ b ∧ b < hi ∧ ∀ i, i < zss.length → ∃ u, w.cell? ⟨b, off + i, none⟩ = some u ∧ Reads k lo hi w u (zss.getD i []))
theorem Rows.keep {k : IntKind} {lo hi : Nat} {w w' : World} {v : Value} {zs : List (List Int)} (h : Rows k lo hi w v zs) (hk : ∀ b, lo ≤ b → b < hi → w'.heap[b]? = w.heap[b]?) : Rows k lo hi w' v zs := by
  obtain ⟨a, c, rfl, hl, h | ⟨b, off, ha, h0, h1, hx⟩⟩ := h
  · exact ⟨a, c, rfl, hl, .inl h⟩
  · refine ⟨a, c, rfl, hl, .inr ⟨b, off, ha, h0, h1, fun i hi => ?_⟩⟩
    obtain ⟨u, hu, hr⟩ := hx i hi
    exact ⟨u, (cell_keep (hk b h0 h1)).trans hu, hr.keep hk⟩
theorem Rows.mono {k : IntKind} {lo hi lo' hi' : Nat} {w : World} {v : Value} {zs : List (List Int)} (h : Rows k lo hi w v zs) (h0 : lo' ≤ lo) (h1 : hi ≤ hi') : Rows k lo' hi' w v zs := by
  obtain ⟨a, c, rfl, hl, h | ⟨b, off, ha, k0, k1, hx⟩⟩ := h
  · exact ⟨a, c, rfl, hl, .inl h⟩
  · refine ⟨a, c, rfl, hl, .inr ⟨b, off, ha, by omega, by omega, fun i hi => ?_⟩⟩
    obtain ⟨u, hu, hr⟩ := hx i hi
    exact ⟨u, hu, hr.mono h0 h1⟩
theorem Rows.drewN {k : IntKind} {lo hi : Nat} {w : World} {v : Value} {zs : List (List Int)} (h : Rows k lo hi w v zs) (m : Nat) : Rows k lo hi (w.drewN m) v zs := h
theorem Rows.but {k : IntKind} {lo hi g : Nat} {w w' : World} {v : Value} {zs : List (List Int)} (h : Rows k lo hi w v zs) (hb : But g w w') (hs : hi ≤ w.heap.size) (hg : g < lo ∨ hi ≤ g) : Rows k lo hi w' v zs :=
  h.keep fun b h0 h1 => hb.block b (by omega) (by omega)
theorem Rows.below {k : IntKind} {lo hi B : Nat} {w w' : World} {v : Value} {zs : List (List Int)} (h : Rows k lo hi w v zs) (hb : Below B w w') (hs : hi ≤ B) : Rows k lo hi w' v zs :=
  h.keep fun b h0 h1 => hb.block b (by omega)
theorem Rows.form {k : IntKind} {lo hi : Nat} {w : World} {v : Value} {zs : List (List Int)} (h : Rows k lo hi w v zs) : ∃ a c, v = .slice a zs.length c ∧ zs.length ≤ c := by
  obtain ⟨a, c, h, hl, _⟩ := h; exact ⟨a, c, h, hl⟩
theorem Rows.cell {k : IntKind} {lo hi : Nat} {w : World} {a : Option Addr} {l c : Nat} {zs : List (List Int)} (h : Rows k lo hi w (.slice a l c) zs) (hz : 0 < zs.length) : ∃ b off, a = some ⟨b, off, none⟩ ∧ lo ≤ b ∧ b < hi ∧ ∀ i, i < zs.length → ∃ u, w.cell? ⟨b, off + i, none⟩ = some u ∧ Reads k lo hi w u (zs.getD i []) := by
  obtain ⟨a', c', he, hl, h⟩ := h
  cases he
  rcases h with rfl | h
  · exact absurd hz (by simp)
  · exact h

end Poly
end Go.Proofs.YtjfhlaahgfdmnaaDoor
