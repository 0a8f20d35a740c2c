import Derived.Below
import Derived.WalkKit
import Derived.Deep.Quiet
import Derived.Deep.QuietTactic
/-
  Memory: whole blocks, and what a call may turn (two blocks, and what is new). Plain facts, no walk.
-/
namespace Go.Proofs.YtcaifpjbjghhaaaGreatDoor
set_option linter.unusedVariables false
open Go.RowKit
namespace Bits

def Blk (w : World) (b : Nat) (cur : Array Value) (t : TypeId) : Prop := w.heap[b]? = some (.cells cur t (0, 0))
theorem Blk.lt {w : World} {b : Nat} {cur : Array Value} {t : TypeId} (h : Blk w b cur t) : b < w.heap.size := (Array.getElem?_eq_some_iff.1 h).1
theorem Blk.cell {w : World} {b : Nat} {cur : Array Value} {t : TypeId} (h : Blk w b cur t) {o : Nat} {v : Value} (hv : cur[o]? = some v) : w.cell? ⟨b, o, none⟩ = some v := by
  unfold Blk at h; simp [World.cell?, h, hv]
theorem Blk.free {w : World} {b : Nat} {cur : Array Value} {t : TypeId} (h : Blk w b cur t) (o : Nat) : w.frozen? ⟨b, o, none⟩ = false := by
  unfold Blk at h; simp [World.frozen?, h]
theorem Blk.same {w : World} {b : Nat} {cur cur' : Array Value} {t t' : TypeId} (h : Blk w b cur t) (h' : Blk w b cur' t') : cur = cur' ∧ t = t' := by
  unfold Blk at h h'
  rw [h] at h'
  simp at h'
  exact h'
theorem Blk.ne {w : World} {b b' : Nat} {cur cur' : Array Value} {t t' : TypeId} (h : Blk w b cur t) (h' : Blk w b' cur' t') (hne : t ≠ t') : b ≠ b' := by
  rintro rfl
  exact hne (h.same h').2
theorem Blk.drewN {w : World} {b : Nat} {cur : Array Value} {t : TypeId} (h : Blk w b cur t) (m : Nat) : Blk (w.drewN m) b cur t := h
theorem Blk.drew {w : World} {b : Nat} {cur : Array Value} {t : TypeId} (h : Blk w b cur t) : Blk w.drew b cur t := h
theorem Blk.set {w : World} {b : Nat} {cur : Array Value} {t : TypeId} (h : Blk w b cur t) (o : Nat) (v : Value) : Blk (w.setCell ⟨b, o, none⟩ v) b (cur.setIfInBounds o v) t := by
  unfold Blk at h ⊢
  simp [World.setCell, Array.getElem?_modify, h]
theorem Blk.set_ne {w : World} {b : Nat} {cur : Array Value} {t : TypeId} (h : Blk w b cur t) {a : Addr} (hne : b ≠ a.block) (v : Value) : Blk (w.setCell a v) b cur t := by
  unfold Blk at h ⊢
  rw [Below.heap_setCell _ _ _ _ hne]; exact h
theorem Blk.alloc {w : World} {b : Nat} {cur : Array Value} {t : TypeId} (h : Blk w b cur t) (o : Obj) : Blk (w.alloc o) b cur t := by
  have hl := h.lt
  unfold Blk at h ⊢
  rw [Below.heap_alloc _ _ _ hl]; exact h
theorem Blk.new (w : World) (c : Array Value) (t : TypeId) : Blk (w.alloc (.cells c t)) w.heap.size c t := heap_alloc_new w _

structure But (b d : Nat) (w w' : World) : Prop where
  os : w'.os = w.os
  tape : w'.tape = w.tape
  output : w'.output = w.output
  size : w.heap.size ≤ w'.heap.size
  block : ∀ k, k < w.heap.size → k ≠ b → k ≠ d → w'.heap[k]? = w.heap[k]?
theorem But.refl (b d : Nat) (w : World) : But b d w w := ⟨rfl, rfl, rfl, Nat.le_refl _, fun _ _ _ _ => rfl⟩
theorem But.trans {b d : Nat} {a c e : World} (h : But b d a c) (k : But b d c e) : But b d a e :=
  ⟨k.os.trans h.os, k.tape.trans h.tape, k.output.trans h.output, Nat.le_trans h.size k.size, fun i hi hb hd => (k.block i (Nat.lt_of_lt_of_le hi h.size) hb hd).trans (h.block i hi hb hd)⟩
theorem But.drewN {b d : Nat} {w w' : World} (h : But b d w w') (m : Nat) : But b d w (w'.drewN m) := ⟨h.os, h.tape, h.output, h.size, h.block⟩
theorem But.drew {b d : Nat} {w w' : World} (h : But b d w w') : But b d w w'.drew := ⟨h.os, h.tape, h.output, h.size, h.block⟩
theorem But.alloc {b d : Nat} {w w' : World} (h : But b d w w') (o : Obj) : But b d w (w'.alloc o) :=
  h.trans ⟨rfl, rfl, rfl, by simp, fun k hk _ _ => Below.heap_alloc _ _ _ hk⟩
theorem But.set {b d : Nat} {w w' : World} (h : But b d w w') {a : Addr} (ha : a.block = b ∨ a.block = d ∨ w.heap.size ≤ a.block) (v : Value) : But b d w (w'.setCell a v) :=
  ⟨h.os, h.tape, h.output, by simpa [World.setCell] using h.size, fun k hk hb hd => by rw [Below.heap_setCell _ _ _ _ (by omega)]; exact h.block k hk hb hd⟩
theorem But.blk {b d : Nat} {w w' : World} (h : But b d w w') {k : Nat} {cur : Array Value} {t : TypeId} (hk : Blk w k cur t) (hb : k ≠ b) (hd : k ≠ d) : Blk w' k cur t :=
  (h.block k hk.lt hb hd).trans hk
theorem But.mono {b d b' d' : Nat} {w w' : World} (h : But b d w w') (hb : b = b' ∨ b = d') (hd : d = b' ∨ d = d') : But b' d' w w' :=
  ⟨h.os, h.tape, h.output, h.size, fun k hk kb kd => h.block k hk (by omega) (by omega)⟩
theorem But.below {b d B : Nat} {w w' : World} (h : But b d w w') (hB : B ≤ b) (hD : B ≤ d) (hs : B ≤ w.heap.size) : Below B w w' :=
  ⟨h.os, h.tape, h.output, h.size, fun k hk => h.block k (by omega) (by omega) (by omega)⟩
theorem But.of_below {b d B : Nat} {w w' : World} (h : Below B w w') (hB : w.heap.size ≤ B) : But b d w w' :=
  ⟨h.os, h.tape, h.output, h.size, fun k hk _ _ => h.block k (by omega)⟩
theorem Below.blk {B : Nat} {w w' : World} (h : Below B w w') {k : Nat} {cur : Array Value} {t : TypeId} (hk : Blk w k cur t) (hb : k < B) : Blk w' k cur t :=
  (h.block k hb).trans hk
theorem Below.less {B C : Nat} {w w' : World} (h : Below B w w') (hC : C ≤ B) : Below C w w' := ⟨h.os, h.tape, h.output, h.size, fun k hk => h.block k (by omega)⟩
theorem add_at (g j : Nat) : (⟨g, 0, none⟩ : Addr).add j = ⟨g, j, none⟩ := by
  unfold Addr.add; split <;> simp_all
theorem wrap_id (n : Int) (h0 : -9223372036854775808 ≤ n) (h1 : n ≤ 9223372036854775807) : IntKind.i64.wrap n = n := by rw [IntKind.wrap_i64]; omega

end Bits
end Go.Proofs.YtcaifpjbjghhaaaGreatDoor

