/-
  Memory of the bank: blocks, what a call may turn, the tables. Plain facts, no walk but those of the three functions that reckon a table's number. Conditions: the polynomial's numbers stand as their initialiser lays them.
-/
import Derived.Test.YtjfhlaahgfdmnaaDoorBankNum
import Derived.Test.YtjfhlaahgfdmnaaDoorBankSync
import Derived.Below
namespace Go.Proofs.YtjfhlaahgfdmnaaDoor
open Go.RowKit
namespace M

/-- the tables: kind 0 a turn, 1 a slope, 2 a filter; of n -/
def okT (κ n : Nat) : Prop := (κ = 0 ∧ 4 ≤ n ∧ n ≤ 1024 ∧ n % 4 = 0) ∨ (κ = 1 ∧ 1 ≤ n ∧ n ≤ 128) ∨ (κ = 2 ∧ (n = 4 ∧ n = 8))
def tv (κ : Nat) (n i : Int) : Int := if κ = 0 then cosine i n else if κ = 1 then sine (2 * i + 1) (8 * n) else fil i n
def ts (κ n : Nat) : Nat := if κ = 2 then 10 * n else n
def tj (κ n : Nat) : Nat := if κ = 0 then n / 4 - 1 else if κ = 1 then 255 + n else 383 + n / 4
def tabl (κ n : Nat) : List Value := (List.range (ts κ n)).map fun i : Nat => .int .i16 (tv κ (n : Int) (i : Int))
theorem tabl_length (κ n : Nat) : (tabl κ n).length = ts κ n := by simp [tabl]
theorem tabl_get {κ n i : Nat} (h : i < ts κ n) : (tabl κ n)[i]? = some (.int .i16 (tv κ (n : Int) (i : Int))) := by simp [tabl, h]
theorem ts_bd {κ n : Nat} (h : okT κ n) : 1 ≤ ts κ n ∧ ts κ n ≤ 1024 := by
  unfold ts
  rcases h with ⟨rfl, h⟩ | ⟨rfl, h⟩ | ⟨rfl, h⟩
  · rw [if_neg (by decide)]; omega
  · rw [if_neg (by decide)]; omega
  · rw [if_pos rfl]; omega
theorem tj_lt {κ n : Nat} (h : okT κ n) : tj κ n < 386 := by
  unfold tj
  rcases h with ⟨rfl, h⟩ | ⟨rfl, h⟩ | ⟨rfl, h⟩
  · rw [if_pos rfl]; omega
  · rw [if_neg (by decide), if_pos rfl]; omega
  · rw [if_neg (by decide), if_neg (by decide)]; omega
theorem tj_inj {κ n κ' n' : Nat} (h : okT κ n) (h' : okT κ' n') (e : tj κ n = tj κ' n') : κ = κ' ∧ n = n' := by
  unfold tj at e
  rcases h with ⟨rfl, h⟩ | ⟨rfl, h⟩ | ⟨rfl, h⟩ <;> rcases h' with ⟨rfl, h'⟩ | ⟨rfl, h'⟩ | ⟨rfl, h'⟩ <;> simp at e <;> refine ⟨?_, ?_⟩ <;> omega

end M
namespace Bank

/-- a whole block -/
def Blk (w : World) (b : Nat) (cur : Array Value) (t : TypeId) : Prop := w.heap[b]? = some (.cells cur t (0, 0))
theorem Blk.lt {w : World} {b : Nat} {cur : Array Value} {t : TypeId} (h : Blk w b cur t) : b < w.heap.size := (Array.getElem?_eq_some_iff.1 h).1
theorem Blk.cell {w : World} {b : Nat} {cur : Array Value} {t : TypeId} (h : Blk w b cur t) {o : Nat} {v : Value} (hv : cur[o]? = some v) : w.cell? ⟨b, o, none⟩ = some v := by
  unfold Blk at h; simp [World.cell?, h, hv]
theorem Blk.free {w : World} {b : Nat} {cur : Array Value} {t : TypeId} (h : Blk w b cur t) (o : Nat) : w.frozen? ⟨b, o, none⟩ = false := by
  unfold Blk at h; simp [World.frozen?, h]
theorem Blk.same {w : World} {b : Nat} {cur cur' : Array Value} {t t' : TypeId} (h : Blk w b cur t) (h' : Blk w b cur' t') : cur = cur' ∧ t = t' := by
  unfold Blk at h h'
  rw [h] at h'
  simp at h'
  exact h'
theorem Blk.ne {w : World} {b b' : Nat} {cur cur' : Array Value} {t t' : TypeId} (h : Blk w b cur t) (h' : Blk w b' cur' t') (hne : t ≠ t') : b ≠ b' := by
  rintro rfl
  exact hne (h.same h').2
theorem Blk.drewN {w : World} {b : Nat} {cur : Array Value} {t : TypeId} (h : Blk w b cur t) (m : Nat) : Blk (w.drewN m) b cur t := h
theorem Blk.drew {w : World} {b : Nat} {cur : Array Value} {t : TypeId} (h : Blk w b cur t) : Blk w.drew b cur t := h
theorem Blk.set {w : World} {b : Nat} {cur : Array Value} {t : TypeId} (h : Blk w b cur t) (o : Nat) (v : Value) : Blk (w.setCell ⟨b, o, none⟩ v) b (cur.setIfInBounds o v) t := by
  unfold Blk at h ⊢
  simp [World.setCell, Array.getElem?_modify, h]
theorem Blk.set_ne {w : World} {b : Nat} {cur : Array Value} {t : TypeId} (h : Blk w b cur t) {a : Addr} (hne : b ≠ a.block) (v : Value) : Blk (w.setCell a v) b cur t := by
  unfold Blk at h ⊢
  rw [Below.heap_setCell _ _ _ _ hne]; exact h
theorem Blk.alloc {w : World} {b : Nat} {cur : Array Value} {t : TypeId} (h : Blk w b cur t) (o : Obj) : Blk (w.alloc o) b cur t := by
  have hl := h.lt
  unfold Blk at h ⊢
  rw [Below.heap_alloc _ _ _ hl]; exact h
theorem Blk.new (w : World) (c : Array Value) (t : TypeId) : Blk (w.alloc (.cells c t)) w.heap.size c t := heap_alloc_new w _

/-- nothing that was there has turned, but for block b -/
structure But (b : Nat) (w w' : World) : Prop where
  os : w'.os = w.os
  tape : w'.tape = w.tape
  output : w'.output = w.output
  size : w.heap.size ≤ w'.heap.size
  block : ∀ k, k < w.heap.size → k ≠ b → w'.heap[k]? = w.heap[k]?
theorem But.refl (b : Nat) (w : World) : But b w w := ⟨rfl, rfl, rfl, Nat.le_refl _, fun _ _ _ => rfl⟩
theorem But.trans {b : Nat} {a c d : World} (h : But b a c) (k : But b c d) : But b a d :=
  ⟨k.os.trans h.os, k.tape.trans h.tape, k.output.trans h.output, Nat.le_trans h.size k.size, fun i hi hb => (k.block i (Nat.lt_of_lt_of_le hi h.size) hb).trans (h.block i hi hb)⟩
theorem But.drewN {b : Nat} {w w' : World} (h : But b w w') (m : Nat) : But b w (w'.drewN m) := ⟨h.os, h.tape, h.output, h.size, h.block⟩
theorem But.drew {b : Nat} {w w' : World} (h : But b w w') : But b w w'.drew := ⟨h.os, h.tape, h.output, h.size, h.block⟩
theorem But.alloc {b : Nat} {w w' : World} (h : But b w w') (o : Obj) : But b w (w'.alloc o) :=
  h.trans ⟨rfl, rfl, rfl, by simp, fun k hk _ => Below.heap_alloc _ _ _ hk⟩
theorem But.set {b : Nat} {w w' : World} (h : But b w w') {a : Addr} (ha : a.block = b ∨ w.heap.size ≤ a.block) (v : Value) : But b w (w'.setCell a v) :=
  ⟨h.os, h.tape, h.output, by simpa [World.setCell] using h.size, fun k hk hb => by rw [Below.heap_setCell _ _ _ _ (by omega)]; exact h.block k hk hb⟩
theorem But.blk {b : Nat} {w w' : World} (h : But b w w') {k : Nat} {cur : Array Value} {t : TypeId} (hk : Blk w k cur t) (hb : k ≠ b) : Blk w' k cur t :=
  (h.block k hk.lt hb).trans hk
theorem But.below {b B : Nat} {w w' : World} (h : But b w w') (hB : B ≤ b) (hs : B ≤ w.heap.size) : Below B w w' :=
  ⟨h.os, h.tape, h.output, h.size, fun k hk => h.block k (by omega) (by omega)⟩
theorem But.of_below {b B : Nat} {w w' : World} (h : Below B w w') (hB : w.heap.size ≤ B) : But b w w' :=
  ⟨h.os, h.tape, h.output, h.size, fun k hk _ => h.block k (by omega)⟩
theorem But.grown {b : Nat} {a w w' : World} {row : Option Nat} (h : But b a w) (hg : w.grownBy w' row) (hr : ∀ k, row = some k → a.heap.size ≤ k) : But b a w' :=
  ⟨hg.os.trans h.os, hg.tape.trans h.tape, hg.output.trans h.output, Nat.le_trans h.size hg.size, fun k hk hb =>
    (hg.block k (by have := h.size; omega) (fun e => by have := hr k e.symm; omega)).trans (h.block k hk hb)⟩

theorem tab_lt {w : World} (hT : Wave.Tab w) : 0 < w.heap.size := by
  obtain ⟨t, fr, h⟩ := hT
  exact (Array.getElem?_eq_some_iff.1 h).1
theorem tab_ne {w : World} (hT : Wave.Tab w) {b : Nat} {cur : Array Value} {t : TypeId} (h : Blk w b cur t) (hs : cur.size ≠ 5) : 0 ≠ b := by
  rintro rfl
  obtain ⟨t', fr, h'⟩ := hT
  unfold Blk at h
  rw [h] at h'
  simp at h'
  exact hs (by rw [h'.1]; rfl)
theorem But.tab {b : Nat} {w w' : World} (h : But b w w') (hT : Wave.Tab w) (hb : 0 ≠ b) : Wave.Tab w' := by
  obtain ⟨t, fr, h'⟩ := hT
  exact ⟨t, fr, (h.block _ (Array.getElem?_eq_some_iff.1 h').1 hb).trans h'⟩
theorem tab_below {B : Nat} {w w' : World} (h : Below B w w') (hB : w.heap.size ≤ B) (hT : Wave.Tab w) : Wave.Tab w' := by
  obtain ⟨t, fr, h'⟩ := hT
  exact ⟨t, fr, (h.block _ (by have := (Array.getElem?_eq_some_iff.1 h').1; omega)).trans h'⟩

/-- which function of the translation reckons the numbers of a kind -/
def fn (κ : Nat) : FuncId := if κ = 0 then 57 else if κ = 1 then 40 else 0

theorem number0 (n i : Int) (p : Nat) (w : World) (hT : Wave.Tab w) (hc : w.cell? ⟨p, 0, none⟩ = some (.int .i64 n)) (n0 : 1 ≤ n) (n1 : n ≤ 1024) (i0 : 0 ≤ i) (i1 : i ≤ 1024) :
    Calls Tryd.prog 57 #[.int .i64 i, .pointer (some ⟨p, 0, none⟩)] w fun e w' => e = .returned (.int .i16 (M.cosine i n)) ∧ ∃ m, w' = w.drewN m := by
  go_enter Tryd.func57, Tryd.ntmps57
  go_wp2_with (go_at_call 58; refine (cosine_b _ _ _ hT (by omega) (by omega) (by omega) (by omega)).mono ?_; rintro e w' ⟨rfl, m, rfl⟩)
  go_ret
  exact ⟨rfl, _, rfl⟩

theorem number1 (n i : Int) (p : Nat) (w : World) (hT : Wave.Tab w) (hc : w.cell? ⟨p, 0, none⟩ = some (.int .i64 n)) (n0 : 1 ≤ n) (n1 : n ≤ 1024) (i0 : 0 ≤ i) (i1 : i ≤ 1024) :
    Calls Tryd.prog 40 #[.int .i64 i, .pointer (some ⟨p, 0, none⟩)] w fun e w' => e = .returned (.int .i16 (M.sine (2 * i + 1) (8 * n))) ∧ ∃ m, w' = w.drewN m := by
  go_enter Tryd.func40, Tryd.ntmps40
  go_wp2_with (go_at_call 41; refine (sine_b _ _ _ hT (by omega) (by omega) (by omega) (by omega)).mono ?_; rintro e w' ⟨rfl, m, rfl⟩)
  go_ret
  exact ⟨rfl, _, rfl⟩

theorem number_any (κ n i p : Nat) (w : World) (hok : M.okT κ n) (hT : Wave.Tab w) (hc : w.cell? ⟨p, 0, none⟩ = some (.int .i64 n)) (hi : i < M.ts κ n) :
    Calls Tryd.prog (fn κ) #[.int .i64 (i : Int), .pointer (some ⟨p, 0, none⟩)] w fun e w' => e = .returned (.int .i16 (M.tv κ n i)) ∧ ∃ m, w' = w.drewN m := by
  have hb := M.ts_bd hok
  rcases hok with ⟨rfl, h⟩ | ⟨rfl, h⟩ | ⟨rfl, h⟩
  · have e : M.ts 0 n = n := rfl
    exact number0 n i p w hT hc (by omega) (by omega) (by omega) (by omega)
  · have e : M.ts 1 n = n := rfl
    first | (exfalso; omega) | exact number1 n i p w hT hc (by omega) (by omega) (by omega) (by omega)
  · have e : M.ts 2 n = 10 * n := rfl
    first | (exfalso; omega) | exact number2 n i p w hT hc (by omega) (by omega) (by omega)

end Bank
end Go.Proofs.YtjfhlaahgfdmnaaDoor
