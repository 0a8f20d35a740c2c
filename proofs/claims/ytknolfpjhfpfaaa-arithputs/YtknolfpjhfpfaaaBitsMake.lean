/-
  How pads and eyes are made; what they tell. Contracts of bits.New, Open, Left, Used, Bit, Bytes, of an object and of nil. Conditions: as told at each.
-/
import Derived.Test.YtknolfpjhfpfaaaBitsEye
import Derived.OwnWalk
import Derived.Laws.OwnMore
import Derived.Lib.SliceRun
namespace Go.Proofs.Ytknolfpjhfpfaaa
set_option linter.unusedVariables false
open Go.RowKit
namespace Bits

theorem info8 : (Try.prog.info? 5).map (fun i => (i.zero, i.size, i.bytes)) = some (some (.int .u8 0), 1, 1) := by kernel_rfl

theorem made_u8 (w : World) (n : Nat) (hn : n ≤ 512) :
    ∃ cs : Array Value, (∀ i, i < n → cs[i]? = some (.int .u8 0)) ∧ (Instr.makeSlice 41 (.int .i64 n) (.int .i64 n)).run Try.prog w = .ok (.slice (some ⟨w.heap.size, 0, none⟩) n n) (w.alloc (.cells cs 5)) := by
  obtain ⟨i0, hi, hz0, hz1, hz2⟩ := info_parts info8
  have := run_make (P := Try.prog) w 41 5 i0 (.int .u8 0) Try.underlying41 hi hz0 .i64 .i64 n n (by omega) (by omega) (by rw [hz2]; omega) (by omega)
  refine ⟨_, ?_, by simpa using this⟩
  rw [hz1]
  intro i hi
  have hl : (madeCells #[Value.int .u8 0] n).toList[i]? = some (.int .u8 0) := by rw [toList_madeCells_one]; simp [hi]
  simpa [Value.cells] using hl

theorem ends_any (b : Nat) (w : World) :
    Calls Try.prog 38 #[.pointer (some ⟨b, 0, none⟩)] w fun e w' => e = .returned (.tuple #[.func (.func 47) #[] #[.pointer (some ⟨w.heap.size, 0, none⟩)], .func (.func 48) #[] #[.pointer (some ⟨w.heap.size, 0, none⟩)]]) ∧ w' = w.alloc (.cells #[.pointer (some ⟨b, 0, none⟩)] 75) := by
  go_enter Try.func38, Try.ntmps38
  go_wp2
  go_ret2
  exact ⟨rfl, rfl⟩

theorem Data.alloc {w : World} {s : Value} {d n : Nat} {B : Nat → Bool} (h : Data w s d n B) (o : Obj) : Data (w.alloc o) s d n B := by
  obtain ⟨a, cap, hs, hd, hnil⟩ := h
  refine ⟨a, cap, hs, fun hn => ?_, hnil⟩
  obtain ⟨ha, cur, hb, hc⟩ := hd hn
  exact ⟨ha, cur, hb.alloc _, hc⟩

/-- an object that the call makes -/
theorem own_new (ty : TypeId) (W : World) (s : Value) (d n H : Nat) (B : Nat → Bool) (hD : Data W s d n B) (hH : W.heap.size = H) :
    Own ty (((W.alloc (.cells #[s, .int .i64 0, .int .i64 0] 77)).alloc (.cells #[.pointer (some ⟨H, 0, none⟩)] 75)).alloc (.cells #[.pointer (some ⟨H, 0, none⟩), .func (.func 47) #[] #[.pointer (some ⟨H + 1, 0, none⟩)], .func (.func 48) #[] #[.pointer (some ⟨H + 1, 0, none⟩)]] ty)) (H + 1 + 1) H (H + 1) d n B 0 0 := by
  subst hH
  have q1 := Blk.new W #[s, .int .i64 0, .int .i64 0] 77
  have q2 := Blk.new (W.alloc (.cells #[s, .int .i64 0, .int .i64 0] 77)) #[.pointer (some ⟨W.heap.size, 0, none⟩)] 75
  have q3 := Blk.new ((W.alloc (.cells #[s, .int .i64 0, .int .i64 0] 77)).alloc (.cells #[.pointer (some ⟨W.heap.size, 0, none⟩)] 75)) #[.pointer (some ⟨W.heap.size, 0, none⟩), .func (.func 47) #[] #[.pointer (some ⟨W.heap.size + 1, 0, none⟩)], .func (.func 48) #[] #[.pointer (some ⟨W.heap.size + 1, 0, none⟩)]] ty
  simp only [World.size_alloc] at q2 q3
  exact ⟨q3, q2.alloc _, s, (q1.alloc _).alloc _, ((hD.alloc _).alloc _).alloc _⟩

theorem byte0 (i : Nat) : M.byteOf (fun _ => false) i = 0 := rfl

/-- bytes in memory that are only read -/
def Src (w : World) (v : Value) (xs : List Nat) : Prop :=
  (v = .slice none 0 0 ∧ xs = []) ∨ ∃ a cap, v = .slice (some a) xs.length cap ∧ ∀ (i x : Nat), xs[i]? = some x → w.cell? (a.add i) = some (.int .u8 (x : Int))

/-- the bits of bytes -/
def bitsL (xs : List Nat) : Nat → Bool := M.bitsOf fun i => xs.getD i 0

theorem Data.src {w : World} {s : Value} {d n : Nat} {B : Nat → Bool} (h : Data w s d n B) : Src w s ((List.range n).map (M.byteOf B)) := by
  obtain ⟨a, cap, rfl, hd, hnil⟩ := h
  rcases Nat.eq_zero_or_pos n with h0 | h0
  · subst h0
    cases a with
    | none => rw [(hnil rfl).2]; exact .inl ⟨rfl, rfl⟩
    | some a => exact .inr ⟨a, cap, rfl, fun i x hx => by simp at hx⟩
  obtain ⟨rfl, cur, hb, hc⟩ := hd h0
  refine .inr ⟨⟨d, 0, none⟩, cap, by simp, fun i x hx => ?_⟩
  obtain ⟨i', hi', he⟩ : ∃ i', (List.range n)[i]? = some i' ∧ M.byteOf B i' = x := by simpa using hx
  have hlt : i < n := by have := (List.getElem?_eq_some_iff.1 hi').1; simpa using this
  obtain rfl : i = i' := by rw [List.getElem?_range hlt] at hi'; exact Option.some.inj hi'
  subst he
  rw [add_at]
  exact hb.cell (hc i hlt)

set_option maxRecDepth 100000 in
theorem clone_src (v : Value) (xs : List Nat) (w : World) (hs : Src w v xs) (hn : xs.length ≤ 65536) :
    Calls Try.prog 37 #[v] w fun e w' => ∃ a' cap', e = .returned (.slice a' xs.length cap') ∧ w'.ownsRow w.heap.size 5 1 (.slice a' xs.length cap') xs.length (xs.map fun x : Nat => Value.int .u8 x) ∧ Below w.heap.size w w' := by
  obtain ⟨i0, hi, hz0, hz1, hz2⟩ := info_parts info8
  have hnil : ∀ (a : Option Addr) (k c : Nat) (w : World), (binOp .eql 41 (.slice a k c) (.slice none 0 0)).run Try.prog w = .ok (.bool a.isNone) w := fun a k c w => Lib.run_eql_slice_nil w _ _ a k c 0 0 Try.underlying41
  rcases hs with ⟨rfl, rfl⟩ | ⟨a, cap, rfl, hc⟩
  · go_enter Try.func37, Try.ntmps37
    go_wp2
    go_ret
    exact ⟨_, _, rfl, ⟨rfl, .inl ⟨rfl, rfl⟩⟩, Below.refl _ _⟩
  · have hown := World.ownsRow_made (base := w.heap.size) (e := 5) (size := 1) w #[] 0 (Nat.le_refl _) (by decide) rfl
    have hcl : ∀ j u, (xs.map fun x : Nat => Value.int .u8 x)[j]? = some u → (w.alloc (.cells #[] 5)).cell? (a.add j) = some u := fun j u hu => by
      obtain ⟨x, hx, rfl⟩ : ∃ x, xs[j]? = some x ∧ Value.int .u8 x = u := by simpa using hu
      have h1 := hc j x hx
      have hlt : (a.add j).block < w.heap.size := by
        rcases Nat.lt_or_ge (a.add j).block w.heap.size with h | h
        · exact h
        · simp [World.cell?, Array.getElem?_eq_none h] at h1
      simpa [World.cell?, Below.heap_alloc _ _ _ hlt] using h1
    have h1 : ∀ u ∈ (xs.map fun x : Nat => Value.int .u8 x), u.oneCell' = true := fun u hu => by
      obtain ⟨x, _, rfl⟩ := List.mem_map.1 hu; rfl
    go_enter Try.func37, Try.ntmps37
    go_wp2_with (at_builtin; refine wpList_append_own _ rfl (.tmp 5) (.tmp 6) 41 rfl w.heap.size 5 i0 (.int .u8 0) 1 1 Try.underlying41 hi hz0 hz1 hz2 rfl (by decide) _ _ _ rfl hown a xs.length cap (xs.map fun x : Nat => Value.int .u8 x) rfl (by simp) hcl h1 (by unfold maxLen; omega) (by omega) (by simp) ?_; intro v' w1 hown' hgrow _)
    go_ret
    obtain ⟨a', cap', rfl⟩ : ∃ a' cap', v' = .slice a' xs.length cap' := by
      obtain ⟨_, ⟨rfl, h0⟩ | ⟨g, cap', cur, rfl, _⟩⟩ := hown'
      · exact ⟨none, 0, by rw [show xs.length = 0 by omega]⟩
      · exact ⟨some ⟨g, 0, none⟩, cap', by simp⟩
    exact ⟨a', cap', rfl, by simpa using hown', (((Below.refl w.heap.size w).alloc (Nat.le_refl _) _).grown hgrow (by simp) (fun k hk => by cases hk; exact Nat.le_refl _))⟩

theorem owns_data {w : World} {base : Nat} {v : Value} {xs : List Nat} {B : Nat → Bool} (h : w.ownsRow base 5 1 v xs.length (xs.map fun x : Nat => Value.int .u8 x)) (hb : ∀ i, i < xs.length → xs.getD i 0 = M.byteOf B i) (hB : base < w.heap.size) :
    ∃ d, base ≤ d ∧ d < w.heap.size ∧ Data w v d xs.length B := by
  obtain ⟨_, h | ⟨g, cap, cur, rfl, hg, hh, h1, h2, h3, h4⟩⟩ := h
  · obtain ⟨rfl, hx⟩ := h
    exact ⟨base, Nat.le_refl _, hB, none, 0, by rw [hx], fun h => by omega, fun _ => ⟨hx, rfl⟩⟩
  · refine ⟨g, hg, (Array.getElem?_eq_some_iff.1 hh).1, _, cap, rfl, fun _ => ⟨rfl, cur, hh, fun i hi => ?_⟩, fun h => by cases h⟩
    rw [← hb i hi]
    have : (cur.toList.take (xs.length * 1))[i]? = (xs.map fun x : Nat => Value.int .u8 x)[i]? := by rw [h4]
    rw [List.getElem?_take_of_lt (by omega), Array.getElem?_toList] at this
    rw [this]
    simp [List.getD, List.getElem?_eq_getElem hi]

end Bits
end Go.Proofs.Ytknolfpjhfpfaaa
