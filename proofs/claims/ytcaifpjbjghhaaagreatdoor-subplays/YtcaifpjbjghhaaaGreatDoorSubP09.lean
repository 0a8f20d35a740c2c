import Derived.OwnWalk
import Derived.Laws.OwnMore
import Derived.Lib.SliceRun
import Derived.Test.YtcaifpjbjghhaaaGreatDoorSubP06
/-
  How pads and eyes are made; what they tell. Contracts of bits.New, Open, Left, Used, Bit, Bytes, of an object and of nil. Conditions: as told at each.
-/
namespace Go.Proofs.YtcaifpjbjghhaaaGreatDoor
set_option linter.unusedVariables false
open Go.RowKit
namespace Bits

theorem info8 : (Tryz.prog.info? 5).map (fun i => (i.zero, i.size, i.bytes)) = some (some (.int .u8 0), 1, 1) := by kernel_rfl

theorem made_u8 (w : World) (n : Nat) (hn : n ≤ 512) :
    ∃ cs : Array Value, (∀ i, i < n → cs[i]? = some (.int .u8 0)) ∧ (Instr.makeSlice 47 (.int .i64 n) (.int .i64 n)).run Tryz.prog w = .ok (.slice (some ⟨w.heap.size, 0, none⟩) n n) (w.alloc (.cells cs 5)) := by
  obtain ⟨i0, hi, hz0, hz1, hz2⟩ := info_parts info8
  have := run_make (P := Tryz.prog) w 47 5 i0 (.int .u8 0) Tryz.underlying47 hi hz0 .i64 .i64 n n (by omega) (by omega) (by rw [hz2]; omega) (by omega)
  refine ⟨_, ?_, by simpa using this⟩
  rw [hz1]
  intro i hi
  have hl : (madeCells #[Value.int .u8 0] n).toList[i]? = some (.int .u8 0) := by rw [toList_madeCells_one]; simp [hi]
  simpa [Value.cells] using hl

theorem ends_any (b : Nat) (w : World) :
    Calls Tryz.prog 128 #[.pointer (some ⟨b, 0, none⟩)] w fun e w' => e = .returned (.tuple #[.func (.func 171) #[] #[.pointer (some ⟨w.heap.size, 0, none⟩)], .func (.func 172) #[] #[.pointer (some ⟨w.heap.size, 0, none⟩)]]) ∧ w' = w.alloc (.cells #[.pointer (some ⟨b, 0, none⟩)] 210) := by
  go_enter Tryz.func128, Tryz.ntmps128
  go_wp2
  go_ret2
  exact ⟨rfl, rfl⟩

theorem Data.alloc {w : World} {s : Value} {d n : Nat} {B : Nat → Bool} (h : Data w s d n B) (o : Obj) : Data (w.alloc o) s d n B := by
  obtain ⟨a, cap, hs, hd, hnil⟩ := h
  refine ⟨a, cap, hs, fun hn => ?_, hnil⟩
  obtain ⟨ha, cur, hb, hc⟩ := hd hn
  exact ⟨ha, cur, hb.alloc _, hc⟩

theorem own_new (ty : TypeId) (W : World) (s : Value) (d n H : Nat) (B : Nat → Bool) (hD : Data W s d n B) (hH : W.heap.size = H) :
    Own ty (((W.alloc (.cells #[s, .int .i64 0, .int .i64 0] 212)).alloc (.cells #[.pointer (some ⟨H, 0, none⟩)] 210)).alloc (.cells #[.pointer (some ⟨H, 0, none⟩), .func (.func 171) #[] #[.pointer (some ⟨H + 1, 0, none⟩)], .func (.func 172) #[] #[.pointer (some ⟨H + 1, 0, none⟩)]] ty)) (H + 1 + 1) H (H + 1) d n B 0 0 := by
  subst hH
  have q1 := Blk.new W #[s, .int .i64 0, .int .i64 0] 212
  have q2 := Blk.new (W.alloc (.cells #[s, .int .i64 0, .int .i64 0] 212)) #[.pointer (some ⟨W.heap.size, 0, none⟩)] 210
  have q3 := Blk.new ((W.alloc (.cells #[s, .int .i64 0, .int .i64 0] 212)).alloc (.cells #[.pointer (some ⟨W.heap.size, 0, none⟩)] 210)) #[.pointer (some ⟨W.heap.size, 0, none⟩), .func (.func 171) #[] #[.pointer (some ⟨W.heap.size + 1, 0, none⟩)], .func (.func 172) #[] #[.pointer (some ⟨W.heap.size + 1, 0, none⟩)]] ty
  simp only [World.size_alloc] at q2 q3
  exact ⟨q3, q2.alloc _, s, (q1.alloc _).alloc _, ((hD.alloc _).alloc _).alloc _⟩

theorem byte0 (i : Nat) : M.byteOf (fun _ => false) i = 0 := rfl

set_option maxRecDepth 100000 in
theorem New_ok (n : Nat) (w : World) (hn : n ≤ 512) :
    Calls Tryz.prog 68 #[.int .i64 n] w fun e w' => ∃ p b c d, e = .returned (.tuple #[.pointer (some ⟨p, 0, none⟩), .int .i64 0]) ∧ w.heap.size ≤ p ∧ w.heap.size ≤ b ∧ w.heap.size ≤ c ∧ w.heap.size ≤ d ∧
      p < w'.heap.size ∧ b < w'.heap.size ∧ c < w'.heap.size ∧ d < w'.heap.size ∧ Below w.heap.size w w' ∧ Own 217 w' p b c d n (fun _ => false) 0 0 := by
  obtain ⟨cs, hcs, hmk⟩ := made_u8 w n hn
  have i1 : ¬ (n : Int) < 0 := by omega
  have i2 : ¬ (512 : Int) < n := by omega
  go_enter Tryz.func68, Tryz.ntmps68
  go_wp2_with (go_at_call 128; refine (ends_any _ _).mono ?_; rintro e w' ⟨rfl, rfl⟩)
  go_ret2
  have hD : Data (w.alloc (.cells cs 5)) (.slice (some ⟨w.heap.size, 0, none⟩) n n) w.heap.size n (fun _ => false) :=
    ⟨_, n, rfl, fun _ => ⟨rfl, cs, Blk.new w cs _, fun i hi => by rw [byte0]; exact hcs i hi⟩, fun h => by cases h⟩
  refine ⟨_, _, _, _, rfl, ?_, ?_, ?_, ?_, ?_, ?_, ?_, ?_, ?_, own_new _ _ _ _ _ _ _ hD (by simp)⟩
  case refine_9 => exact ((((Below.refl _ w).alloc (Nat.le_refl _) _).alloc (by simp) _).alloc (by simp; omega) _).alloc (by simp; omega) _
  all_goals first | omega | (simp; done) | (simp; omega)

def Src (w : World) (v : Value) (xs : List Nat) : Prop :=
  (v = .slice none 0 0 ∧ xs = []) ∨ ∃ a cap, v = .slice (some a) xs.length cap ∧ ∀ (i x : Nat), xs[i]? = some x → w.cell? (a.add i) = some (.int .u8 (x : Int))

def bitsL (xs : List Nat) : Nat → Bool := M.bitsOf fun i => xs.getD i 0

theorem Data.src {w : World} {s : Value} {d n : Nat} {B : Nat → Bool} (h : Data w s d n B) : Src w s ((List.range n).map (M.byteOf B)) := by
  obtain ⟨a, cap, rfl, hd, hnil⟩ := h
  rcases Nat.eq_zero_or_pos n with h0 | h0
  · subst h0
    cases a with
    | none => rw [(hnil rfl).2]; exact .inl ⟨rfl, rfl⟩
    | some a => exact .inr ⟨a, cap, rfl, fun i x hx => by simp at hx⟩
  obtain ⟨rfl, cur, hb, hc⟩ := hd h0
  refine .inr ⟨⟨d, 0, none⟩, cap, by simp, fun i x hx => ?_⟩
  obtain ⟨i', hi', he⟩ : ∃ i', (List.range n)[i]? = some i' ∧ M.byteOf B i' = x := by simpa using hx
  have hlt : i < n := by have := (List.getElem?_eq_some_iff.1 hi').1; simpa using this
  obtain rfl : i = i' := by rw [List.getElem?_range hlt] at hi'; exact Option.some.inj hi'
  subst he
  rw [add_at]
  exact hb.cell (hc i hlt)

set_option maxRecDepth 100000 in
theorem clone_src (v : Value) (xs : List Nat) (w : World) (hs : Src w v xs) (hn : xs.length ≤ 65536) :
    Calls Tryz.prog 134 #[v] w fun e w' => ∃ a' cap', e = .returned (.slice a' xs.length cap') ∧ w'.ownsRow w.heap.size 5 1 (.slice a' xs.length cap') xs.length (xs.map fun x : Nat => Value.int .u8 x) ∧ Below w.heap.size w w' := by
  obtain ⟨i0, hi, hz0, hz1, hz2⟩ := info_parts info8
  have hnil : ∀ (a : Option Addr) (k c : Nat) (w : World), (binOp .eql 47 (.slice a k c) (.slice none 0 0)).run Tryz.prog w = .ok (.bool a.isNone) w := fun a k c w => Lib.run_eql_slice_nil w _ _ a k c 0 0 Tryz.underlying47
  rcases hs with ⟨rfl, rfl⟩ | ⟨a, cap, rfl, hc⟩
  · go_enter Tryz.func134, Tryz.ntmps134
    go_wp2
    go_ret
    exact ⟨_, _, rfl, ⟨rfl, .inl ⟨rfl, rfl⟩⟩, Below.refl _ _⟩
  · have hown := World.ownsRow_made (base := w.heap.size) (e := 5) (size := 1) w #[] 0 (Nat.le_refl _) (by decide) rfl
    have hcl : ∀ j u, (xs.map fun x : Nat => Value.int .u8 x)[j]? = some u → (w.alloc (.cells #[] 5)).cell? (a.add j) = some u := fun j u hu => by
      obtain ⟨x, hx, rfl⟩ : ∃ x, xs[j]? = some x ∧ Value.int .u8 x = u := by simpa using hu
      have h1 := hc j x hx
      have hlt : (a.add j).block < w.heap.size := by
        rcases Nat.lt_or_ge (a.add j).block w.heap.size with h | h
        · exact h
        · simp [World.cell?, Array.getElem?_eq_none h] at h1
      simpa [World.cell?, Below.heap_alloc _ _ _ hlt] using h1
    have h1 : ∀ u ∈ (xs.map fun x : Nat => Value.int .u8 x), u.oneCell' = true := fun u hu => by
      obtain ⟨x, _, rfl⟩ := List.mem_map.1 hu; rfl
    go_enter Tryz.func134, Tryz.ntmps134
    go_wp2_with (at_builtin; refine wpList_append_own _ rfl (.tmp 5) (.tmp 6) 47 rfl w.heap.size 5 i0 (.int .u8 0) 1 1 Tryz.underlying47 hi hz0 hz1 hz2 rfl (by decide) _ _ _ rfl hown a xs.length cap (xs.map fun x : Nat => Value.int .u8 x) rfl (by simp) hcl h1 (by unfold maxLen; omega) (by omega) (by simp) ?_; intro v' w1 hown' hgrow _)
    go_ret
    obtain ⟨a', cap', rfl⟩ : ∃ a' cap', v' = .slice a' xs.length cap' := by
      obtain ⟨_, ⟨rfl, h0⟩ | ⟨g, cap', cur, rfl, _⟩⟩ := hown'
      · exact ⟨none, 0, by rw [show xs.length = 0 by omega]⟩
      · exact ⟨some ⟨g, 0, none⟩, cap', by simp⟩
    exact ⟨a', cap', rfl, by simpa using hown', (((Below.refl w.heap.size w).alloc (Nat.le_refl _) _).grown hgrow (by simp) (fun k hk => by cases hk; exact Nat.le_refl _))⟩

theorem owns_data {w : World} {base : Nat} {v : Value} {xs : List Nat} {B : Nat → Bool} (h : w.ownsRow base 5 1 v xs.length (xs.map fun x : Nat => Value.int .u8 x)) (hb : ∀ i, i < xs.length → xs.getD i 0 = M.byteOf B i) (hB : base < w.heap.size) :
    ∃ d, base ≤ d ∧ d < w.heap.size ∧ Data w v d xs.length B := by
  obtain ⟨_, h | ⟨g, cap, cur, rfl, hg, hh, h1, h2, h3, h4⟩⟩ := h
  · obtain ⟨rfl, hx⟩ := h
    exact ⟨base, Nat.le_refl _, hB, none, 0, by rw [hx], fun h => by omega, fun _ => ⟨hx, rfl⟩⟩
  · refine ⟨g, hg, (Array.getElem?_eq_some_iff.1 hh).1, _, cap, rfl, fun _ => ⟨rfl, cur, hh, fun i hi => ?_⟩, fun h => by cases h⟩
    rw [← hb i hi]
    have : (cur.toList.take (xs.length * 1))[i]? = (xs.map fun x : Nat => Value.int .u8 x)[i]? := by rw [h4]
    rw [List.getElem?_take_of_lt (by omega), Array.getElem?_toList] at this
    rw [this]
    simp [List.getD, List.getElem?_eq_getElem hi]

end Bits
end Go.Proofs.YtcaifpjbjghhaaaGreatDoor

/-
  What pads and eyes tell: contracts of bits.Open, Left, Used, Bit, Bytes, of an object and of nil. Conditions: as told at each.
-/
namespace Go.Proofs.YtcaifpjbjghhaaaGreatDoor
set_option linter.unusedVariables false
open Go.RowKit
namespace Bits

set_option maxRecDepth 100000 in
theorem Open_ok (v : Value) (xs : List Nat) (B : Nat → Bool) (w : World) (hs : Src w v xs) (hn : xs.length ≤ 512) (hB : ∀ i, i < xs.length → xs.getD i 0 = M.byteOf B i) :
    Calls Tryz.prog 74 #[v] w fun e w' => ∃ p b c d, e = .returned (.tuple #[.pointer (some ⟨p, 0, none⟩), .int .i64 0]) ∧ w.heap.size ≤ p ∧ w.heap.size ≤ b ∧ w.heap.size ≤ c ∧ w.heap.size ≤ d ∧
      p < w'.heap.size ∧ b < w'.heap.size ∧ c < w'.heap.size ∧ d < w'.heap.size ∧ Below w.heap.size w w' ∧ Own 228 w' p b c d xs.length B 0 0 := by
  have hcl := clone_src v xs w hs (by omega)
  obtain ⟨a, cap, rfl⟩ : ∃ a cap, v = .slice a xs.length cap := by
    rcases hs with ⟨rfl, rfl⟩ | ⟨a, cap, rfl, _⟩
    · exact ⟨none, 0, rfl⟩
    · exact ⟨some a, cap, rfl⟩
  have i2 : ¬ (512 : Int) < xs.length := by omega
  go_enter Tryz.func74, Tryz.ntmps74
  go_wp2_with (first
    | (go_at_call 134; refine hcl.mono ?_; rintro e w1 ⟨a', cap', rfl, hown, hbel⟩)
    | (go_at_call 128; refine (ends_any _ _).mono ?_; rintro e w' ⟨rfl, rfl⟩))
  go_ret2
  have hsz := hbel.size
  obtain ⟨d, hd, hD⟩ : ∃ d, w.heap.size ≤ d ∧ d < w1.heap.size + 1 ∧ Data w1 (.slice a' xs.length cap') d xs.length B := by
    rcases Nat.lt_or_ge w.heap.size w1.heap.size with h | h
    · obtain ⟨d, h1, h2, h3⟩ := owns_data hown hB h
      exact ⟨d, h1, by omega, h3⟩
    · obtain ⟨_, h' | ⟨g, cap, cur, he, hg, hh, _⟩⟩ := hown
      · obtain ⟨he, hx⟩ := h'
        rw [he]
        exact ⟨w.heap.size, Nat.le_refl _, by omega, none, 0, by rw [hx], fun h => by omega, fun _ => ⟨hx, rfl⟩⟩
      · have := (Array.getElem?_eq_some_iff.1 hh).1; omega
  refine ⟨_, _, _, d, rfl, ?_, ?_, ?_, ?_, ?_, ?_, ?_, ?_, ?_, own_new _ _ _ _ _ _ _ hD.2 rfl⟩
  case refine_9 => exact ((hbel.alloc (by omega) _).alloc (by simp; omega) _).alloc (by simp; omega) _
  all_goals first | omega | (simp; done) | (simp; omega)

def bytesL (n : Nat) (B : Nat → Bool) : List Nat := (List.range n).map (M.byteOf B)
theorem bytesL_length (n : Nat) (B : Nat → Bool) : (bytesL n B).length = n := by simp [bytesL]
theorem bytesL_getD {n : Nat} (B : Nat → Bool) {i : Nat} (h : i < n) : (bytesL n B).getD i 0 = M.byteOf B i := by simp [bytesL, List.getD, h]

set_option maxRecDepth 100000 in
theorem BytesP (p b c d n h t : Nat) (B : Nat → Bool) (w : World) (ho : Own 217 w p b c d n B h t) (hn : n ≤ 512) :
    Calls Tryz.prog 72 #[.pointer (some ⟨p, 0, none⟩)] w fun e w' => ∃ a' cap', e = .returned (.slice a' n cap') ∧ w'.ownsRow w.heap.size 5 1 (.slice a' n cap') n ((bytesL n B).map fun x : Nat => Value.int .u8 x) ∧ Below w.heap.size w w' := by
  obtain ⟨h1, h2, s, h3, hD⟩ := ho
  have c0 : w.cell? ⟨p, 0, none⟩ = some (.pointer (some ⟨b, 0, none⟩)) := h1.cell rfl
  have hcl := clone_src s (bytesL n B) w hD.src (by rw [bytesL_length]; omega)
  rw [bytesL_length] at hcl
  obtain ⟨a, cap, rfl, _⟩ := hD
  have c1 : w.cell? ⟨b, 0, none⟩ = some (.slice a n cap) := h3.cell rfl
  go_enter Tryz.func72, Tryz.ntmps72
  go_wp2_with (go_at_call 134; refine hcl.mono ?_; rintro e w1 ⟨a', cap', rfl, hown, hbel⟩)
  go_ret
  exact ⟨a', cap', rfl, hown, hbel⟩

end Bits
end Go.Proofs.YtcaifpjbjghhaaaGreatDoor

