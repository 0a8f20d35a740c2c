/-
  A list in a block of its own that is cut at its front and grows at its end; append onto it, at any place of its block. Conditions: as told at each.
-/
import Derived.Test.YtnnljamkomlglaaPcmMath
import Derived.Test.YtnnljamkomlglaaBlk
import Derived.Maps.AppendAt
namespace Go.Proofs.Ytnnljamkomlglaa
set_option linter.unusedVariables false
open Go.RowKit
namespace Pcm
open Bank (Blk But)
open Poly

/-- zs lies in block r (or is nil), and may be appended to -/
def Que (w : World) (r : Nat) (v : Value) (zs : List Int) : Prop := M.fits16 zs ∧ ((v = .slice none 0 0 ∧ zs = []) ∨ ∃ o cap cur, v = .slice (some ⟨r, o, none⟩) zs.length cap ∧ Blk w r cur 51 ∧ zs.length ≤ cap ∧ cap ≤ maxLen ∧ o + cap ≤ cur.size ∧ ∀ i, i < zs.length → cur[o + i]? = some (.int .i16 (zs.getD i 0)))
theorem Que.nil (w : World) (r : Nat) : Que w r (.slice none 0 0) [] := ⟨fun z hz => absurd hz (by simp), .inl ⟨rfl, rfl⟩⟩
theorem Que.form {w : World} {r : Nat} {v : Value} {zs : List Int} (h : Que w r v zs) : ∃ a c, v = .slice a zs.length c ∧ zs.length ≤ c := by
  rcases h.2 with ⟨rfl, rfl⟩ | ⟨o, cap, cur, rfl, _, hl, _⟩
  · exact ⟨none, 0, rfl, Nat.le_refl _⟩
  · exact ⟨_, cap, rfl, hl⟩
theorem Que.keep {w w' : World} {r : Nat} {v : Value} {zs : List Int} (h : Que w r v zs) (hk : r < w.heap.size → w'.heap[r]? = w.heap[r]?) : Que w' r v zs := by
  refine ⟨h.1, ?_⟩
  rcases h.2 with h | ⟨o, cap, cur, hv, hb, hx⟩
  · exact .inl h
  · exact .inr ⟨o, cap, cur, hv, (hk hb.lt).trans hb, hx⟩
theorem Que.but {w w' : World} {r b : Nat} {v : Value} {zs : List Int} (h : Que w r v zs) (hb : But b w w') (hr : r ≠ b) : Que w' r v zs := h.keep fun hl => hb.block r hl hr
theorem Que.but2 {w w' : World} {r b d : Nat} {v : Value} {zs : List Int} (h : Que w r v zs) (hb : Bits.But b d w w') (hr : r ≠ b) (hd : r ≠ d) : Que w' r v zs := h.keep fun hl => hb.block r hl hr hd
theorem Que.below {w w' : World} {r B : Nat} {v : Value} {zs : List Int} (h : Que w r v zs) (hb : Below B w w') (hB : w.heap.size ≤ B) : Que w' r v zs := h.keep fun hl => hb.block r (by omega)
theorem Que.drewN {w : World} {r : Nat} {v : Value} {zs : List Int} (h : Que w r v zs) (m : Nat) : Que (w.drewN m) r v zs := h
theorem Que.drew {w : World} {r : Nat} {v : Value} {zs : List Int} (h : Que w r v zs) : Que w.drew r v zs := h
theorem Que.alloc {w : World} {r : Nat} {v : Value} {zs : List Int} (h : Que w r v zs) (o : Obj) : Que (w.alloc o) r v zs := h.keep fun hl => Below.heap_alloc _ _ _ hl
theorem Que.set {w : World} {r : Nat} {v : Value} {zs : List Int} (h : Que w r v zs) {a : Addr} (hne : r ≠ a.block) (x : Value) : Que (w.setCell a x) r v zs := h.keep fun _ => Below.heap_setCell _ _ _ _ hne
theorem Que.reads {w : World} {r : Nat} {v : Value} {zs : List Int} (h : Que w r v zs) : Reads .i16 r (r + 1) w v zs := by
  rcases h.2 with ⟨rfl, rfl⟩ | ⟨o, cap, cur, rfl, hb, hl, _, _, hx⟩
  · exact ⟨none, 0, rfl, Nat.le_refl _, fit16.2 h.1, .inl rfl⟩
  · exact ⟨_, cap, rfl, hl, fit16.2 h.1, .inr ⟨r, o, rfl, Nat.le_refl _, Nat.lt_succ_self _, fun i hi => hb.cell (hx i hi)⟩⟩
theorem Que.ne {w : World} {r b : Nat} {v : Value} {zs : List Int} {cur : Array Value} {t : TypeId} (h : Que w r v zs) (hb : Blk w b cur t) (ht : t ≠ 51) : v = .slice none 0 0 ∨ r ≠ b := by
  rcases h.2 with ⟨rfl, _⟩ | ⟨o, cap, cur', rfl, hb', _⟩
  · exact .inl rfl
  · exact .inr (hb'.ne hb (Ne.symm ht))
/-- a whole block of samples -/
theorem Que.new {w : World} {g : Nat} {zs : List Int} (h : Blk w g (enc .i16 zs).toArray 51) (hz : M.fits16 zs) (hl : zs.length ≤ 1000000) : Que w g (.slice (some ⟨g, 0, none⟩) zs.length zs.length) zs :=
  ⟨hz, .inr ⟨0, zs.length, _, rfl, h, Nat.le_refl _, by unfold maxLen; omega, by simp [enc_length], fun i hi => by rw [Nat.zero_add, List.getElem?_toArray]; exact enc_get hi⟩⟩

/-- the part of a block in which a queue lies, behind a cut at its front -/
theorem Que.cut {w : World} {r l c : Nat} {a : Option Addr} {zs : List Int} (h : Que w r (.slice a l c) zs) (n : Nat) (hn : n ≤ zs.length) : Que w r (.slice (if c - n = 0 then a else a.map (·.add n)) (l - n) (c - n)) (zs.drop n) := by
  refine ⟨M.fits_drop h.1, ?_⟩
  rcases h.2 with ⟨he, rfl⟩ | ⟨o, cap, cur, hv, hb, hl, hm, hs, hx⟩
  · obtain ⟨rfl, rfl, rfl⟩ : a = none ∧ l = 0 ∧ c = 0 := by simpa using he
    left
    simp
  · cases hv
    right
    refine ⟨if c - n = 0 then o else o + n, c - n, cur, ?_, hb, by simp; omega, by omega, by split <;> omega, fun i hi => ?_⟩
    · split
      · simp
      · simp [add_off]
    · rw [List.length_drop] at hi
      rw [M.getD_drop]
      rw [if_neg (by omega), Nat.add_assoc]
      exact hx (n + i) (by omega)

theorem bytes16 : ∃ i0, Try.prog.info? 51 = some i0 ∧ i0.zero = some (.int .i16 0) ∧ i0.size = 1 ∧ i0.bytes = 2 := by
  obtain ⟨i0, hi, hz0, hz1, hz2⟩ := info_parts info16
  exact ⟨i0, hi, hz0, hz1, hz2⟩

theorem reads_news {lo hi : Nat} {w : World} {a : Option Addr} {l c : Nat} {xs : List Int} (h : Reads .i16 lo hi w (.slice a l c) xs) (hx : 0 < xs.length) : ∃ ad, a = some ad ∧ ∀ j u, (enc .i16 xs)[j]? = some u → w.cell? (ad.add j) = some u := by
  obtain ⟨b, off, rfl, _, _, hc⟩ := h.cell hx
  refine ⟨_, rfl, fun j u hu => ?_⟩
  have hj : j < xs.length := by have := (List.getElem?_eq_some_iff.1 hu).1; rwa [enc_length] at this
  rw [enc_get hj] at hu
  cases hu
  rw [add_off]
  exact hc j hj

/-- append onto a queue -/
theorem run_append_que (w : World) (ty : TypeId) (r : Nat) (v : Value) (zs : List Int) (h : Que w r v zs) (lo hi : Nat) (a : Option Addr) (l c : Nat) (xs : List Int) (hs : Reads .i16 lo hi w (.slice a l c) xs) (hb : zs.length + xs.length ≤ 1000000) :
    ∃ r' v' w', (Builtin.append_ #[22, 22] ty #[v, .slice a l c]).run Try.prog w = .ok v' w' ∧ Que w' r' v' (zs ++ xs) ∧ But r w w' ∧ (r' = r ∨ r' = w.heap.size) ∧ (v = .slice none 0 0 → r' = w.heap.size ∨ xs = []) ∧ w'.heap.size ≤ w.heap.size + 1 := by
  obtain ⟨i0, hi0, hz0, hz1, hz2⟩ := bytes16
  have hfit := M.fits_append h.1 (fit16.1 (show ∀ z ∈ xs, (Lit.int .i16 z).wf = true by obtain ⟨_, _, _, _, hw, _⟩ := hs; exact hw))
  obtain ⟨a', c', he, hlc, hw, _⟩ := id hs
  cases he
  have one : ∀ u ∈ enc .i16 xs, u.oneCell' = true := enc_one _ _
  have hen : (enc .i16 xs).length = xs.length * i0.size := by rw [enc_length, hz1, Nat.mul_one]
  have grown : ∀ cap, zs.length + xs.length ≤ cap → cap ≤ maxLen → ∀ w1 : World, Que (w1.alloc (.cells ((enc .i16 zs).toArray ++ (enc .i16 xs).toArray ++ Builtin.zeroCells (Value.int .i16 0).cells (cap - (zs.length + xs.length))) 51)) w1.heap.size (.slice (some ⟨w1.heap.size, 0, none⟩) (zs.length + xs.length) cap) (zs ++ xs) := by
    intro cap h1 h2 w1
    refine ⟨hfit, .inr ⟨0, cap, _, by rw [List.length_append], Blk.new _ _ _, by rw [List.length_append]; exact h1, h2, ?_, fun i hi => ?_⟩⟩
    · simp [enc_length, Builtin.zeroCells, Value.cells]; omega
    · rw [Nat.zero_add, Array.getElem?_append_left (by simp [enc_length] at hi ⊢; omega), List.append_toArray, List.getElem?_toArray]
      have e : enc .i16 zs ++ enc .i16 xs = enc .i16 (zs ++ xs) := by simp [enc]
      rw [e]
      exact enc_get hi
  rcases h.2 with ⟨rfl, rfl⟩ | ⟨o, cap, cur, rfl, hbk, hl, hm, hsz, hx⟩
  · rcases Nat.eq_zero_or_pos xs.length with h0 | h0
    · obtain rfl := List.length_eq_zero_iff.1 h0
      refine ⟨r, .slice none 0 0, w, ?_, Que.nil w r, But.refl _ _, .inl rfl, fun _ => .inr rfl, Nat.le_succ _⟩
      simp [Builtin.append_, run_underlying Try.underlying22, sizeOf, typeInfo, hi0, Builtin.lenOf, Builtin.firstCells]
      cases a <;> simp [loadCells, loadCellsFrom]
    · obtain ⟨ad, rfl, hn⟩ := reads_news hs h0
      have hr := run_append_nil (P := Try.prog) w 22 ty 51 i0 (.int .i16 0) Try.underlying22 hi0 hz0 ad xs.length c (enc .i16 xs) hen hn h0 (by omega) (by rw [hz2]; omega)
      have hg := grown (grownCap w xs.length 0 51) (by have := grownCap_ge w xs.length 0 51; simpa using this) (grownCap_le_maxLen w _ _ _ (by unfold maxLen; omega)) w.drew
      simp only [List.length_nil, Nat.zero_add, List.nil_append] at hg
      refine ⟨w.heap.size, _, _, hr, ?_, ⟨rfl, rfl, rfl, by simp, fun k hk _ => Below.heap_alloc w.drew _ k hk⟩, .inr rfl, fun _ => .inl rfl, by simp⟩
      have e : (enc .i16 ([] : List Int)).toArray ++ (enc .i16 xs).toArray = (enc .i16 xs).toArray := by simp [enc]
      rw [e] at hg
      exact hg
  · by_cases hroom : zs.length + xs.length ≤ cap
    · have hst := run_storeCells_at Try.prog r (o + zs.length) 51 (enc .i16 xs) 0 cur w hbk (by rw [enc_length]; omega) one
      simp only [Nat.add_zero] at hst
      have hf : (Builtin.firstCells 1 xs.length (.slice a xs.length c)).run Try.prog w = .ok (enc .i16 xs).toArray w := by
        rcases Nat.eq_zero_or_pos xs.length with h0 | h0
        · obtain rfl := List.length_eq_zero_iff.1 h0
          cases a <;> simp [Builtin.firstCells, loadCells, loadCellsFrom, enc]
        · obtain ⟨ad, rfl, hn⟩ := reads_news hs h0
          exact run_firstCells_some (P := Try.prog) w 1 xs.length ad xs.length c (enc .i16 xs) (by rw [enc_length, Nat.mul_one]) hn
      refine ⟨r, .slice (some ⟨r, o, none⟩) (zs.length + xs.length) cap, w.setRow r (cur.toList.take (o + zs.length) ++ enc .i16 xs ++ cur.toList.drop (o + zs.length + (enc .i16 xs).length)).toArray, ?_, ⟨hfit, .inr ⟨o, cap, _, by rw [List.length_append], setRow_heap w r cur _ 51 (0, 0) hbk, by rw [List.length_append]; exact hroom, hm, ?_, fun i hi => ?_⟩⟩, But.setRow (But.refl r w) _, .inl rfl, (fun h => by cases h), by simp⟩
      · simp [Builtin.append_, run_underlying Try.underlying22, sizeOf, typeInfo, hi0, hz1, Builtin.lenOf, hroom, hf, add_off, hst]
      · simp [enc_length]; omega
      · rw [List.getElem?_toArray]
        rw [List.length_append] at hi
        have lt : (cur.toList.take (o + zs.length)).length = o + zs.length := by simp; omega
        rw [List.append_assoc]
        rcases Nat.lt_or_ge i zs.length with h1 | h1
        · rw [List.getElem?_append_left (by rw [lt]; omega), List.getElem?_take_of_lt (by omega), Array.getElem?_toList, hx i h1, M.getD_append, if_pos h1]
        · rw [List.getElem?_append_right (by rw [lt]; omega), lt, List.getElem?_append_left (by rw [enc_length]; omega), show o + i - (o + zs.length) = i - zs.length by omega, enc_get (by omega), M.getD_append, if_neg (by omega)]
    · have h0 : 0 < xs.length := by omega
      obtain ⟨ad, rfl, hn⟩ := reads_news hs h0
      have hold : ∀ j u, (enc .i16 zs)[j]? = some u → w.cell? ((⟨r, o, none⟩ : Addr).add j) = some u := fun j u hu => by
        have hj : j < zs.length := by have := (List.getElem?_eq_some_iff.1 hu).1; rwa [enc_length] at this
        rw [enc_get hj] at hu
        cases hu
        rw [add_off]
        exact hbk.cell (hx j hj)
      have hr := run_append_grow (P := Try.prog) w 22 ty 51 i0 (.int .i16 0) Try.underlying22 hi0 hz0 ⟨r, o, none⟩ zs.length cap (enc .i16 zs) (by rw [enc_length, hz1, Nat.mul_one]) hold ad xs.length c (enc .i16 xs) hen hn (by omega) (by omega) (growslice_fits (by omega) (by rw [hz2]; omega))
      exact ⟨w.heap.size, _, _, hr, grown _ (grownCap_ge w _ cap _) (grownCap_le_maxLen w _ _ _ (by unfold maxLen; omega)) w.drew, ⟨rfl, rfl, rfl, by simp, fun k hk _ => Below.heap_alloc w.drew _ k hk⟩, .inr rfl, (fun h => by cases h), by simp⟩

/-- the same for the walk -/
theorem wpList_append_que {w : World} {ops : Array Oper} {rest : List Oper} {o : Oper} {a : Act} {Q : Exit → Act → World → Prop} (hgd : o.guard = none) (s x : Operand)
    (ho : o.op = .call { callee := .builtin .append, args := #[s, x], argTypes := #[22, 22] }) (r : Nat) (v : Value) (zs : List Int) (hv : a.eval s = v) (h : Que w r v zs) (lo hi : Nat) (ad : Option Addr) (l c : Nat) (xs : List Int) (hx : a.eval x = .slice ad l c) (hs : Reads .i16 lo hi w (.slice ad l c) xs) (hb : zs.length + xs.length ≤ 1000000)
    (k : ∀ r' v' w', Que w' r' v' (zs ++ xs) → But r w w' → (r' = r ∨ r' = w.heap.size) → (v = .slice none 0 0 → r' = w.heap.size ∨ xs = []) → w'.heap.size ≤ w.heap.size + 1 → wpList Try.prog ops Q rest (a.put o.dst v') w') : wpList Try.prog ops Q (o :: rest) a w := by
  refine wpList_plain hgd fun _ hK => ?_
  obtain ⟨r', v', w', hr, h1, h2, h3, h4, h5⟩ := run_append_que w o.type r v zs h lo hi ad l c xs hs hb
  unfold Oper.wp execOp
  simp only [ho, resolve, invoke, builtin, Sem.run_bind, Sem.run_pure, Result.andThen_ok, List.map_toArray, List.map_cons, List.map_nil, hv, hx, hr]
  exact hK _ _ (k r' v' w' h1 h2 h3 h4 h5)

/-- the same at a step of a region that draws its order -/
theorem step_append_que {w : World} {ops : Array Oper} {o : Oper} {a : Act} {K : Act → World → Prop} {Q : Exit → Act → World → Prop} {E : Prop} (hgd : o.guard = none) (s x : Operand)
    (ho : o.op = .call { callee := .builtin .append, args := #[s, x], argTypes := #[22, 22] }) (r : Nat) (v : Value) (zs : List Int) (hv : a.eval s = v) (h : Que w r v zs) (lo hi : Nat) (ad : Option Addr) (l c : Nat) (xs : List Int) (hx : a.eval x = .slice ad l c) (hs : Reads .i16 lo hi w (.slice ad l c) xs) (hb : zs.length + xs.length ≤ 1000000)
    (k : ∀ r' v' w', Que w' r' v' (zs ++ xs) → But r w w' → (r' = r ∨ r' = w.heap.size) → (v = .slice none 0 0 → r' = w.heap.size ∨ xs = []) → w'.heap.size ≤ w.heap.size + 1 → K (a.put o.dst v') w') :
    if Region.wanted o (yielded ops a.tmps) = true then Oper.wp Try.prog o a w K Q else E := by
  have hw : Region.wanted o (yielded ops a.tmps) = true := by simp [Region.wanted, hgd]
  rw [if_pos hw]
  obtain ⟨r', v', w', hr, h1, h2, h3, h4, h5⟩ := run_append_que w o.type r v zs h lo hi ad l c xs hs hb
  unfold Oper.wp execOp
  simp only [ho, resolve, invoke, builtin, Sem.run_bind, Sem.run_pure, Result.andThen_ok, List.map_toArray, List.map_cons, List.map_nil, hv, hx, hr]
  exact k r' v' w' h1 h2 h3 h4 h5

end Pcm
end Go.Proofs.Ytnnljamkomlglaa
