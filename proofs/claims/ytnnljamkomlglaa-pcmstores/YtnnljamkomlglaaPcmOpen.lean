/-
  Arguments opened: lists of lists of samples, with the form's own reach; lists of calls. Plain facts, no walk; no function of the program is in it.
-/
import Derived.Test.YtnnljamkomlglaaLists
import Derived.Deep.Slices
import Derived.SizedLaws
namespace Go.Proofs.Ytnnljamkomlglaa
set_option linter.unusedVariables false
open Go.RowKit
namespace Pcm
open Poly

theorem open16_any {H : Type} {enc' : TypeId × Value → H} {w : World} {base : Nat} {spare : Nat → Bool} {held : Bool} {fuel : Nat} {v : Value} {x : DataW H × List MemPlace}
    (h : DataW.trod enc' Try.prog w base spare held fuel 22 [v] = some x) : ∃ xs, Reads .i16 0 w.heap.size w v xs ∧ (xs = [] ∨ ∃ es sp, x.1 = .slice es sp ∧ es.length = xs.length) := by
  rcases Go.ChangeShapes.open_ints Try.underlying22 Try.underlying51 (by kernel_rfl) h with ⟨hcs, _⟩ | ⟨a', len', cap', zs, hcs, hb, hl, hm, hzl, hx, _, _⟩
  · obtain rfl := List.singleton_inj.1 hcs
    obtain ⟨xs, hr⟩ := open16 h
    refine ⟨xs, hr, .inl ?_⟩
    obtain ⟨a, c, he, _⟩ := hr
    simp at he
    exact List.length_eq_zero_iff.1 he.2.1.symm
  · obtain rfl := List.singleton_inj.1 hcs
    obtain ⟨xs, hr⟩ := open16 h
    refine ⟨xs, hr, .inr ⟨_, _, by rw [hx], ?_⟩⟩
    obtain ⟨a, c, he, _⟩ := hr
    simp at he
    have hlm : len' ≤ zs.length := by rw [hzl]; split <;> omega
    simp [Go.ChangeShapes.lits]
    omega

theorem open_rows {H : Type} {enc' : TypeId × Value → H} {w : World} {base : Nat} {spare : Nat → Bool} {held : Bool} {fuel : Nat} {a : Option Addr} {len cap : Nat} {x : DataW H × List MemPlace}
    (h : DataW.trod enc' Try.prog w base spare held fuel 24 [.slice a len cap] = some x) : ∃ zss, Poly.Rows .i16 0 w.heap.size w (.slice a len cap) zss ∧ ∀ k, k < zss.length → zss.getD k [] = [] ∨ ∃ els spa es sp, x.1 = .slice els spa ∧ DataW.slice es sp ∈ els ∧ es.length = (zss.getD k []).length := by
  rcases Deep.open_slice1 Try.underlying24 (by kernel_rfl) h with ⟨hcs, _⟩ | ⟨a', len', cap', m, n, V, D, Pl, hcs, hb, hl, hm, hmm, hx, hV⟩
  · simp at hcs
    obtain ⟨rfl, rfl, rfl⟩ := hcs
    exact ⟨[], ⟨none, _, rfl, Nat.zero_le _, .inl rfl⟩, fun k hk => absurd hk (by simp)⟩
  · simp at hcs
    obtain ⟨rfl, rfl, rfl⟩ := hcs
    have hlm : len ≤ m := by rw [hmm]; split <;> omega
    have each : ∀ i, i < len → ∃ xs, w.cell? (a'.add i) = some (V i) ∧ Reads .i16 0 w.heap.size w (V i) xs ∧ (xs = [] ∨ ∃ es sp, D i = .slice es sp ∧ es.length = xs.length) := fun i hi => by
      obtain ⟨h1, h2⟩ := hV i (by omega)
      obtain ⟨xs, hr, hd⟩ := open16_any h2
      exact ⟨xs, h1, hr, hd⟩
    obtain ⟨q, hq⟩ := Deep.choose_lt each
    refine ⟨(List.range len).map q, ⟨some a', cap, by simp, by simpa using hl, ?_⟩, fun k hk => ?_⟩
    · rcases Nat.eq_zero_or_pos len with h0 | h0
      · exact .inl (by rw [h0]; rfl)
      · obtain ⟨b, off, spot⟩ := a'
        have hspot : spot = none := by simpa [Addr.add] using World.cell?_spot (hq 0 h0).1
        subst hspot
        refine .inr ⟨b, off, rfl, Nat.zero_le _, ?_, fun i hi => ?_⟩
        · have := World.block_lt_of_cell? w _ (hq 0 h0).1
          simpa [Addr.add] using this
        · simp at hi
          obtain ⟨h1, h2, _⟩ := hq i hi
          rw [Go.WideShapes.add_plain] at h1
          refine ⟨V i, h1, ?_⟩
          have e : ((List.range len).map q).getD i [] = q i := by simp [List.getD, hi]
          rw [e]; exact h2
    · simp at hk
      have e : ((List.range len).map q).getD k [] = q k := by simp [List.getD, hk]
      rw [e]
      rcases (hq k hk).2.2 with h0 | ⟨es, sp, hd, hl'⟩
      · exact .inl h0
      · refine .inr ⟨_, _, es, sp, by rw [hx], ?_, hl'⟩
        rw [← hd]
        exact List.mem_map.2 ⟨k, List.mem_range.2 hk, rfl⟩

theorem weightsAll_of {H : Type} {P : Program} {e : TypeId} {d : DataW H} {n : Nat} (hn : n ∈ d.weights P e) {l : List (DataW H)} (hd : d ∈ l) : n ∈ DataW.weightsAll P e l := by
  induction l with
  | nil => cases hd
  | cons x r ih =>
    unfold DataW.weightsAll
    rcases List.mem_cons.1 hd with h | h
    · exact List.mem_append_left _ (h ▸ hn)
    · exact List.mem_append_right _ (ih h)

/-- the form's own reach, of each list of a list of lists -/
theorem rows_reach {H : Type} {ts : List TypeId} {ds : List (DataW H)} (hsz : (DataW.weightsEach Try.prog ts ds).all (· ≤ reachBytes) = true) {j : Nat} {d : DataW H} (ht : ts[j]? = some 24) (hd : ds[j]? = some d) {zss : List (List Int)}
    (h : ∀ k, k < zss.length → zss.getD k [] = [] ∨ ∃ els spa es sp, d = .slice els spa ∧ DataW.slice es sp ∈ els ∧ es.length = (zss.getD k []).length) : ∀ k, k < zss.length → (zss.getD k []).length ≤ 70368744177664 := fun k hk => by
  rcases h k hk with h0 | ⟨els, spa, es, sp, rfl, hm, hl⟩
  · rw [h0]; simp
  · have := of_decide_eq_true (List.all_eq_true.1 hsz _ (DataW.weights_mem_each ht hd ((es.length + sp.length) * Try.prog.bytesOf 51) (by
      simp only [DataW.weights, Try.underlying24, List.mem_cons, List.mem_append]
      exact Or.inr (Or.inl (weightsAll_of (by simp [DataW.weights, Try.underlying22]) hm)))))
    rw [show Try.prog.bytesOf 51 = 2 by kernel_rfl, hl] at this
    unfold reachBytes at this
    omega

/-- a call: which, a number, samples -/
abbrev Act := Int × Int × List Int
/-- calls that lie somewhere, and are only read -/
def Acts (w : World) (v : Value) (zs : List Act) : Prop :=
  ∃ a c, v = .slice a zs.length c ∧ (∀ z ∈ zs, -9223372036854775808 ≤ z.2.1 ∧ z.2.1 ≤ 9223372036854775807) ∧ (zs = [] ∨ ∃ b off, a = some ⟨b, off, none⟩ ∧ b < w.heap.size ∧
    ∀ (i : Nat) (K n : Int) (xs : List Int), zs[i]? = some (K, n, xs) → ∃ u, w.cell? ⟨b, off + i * 3, none⟩ = some (.int .i64 K) ∧ w.cell? ⟨b, off + i * 3 + 1, none⟩ = some (.int .i64 n) ∧ w.cell? ⟨b, off + i * 3 + 2, none⟩ = some u ∧ Reads .i16 0 w.heap.size w u xs)
theorem Acts.form {w : World} {v : Value} {zs : List Act} (h : Acts w v zs) : ∃ a c, v = .slice a zs.length c := by
  obtain ⟨a, c, h, _⟩ := h; exact ⟨a, c, h⟩
theorem Acts.fits {w : World} {v : Value} {zs : List Act} (h : Acts w v zs) : ∀ z ∈ zs, -9223372036854775808 ≤ z.2.1 ∧ z.2.1 ≤ 9223372036854775807 := by
  obtain ⟨_, _, _, h, _⟩ := h; exact h
theorem Acts.cell {w : World} {a : Option Addr} {l c : Nat} {zs : List Act} (h : Acts w (.slice a l c) zs) {i : Nat} {K n : Int} {xs : List Int} (hi : zs[i]? = some (K, n, xs)) :
    ∃ b off, a = some ⟨b, off, none⟩ ∧ b < w.heap.size ∧ ∃ a' c', w.cell? ⟨b, off + i * 3, none⟩ = some (.int .i64 K) ∧ w.cell? ⟨b, off + i * 3 + 1, none⟩ = some (.int .i64 n) ∧ w.cell? ⟨b, off + i * 3 + 2, none⟩ = some (.slice a' xs.length c') ∧ Reads .i16 0 w.heap.size w (.slice a' xs.length c') xs := by
  obtain ⟨a', c', he, _, h | ⟨b, off, ha, hb, hx⟩⟩ := h
  · rw [h] at hi; simp at hi
  · cases he
    obtain ⟨u, h1, h2, h3, h4⟩ := hx i K n xs hi
    obtain ⟨a', c', rfl⟩ := h4.form
    exact ⟨b, off, ha, hb, a', c', h1, h2, h3, h4⟩

theorem open_acts {H : Type} {enc' : TypeId × Value → H} {w : World} {base : Nat} {spare : Nat → Bool} {held : Bool} {fuel : Nat} {a : Option Addr} {len cap : Nat} {x : DataW H × List MemPlace}
    (h : DataW.trod enc' Try.prog w base spare held fuel 37 [.slice a len cap] = some x) : ∃ zs, Acts w (.slice a len cap) zs := by
  rcases Deep.open_slice Try.underlying37 h with ⟨hcs, _⟩ | ⟨a', len', cap', m, n, D, Pl, hcs, hb, hl, hm, hmm, _, hx⟩
  · simp at hcs
    obtain ⟨rfl, rfl, rfl⟩ := hcs
    exact ⟨[], none, _, rfl, (fun z hz => absurd hz (by simp)), .inl rfl⟩
  · simp at hcs
    obtain ⟨rfl, rfl, rfl⟩ := hcs
    have hlm : len ≤ m := by rw [hmm]; split <;> omega
    have each : ∀ i, i < len → ∃ z : Act, (-9223372036854775808 ≤ z.2.1 ∧ z.2.1 ≤ 9223372036854775807) ∧ w.cell? (a'.add (i * 3)) = some (.int .i64 z.1) ∧ w.cell? (a'.add (i * 3 + 1)) = some (.int .i64 z.2.1) ∧ ∃ u, w.cell? (a'.add (i * 3 + 2)) = some u ∧ Reads .i16 0 w.heap.size w u z.2.2 := by
      intro i hi
      obtain ⟨cs', h1, h2⟩ := hx i (by omega)
      have ce : Try.prog.cellsOf 45 = 3 := by kernel_rfl
      rw [ce] at h1
      obtain ⟨_, hlen, hcell⟩ := World.cells?_some h1
      obtain ⟨xs, k, hk, hxy, _, hxl, hf⟩ := DataW.trod_struct Try.underlying45 h2
      match xs, hxl, cs', hlen with
      | [y0, y1, y2], _, [v0, v1, v2], _ =>
        have c3 : Try.prog.cellsOf 3 = 1 := by kernel_rfl
        have c22 : Try.prog.cellsOf 22 = 1 := by kernel_rfl
        have g0 := hf 0 _ rfl
        have g1 := hf 1 _ rfl
        have g2 := hf 2 _ rfl
        simp [c3, c22] at g0 g1 g2
        have e0 := hcell 0 (by omega)
        have e1 := hcell 1 (by omega)
        have e2 := hcell 2 (by omega)
        rw [Addr.add_add] at e0 e1 e2
        obtain ⟨n0, hn0, _, _⟩ := DataW.trod_int Try.underlying3 g0
        obtain ⟨n1, hn1, _, u1⟩ := DataW.trod_int Try.underlying3 g1
        obtain ⟨ys, hr, _⟩ := open16_any g2
        obtain rfl := List.singleton_inj.1 hn0
        obtain rfl := List.singleton_inj.1 hn1
        exact ⟨(n0, n1, ys), by simpa [Lit.wf, IntKind.min, IntKind.max, IntKind.bits, IntKind.signed] using u1, by simpa using e0, by simpa using e1, v2, by simpa using e2, hr⟩
    obtain ⟨q, hq⟩ := Deep.choose_lt each
    refine ⟨(List.range len).map q, some a', cap, by simp, fun z hz => ?_, ?_⟩
    · obtain ⟨i, hi, rfl⟩ := List.mem_map.1 hz
      exact (hq i (List.mem_range.1 hi)).1
    · rcases Nat.eq_zero_or_pos len with h0 | h0
      · exact .inl (by rw [h0]; rfl)
      · obtain ⟨b, off, spot⟩ := a'
        have hspot : spot = none := by simpa [Addr.add] using World.cell?_spot (hq 0 h0).2.1
        subst hspot
        refine .inr ⟨b, off, rfl, ?_, fun i K n xs hi => ?_⟩
        · have := World.block_lt_of_cell? w _ (hq 0 h0).2.1
          simpa [Addr.add] using this
        · obtain ⟨i', hi', he⟩ : ∃ i', (List.range len)[i]? = some i' ∧ q i' = (K, n, xs) := by simpa using hi
          have hlt : i < len := by have := (List.getElem?_eq_some_iff.1 hi').1; simpa using this
          obtain rfl : i = i' := by rw [List.getElem?_range hlt] at hi'; exact Option.some.inj hi'
          obtain ⟨_, k0, k1, u, k2, k3⟩ := hq i hlt
          rw [he] at k0 k1 k3
          rw [Go.WideShapes.add_plain] at k0 k1 k2
          exact ⟨u, k0, by simpa [Nat.add_assoc] using k1, by simpa [Nat.add_assoc] using k2, k3⟩

end Pcm
end Go.Proofs.Ytnnljamkomlglaa
