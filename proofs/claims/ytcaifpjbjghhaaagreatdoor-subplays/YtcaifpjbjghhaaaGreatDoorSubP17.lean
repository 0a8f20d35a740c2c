import Derived.Test.YtcaifpjbjghhaaaGreatDoorSubP14
import Derived.Test.YtcaifpjbjghhaaaGreatDoorSubP13
/-
  Lists of lists of planes that are handed in. Plain facts, no walk; no function of the program is in it.
-/
namespace Go.Proofs.YtcaifpjbjghhaaaGreatDoor
set_option linter.unusedVariables false
open Go.RowKit
namespace Sub
open Poly (cell_keep Reads)

def Cubes (k : IntKind) (hi : Nat) (w : World) (v : Value) (zs : List (List (List Int))) : Prop :=
  ∃ a c, v = .slice a zs.length c ∧ zs.length ≤ c ∧ (zs = [] ∨ ∃ b off, a = some ⟨b, off, none⟩ ∧ b < hi ∧ ∀ i, i < zs.length → ∃ u, w.cell? ⟨b, off + i, none⟩ = some u ∧ Poly.Rows k 0 hi w u (zs.getD i []))

theorem open_rows_any {H : Type} {enc' : TypeId × Value → H} {w : World} {base : Nat} {spare : Nat → Bool} {held : Bool} {fuel : Nat} {v : Value} {x : DataW H × List MemPlace}
    (h : DataW.trod enc' Tryz.prog w base spare held fuel 82 [v] = some x) : ∃ zss, Poly.Rows .i32 0 w.heap.size w v zss := by
  rcases Deep.open_slice1 Tryz.underlying82 (by kernel_rfl) h with ⟨hcs, _⟩ | ⟨a', len', cap', m, n, V, D, Pl, hcs, _⟩
  · obtain rfl := List.singleton_inj.1 hcs
    exact Qnt.open_rows h
  · obtain rfl := List.singleton_inj.1 hcs
    exact Qnt.open_rows h

theorem open_cubes {H : Type} {enc' : TypeId × Value → H} {w : World} {base : Nat} {spare : Nat → Bool} {held : Bool} {fuel : Nat} {a : Option Addr} {len cap : Nat} {x : DataW H × List MemPlace}
    (h : DataW.trod enc' Tryz.prog w base spare held fuel 24 [.slice a len cap] = some x) : ∃ zs, Cubes .i32 w.heap.size w (.slice a len cap) zs := by
  rcases Deep.open_slice1 Tryz.underlying24 (by kernel_rfl) h with ⟨hcs, _⟩ | ⟨a', len', cap', m, n, V, D, Pl, hcs, hb, hl, hm, hmm, hx, hV⟩
  · simp at hcs
    obtain ⟨rfl, rfl, rfl⟩ := hcs
    exact ⟨[], ⟨none, _, rfl, Nat.zero_le _, .inl rfl⟩⟩
  · simp at hcs
    obtain ⟨rfl, rfl, rfl⟩ := hcs
    have hlm : len ≤ m := by rw [hmm]; split <;> omega
    have each : ∀ i, i < len → ∃ xs, w.cell? (a'.add i) = some (V i) ∧ Poly.Rows .i32 0 w.heap.size w (V i) xs := fun i hi => by
      obtain ⟨h1, h2⟩ := hV i (by omega)
      obtain ⟨xs, hr⟩ := open_rows_any h2
      exact ⟨xs, h1, hr⟩
    obtain ⟨q, hq⟩ := Deep.choose_lt each
    refine ⟨(List.range len).map q, ⟨some a', cap, by simp, by simpa using hl, ?_⟩⟩
    rcases Nat.eq_zero_or_pos len with h0 | h0
    · exact .inl (by rw [h0]; rfl)
    · obtain ⟨b, off, spot⟩ := a'
      have hspot : spot = none := by simpa [Addr.add] using World.cell?_spot (hq 0 h0).1
      subst hspot
      refine .inr ⟨b, off, rfl, ?_, fun i hi => ?_⟩
      · have := World.block_lt_of_cell? w _ (hq 0 h0).1
        simpa [Addr.add] using this
      · simp at hi
        obtain ⟨h1, h2⟩ := hq i hi
        rw [Go.WideShapes.add_plain] at h1
        refine ⟨V i, h1, ?_⟩
        have e : ((List.range len).map q).getD i [] = q i := by simp [List.getD, hi]
        rw [e]; exact h2

theorem Cubes.l3 {hi : Nat} {w : World} {v : Value} {zs : List (List (List Int))} (h : Cubes .i32 hi w v zs) : L3 hi v zs.length (fun i => (zs.getD i []).length) (fun i => Qnt.len (zs.getD i [])) w := by
  obtain ⟨a, c, rfl, hl, h | ⟨b, off, ha, hb, hx⟩⟩ := h
  · exact ⟨a, c, rfl, .inl (by rw [h]; rfl)⟩
  · refine ⟨a, c, rfl, .inr ⟨b, off, ha, hb, fun i hi => ?_⟩⟩
    obtain ⟨u, hu, hr⟩ := hx i hi
    exact ⟨u, hu, Qnt.rows_hd hr⟩
def ez (zs : List (List (List Int))) (c i b : Nat) : Int := Qnt.el (zs.getD c []) i b
theorem row_v2 {k : IntKind} {hi n C : Nat} {w : World} {v : Value} {zss : List (List Int)} (h : Poly.Rows k 0 hi w v zss) (hl : zss.length = n) (hn : 1 ≤ n) (hc : 1 ≤ C) (hz : ∀ i, i < n → Qnt.len zss i = C) : V2 k hi v n C (Qnt.el zss) w := by
  obtain ⟨a, c, rfl, hc', h | ⟨b, off, rfl, _, hb, hx⟩⟩ := h
  · rw [h] at hl; simp at hl; omega
  · rw [hl] at hx hc' ⊢
    refine ⟨b, off, c, rfl, hc', hb, fun i hi => ?_⟩
    obtain ⟨u, hu, a1, c1, rfl, h1, _, h2 | ⟨b1, o1, rfl, _, hb1, h2⟩⟩ := hx i hi
    · have := hz i hi; unfold Qnt.len at this; rw [h2] at this; simp at this; omega
    · have e := hz i hi
      unfold Qnt.len at e
      rw [e] at h1 h2 hu
      exact ⟨_, hu, b1, o1, c1, rfl, h1, hb1, h2⟩
theorem Cubes.v3 {hi C N B : Nat} {w : World} {v : Value} {zs : List (List (List Int))} (h : Cubes .i32 hi w v zs) (hl : isL zs.length (fun i => (zs.getD i []).length) (fun i => Qnt.len (zs.getD i [])) C N B) (hC : 1 ≤ C) (hN : 1 ≤ N) (hB : 1 ≤ B) : V3 .i32 hi v C N B (ez zs) w := by
  obtain ⟨h0, h1⟩ := hl
  have e0 : zs.length = C := by omega
  obtain ⟨a, c, rfl, hc', h | ⟨b, off, rfl, hb, hx⟩⟩ := h
  · rw [h] at e0; simp at e0; omega
  · rw [e0] at hx hc' h1 ⊢
    refine ⟨b, off, c, rfl, hc', hb, fun i hi => ?_⟩
    obtain ⟨u, hu, hr⟩ := hx i hi
    obtain ⟨k1, k2⟩ := h1 i hi
    have k1' : (zs.getD i []).length = N := by have h : (((zs.getD i []).length : Nat) : Int) = N := k1; omega
    refine ⟨u, hu, row_v2 hr k1' hN hB fun j hj => ?_⟩
    have h : ((Qnt.len (zs.getD i []) j : Nat) : Int) = B := k2 j (by show j < (zs.getD i []).length; omega)
    omega
theorem Cubes.fit {hi : Nat} {w : World} {v : Value} {zs : List (List (List Int))} (h : Cubes .i32 hi w v zs) (c : Nat) : Qnt.F32 (ez zs c) := by
  unfold ez
  obtain ⟨a, c', rfl, hc', h | ⟨b, off, rfl, hb, hx⟩⟩ := h
  · rw [h]; intro i b; simp [Qnt.el, List.getD]
  · by_cases hc : c < zs.length
    · obtain ⟨u, hu, hr⟩ := hx c hc
      exact Qnt.rows_fit hr
    · have e : zs.getD c [] = [] := by simp [List.getD, List.getElem?_eq_none (Nat.le_of_not_lt hc)]
      rw [e]; intro i b; simp [Qnt.el, List.getD]

end Sub
end Go.Proofs.YtcaifpjbjghhaaaGreatDoor

