/-
  Contracts of package poly's small functions: a line that moves on, waves, sums. Conditions: as told at each.
-/
import Derived.Test.YtjfhlaahgfdmnaaDoorPolyMem
namespace Go.Proofs.YtjfhlaahgfdmnaaDoor
set_option linter.unusedVariables false
open Go.RowKit
namespace Poly
open Bank (Blk But)

theorem elem16 : Tryd.prog.elem 23 = 56 := by simp [Program.elem, Tryd.underlying23]
theorem size16 (w : World) : (Go.sizeOf 56).run Tryd.prog w = .ok 1 w := by kernel_rfl
theorem elem32 : Tryd.prog.elem 40 = 21 := by simp [Program.elem, Tryd.underlying40]
theorem size32 (w : World) : (Go.sizeOf 21).run Tryd.prog w = .ok 1 w := by kernel_rfl
theorem rest16 (g l n : Nat) (hn : n < l) (w : World) : (Instr.slice 23 (.slice (some ⟨g, 0, none⟩) l l) (some (.int .i64 (n : Int))) none none).run Tryd.prog w = .ok (.slice (some ⟨g, n, none⟩) (l - n) (l - n)) w := by
  rw [run_slice_l (P := Tryd.prog) w 23 _ l l (by rw [elem16]; exact Tryd.underlying23) .i64 n (by omega) (by omega), elem16, size16]
  show Result.ok (Go.sliced _ (n : Int).toNat l l 1) w = _
  unfold Go.sliced
  rw [if_neg (by omega)]
  simp [add_at]
theorem rest32 (g l n : Nat) (hn : n < l) (w : World) : (Instr.slice 40 (.slice (some ⟨g, 0, none⟩) l l) (some (.int .i64 (n : Int))) none none).run Tryd.prog w = .ok (.slice (some ⟨g, n, none⟩) (l - n) (l - n)) w := by
  rw [run_slice_l (P := Tryd.prog) w 40 _ l l (by rw [elem32]; exact Tryd.underlying40) .i64 n (by omega) (by omega), elem32, size32]
  show Result.ok (Go.sliced _ (n : Int).toNat l l 1) w = _
  unfold Go.sliced
  rw [if_neg (by omega)]
  simp [add_at]

theorem moved (k : IntKind) (zs : List Int) (n : Nat) (hn : n < zs.length) :
    (enc k zs).toArray.toList.take n ++ (enc k zs).take (zs.length - n) ++ (enc k zs).toArray.toList.drop (n + ((enc k zs).take (zs.length - n)).length) = enc k (zs.take n ++ zs.take (zs.length - n)) := by
  have e : ((enc k zs).take (zs.length - n)).length = zs.length - n := by simp [enc_length]
  rw [e, List.drop_eq_nil_of_le (by simp [enc_length]; omega)]
  simp [enc, List.map_take]

/-- a list that is being filled: of the L numbers of block g the first k are told -/
def Fill (K : IntKind) (t : TypeId) (g L k : Nat) (f : Nat → Int) (w : World) : Prop := ∃ tab : Array Value, Blk w g tab t ∧ tab.size = L ∧ ∀ j, j < k → tab[j]? = some (.int K (f j))
theorem Fill.drewN {K : IntKind} {t : TypeId} {g L k : Nat} {f : Nat → Int} {w : World} (h : Fill K t g L k f w) (m : Nat) : Fill K t g L k f (w.drewN m) := h
theorem Fill.drew {K : IntKind} {t : TypeId} {g L k : Nat} {f : Nat → Int} {w : World} (h : Fill K t g L k f w) : Fill K t g L k f w.drew := h
theorem Fill.start {K : IntKind} {t : TypeId} {g L : Nat} {f : Nat → Int} {w : World} (h : Blk w g (enc K (List.replicate L 0)).toArray t) : Fill K t g L 0 f w := ⟨_, h, by simp [enc_length], fun j hj => absurd hj (by omega)⟩
theorem Fill.cell {K : IntKind} {t : TypeId} {g L k : Nat} {f : Nat → Int} {w : World} (h : Fill K t g L k f w) {j : Nat} (hj : j < L) : (∃ u, w.cell? ⟨g, j, none⟩ = some u) ∧ w.frozen? ⟨g, j, none⟩ = false := by
  obtain ⟨tab, h1, h2, _⟩ := h
  exact ⟨⟨tab[j]'(by omega), h1.cell (by simp [h2, hj])⟩, h1.free j⟩
theorem Fill.step {K : IntKind} {t : TypeId} {g L k : Nat} {f : Nat → Int} {w : World} (h : Fill K t g L k f w) (hk : k < L) {x : Int} (hx : x = f k) : Fill K t g L (k + 1) f (w.setCell ⟨g, k, none⟩ (.int K x)) := by
  obtain ⟨tab, h1, h2, h3⟩ := h
  subst hx
  refine ⟨_, h1.set _ _, by simpa using h2, fun j hj => ?_⟩
  rw [Array.getElem?_setIfInBounds]
  split
  · rename_i e; subst e; rw [if_pos (by omega)]
  · exact h3 j (by omega)
theorem Fill.whole {K : IntKind} {t : TypeId} {g L : Nat} {f : Nat → Int} {w : World} (h : Fill K t g L L f w) : Blk w g (enc K ((List.range L).map f)).toArray t := by
  obtain ⟨tab, h1, h2, h3⟩ := h
  have e : tab = (enc K ((List.range L).map f)).toArray := by
    apply Array.ext'
    apply List.ext_getElem?
    intro j
    by_cases hj : j < L
    · rw [Array.getElem?_toList, h3 j hj]
      simp [enc, hj]
    · rw [List.getElem?_eq_none (by simp; omega), List.getElem?_eq_none (by simp [enc]; omega)]
  rw [← e]; exact h1
theorem Fill.lt {K : IntKind} {t : TypeId} {g L k : Nat} {f : Nat → Int} {w : World} (h : Fill K t g L k f w) : g < w.heap.size := by
  obtain ⟨_, h, _⟩ := h; exact h.lt

end Poly
end Go.Proofs.YtjfhlaahgfdmnaaDoor
