/-
  Plain facts on lists that are made, cleared, gathered, given: what the layers 8 and 9 share; no function of theirs is in it. Conditions: as told at each.
-/
import Derived.Test.YtjfhlaahgfdmnaaDoorPolySame
import Derived.OwnWalk
import Derived.Laws.OwnMore
import Derived.ChangeSlices
import Derived.ProofKit
namespace Go.Proofs.YtjfhlaahgfdmnaaDoor
set_option linter.unusedVariables false
open Go.RowKit
namespace M
theorem getD_append (A B : List Int) (i : Nat) : (A ++ B).getD i 0 = if i < A.length then A.getD i 0 else B.getD (i - A.length) 0 := by
  simp only [List.getD]
  split
  · rename_i h; rw [List.getElem?_append_left h]
  · rename_i h; rw [List.getElem?_append_right (by omega)]
theorem getD_take {A : List Int} {n i : Nat} (h : i < n) : (A.take n).getD i 0 = A.getD i 0 := by
  simp only [List.getD]
  rw [List.getElem?_take, if_pos h]
theorem getD_rep (n i : Nat) : (List.replicate n (0 : Int)).getD i 0 = 0 := by
  simp only [List.getD]
  rw [List.getElem?_replicate]
  split <;> rfl
end M
namespace Poly
open Bank (Blk But)

theorem alloc_len (w : World) (o : Obj) : (w.alloc o).heap.size = w.heap.size + 1 := by simp
theorem own_apart {w : World} {b1 b2 e1 e2 s1 s2 n1 n2 : Nat} {v1 v2 : Value} {x1 x2 : List Value} (h1 : w.ownsRow b1 e1 s1 v1 n1 x1) (h2 : w.ownsRow b2 e2 s2 v2 n2 x2) (hne : e1 ≠ e2) : v1.ownBlock = none ∨ v1.ownBlock ≠ v2.ownBlock := by
  rcases h1.2 with ⟨rfl, _⟩ | ⟨g, c, cur, rfl, _, hg, _⟩
  · exact .inl rfl
  · rcases h2.2 with ⟨rfl, _⟩ | ⟨g2, c2, cur2, rfl, _, hg2, _⟩
    · right; simp [Value.ownBlock]
    · right
      simp only [Value.ownBlock, ne_eq, Option.some.injEq]
      rintro rfl
      rw [hg] at hg2
      simp at hg2
      exact hne hg2.2
theorem own_form {w : World} {b e n : Nat} {v : Value} {x : List Value} (h : w.ownsRow b e 1 v n x) : ∃ a c, v = .slice a n c := by
  rcases h.2 with ⟨rfl, rfl⟩ | ⟨g, c, cur, rfl, _⟩
  · exact ⟨_, _, rfl⟩
  · exact ⟨_, _, rfl⟩
theorem own_drewN {w : World} {b e s n : Nat} {v : Value} {x : List Value} (h : w.ownsRow b e s v n x) (k : Nat) : (w.drewN k).ownsRow b e s v n x := h
theorem own_mono {w : World} {b b' e s n : Nat} {v : Value} {x : List Value} (h : w.ownsRow b e s v n x) (hb : b' ≤ b) : w.ownsRow b' e s v n x := by
  refine ⟨h.1, ?_⟩
  rcases h.2 with h | ⟨g, c, cur, hv, hg, r⟩
  · exact .inl h
  · exact .inr ⟨g, c, cur, hv, by omega, r⟩

theorem alloc_size (w : World) (o : Obj) : (w.alloc o).heap.size = w.heap.size + 1 := by simp
/-- a list and an object are made -/
theorem two_new (w : World) (n : Nat) (c d : Array Value) (s t : TypeId) : Below w.heap.size w (((w.drewN n).alloc (.cells c s)).alloc (.cells d t)) :=
  ((below_drewN (Below.refl w.heap.size w) n).alloc (Nat.le_refl _) _).alloc (by rw [alloc_size]; exact Nat.le_succ _) _
theorem zeros16 (n : Nat) : M.fits16 (List.replicate n 0) := fun z hz => by rw [List.eq_of_mem_replicate hz]; decide
theorem zeros32 (n : Nat) : M.fits32 (List.replicate n 0) := fun z hz => by rw [List.eq_of_mem_replicate hz]; decide

/-- 'clear(s)', s a whole row -/
theorem run_clear_row {P : Program} (w : World) (t e ty : TypeId) (z : Value) (ht : P.underlying t = some (.slice e)) (hv : ∀ w, (zeroValue e).run P w = .ok z w) (hz : z.cells = #[z]) (h1 : z.oneCell' = true) (g n c : Nat) (cur : Array Value) (tt : TypeId)
    (hg : w.heap[g]? = some (.cells cur tt (0, 0))) (hs : cur.size = n) (hn : 0 < n) :
    (Builtin.clear_ #[t] ty #[.slice (some ⟨g, 0, none⟩) n c]).run P w = .ok (.tuple #[]) (w.setRow g (List.replicate n z).toArray) := by
  have hzc : (Builtin.zeroCells z.cells n).toList = List.replicate n z := by
    rw [hz]
    simp [Builtin.zeroCells]
    apply List.ext_getElem
    · simp
    · intro i h1 h2
      simp [Nat.mod_one]
  have hst := run_storeCells_at (P := P) g 0 tt (List.replicate n z) 0 cur w hg (by simp; omega) (by intro v hv'; rw [List.eq_of_mem_replicate hv']; exact h1)
  have hX : cur.toList.take (0 + 0) ++ List.replicate n z ++ cur.toList.drop (0 + 0 + (List.replicate n z).length) = List.replicate n z := by
    rw [List.drop_eq_nil_of_le (by simp; omega)]; simp
  rw [hX] at hst
  obtain ⟨m, rfl⟩ : ∃ m, n = m + 1 := ⟨n - 1, by omega⟩
  simp [Builtin.clear_, run_underlying ht, hv, hzc, hst]

theorem rsat16 (n : Int) (w : World) (hn : -9223372036854775808 ≤ n) (hm : n ≤ 9223372036854775807) :
    Calls Tryd.prog 50 #[.int .i64 n, .int .i64 16] w fun e w' => e = .returned (.int .i64 (M.sat16 n)) ∧ w' = w := by
  unfold M.sat16 M.clip
  rcases Int.lt_or_le n (-32768) with h | h
  · rw [if_pos h]
    go_enter Tryd.func50, Tryd.ntmps50
    go_wp2
    all_goals first | (go_ret; exact ⟨rfl, rfl⟩) | (exfalso; omega)
  · rw [if_neg (by omega)]
    rcases Int.lt_or_le 32767 n with h2 | h2
    · rw [if_pos h2]
      have h' : ¬ n < -32768 := by omega
      go_enter Tryd.func50, Tryd.ntmps50
      go_wp2
      all_goals first | (go_ret; exact ⟨rfl, rfl⟩) | (exfalso; omega)
    · rw [if_neg (by omega)]
      have h' : ¬ n < -32768 := by omega
      have h3 : ¬ 32767 < n := by omega
      go_enter Tryd.func50, Tryd.ntmps50
      go_wp2
      all_goals first | (go_ret; exact ⟨rfl, rfl⟩) | (exfalso; omega)

/-- a list that is gathered, in blocks from B on -/
def Gat (k : IntKind) (t : TypeId) (B : Nat) (v : Value) (zs : List Int) (w wr : World) : Prop := wr.ownsRow B t 1 v zs.length (enc k zs) ∧ Below B w wr ∧ w.heap.size = B
theorem Gat.drewN {k : IntKind} {t : TypeId} {B : Nat} {v : Value} {zs : List Int} {w wr : World} (h : Gat k t B v zs w wr) (n : Nat) : Gat k t B v zs w (wr.drewN n) := ⟨h.1, below_drewN h.2.1 n, h.2.2⟩
theorem Gat.nil (k : IntKind) (t : TypeId) (w : World) : Gat k t w.heap.size (.slice none 0 0) [] w w := ⟨World.ownsRow_nil _ _ _ _, Below.refl _ _, rfl⟩
theorem Gat.size {k : IntKind} {t : TypeId} {B : Nat} {v : Value} {zs : List Int} {w wr : World} (h : Gat k t B v zs w wr) : B ≤ wr.heap.size := by have := h.2.1.size; have := h.2.2; omega
theorem Gat.form {k : IntKind} {t : TypeId} {B : Nat} {v : Value} {zs : List Int} {w wr : World} (h : Gat k t B v zs w wr) : ∃ a c, v = .slice a zs.length c := own_form h.1
theorem Gat.step {k : IntKind} {t : TypeId} {B : Nat} {v v' : Value} {zs : List Int} {w wr w1 : World} {c : Array Value} {ty : TypeId} {x : Int} (h : Gat k t B v zs w wr)
    (hown : w1.ownsRow B t 1 v' (zs.length + 1) (enc k zs ++ [.int k x])) (hg : (wr.alloc (.cells c ty)).grownBy w1 v.ownBlock) : Gat k t B v' (zs ++ [x]) w w1 := by
  refine ⟨?_, ?_, h.2.2⟩
  · have e : enc k (zs ++ [x]) = enc k zs ++ [.int k x] := by simp [enc]
    rw [e, List.length_append]
    exact hown
  · have hs := h.size
    exact (h.2.1.alloc hs _).grown hg (by simp; omega) (fun j hj => (h.1.lt j hj).1)
theorem Gat.reads {k : IntKind} {t : TypeId} {B : Nat} {v : Value} {zs : List Int} {w wr : World} (h : Gat k t B v zs w wr) (hw : ∀ z ∈ zs, (Lit.int k z).wf = true) : Reads k B wr.heap.size wr v zs := reads_own h.1 hw
theorem wf64 {z : Int} (h0 : -9223372036854775808 ≤ z) (h1 : z ≤ 9223372036854775807) : (Lit.int .i64 z).wf = true := by simp [Lit.wf, IntKind.min, IntKind.max, IntKind.signed, IntKind.bits]; omega

/-- a new list of nothing but 0 -/
theorem reads_new16 (w : World) (n : Nat) : Reads .i16 w.heap.size (w.heap.size + 1) (w.alloc (.cells (enc .i16 (List.replicate n 0)).toArray 56)) (.slice (some ⟨w.heap.size, 0, none⟩) n n) (List.replicate n 0) := by
  have := reads_blk (Blk.new w (enc .i16 (List.replicate n 0)).toArray 56) (fit16.2 (zeros16 n))
  simpa using this
theorem reads_new32 (w : World) (n : Nat) : Reads .i32 w.heap.size (w.heap.size + 1) (w.alloc (.cells (enc .i32 (List.replicate n 0)).toArray 21)) (.slice (some ⟨w.heap.size, 0, none⟩) n n) (List.replicate n 0) := by
  have := reads_blk (Blk.new w (enc .i32 (List.replicate n 0)).toArray 21) (fit32.2 (zeros32 n))
  simpa using this
theorem new_below {B : Nat} {w w' : World} (h : Below B w w') (hB : w.heap.size = B) (c : Array Value) (t : TypeId) : Below B w (w'.alloc (.cells c t)) := h.alloc (by have := h.size; omega) _

theorem tab_b {B : Nat} {w w' : World} (h : Below B w w') (hB : w.heap.size ≤ B) (hT : Wave.Tab w) : Wave.Tab w' := Bank.tab_below h hB hT

theorem open16 {H : Type} {enc' : TypeId × Value → H} {w : World} {base : Nat} {spare : Nat → Bool} {held : Bool} {fuel : Nat} {a : Option Addr} {len cap : Nat} {x : DataW H × List MemPlace}
    (h : DataW.trod enc' Tryd.prog w base spare held fuel 23 [.slice a len cap] = some x) : ∃ xs, Reads .i16 0 w.heap.size w (.slice a len cap) xs := by
  rcases Go.ChangeShapes.open_ints Tryd.underlying23 Tryd.underlying56 (by kernel_rfl) h with ⟨hcs, _⟩ | ⟨a', len', cap', zs, hcs, hb, hl, hm, hzl, _, hc, hw⟩
  · simp at hcs
    obtain ⟨rfl, rfl, rfl⟩ := hcs
    exact ⟨[], none, 0, rfl, Nat.le_refl _, fun z hz => by simp at hz, .inl rfl⟩
  · simp at hcs
    obtain ⟨rfl, rfl, rfl⟩ := hcs
    have hlm : len ≤ zs.length := by rw [hzl]; split <;> omega
    refine ⟨zs.take len, some a', cap, by rw [List.length_take, Nat.min_eq_left hlm], by rw [List.length_take]; omega, fun z hz => hw z (List.mem_of_mem_take hz), ?_⟩
    rcases Nat.eq_zero_or_pos len with h0 | h0
    · exact .inl (by rw [h0]; rfl)
    · obtain ⟨b, off, spot⟩ := a'
      have hspot : spot = none := by simpa [Addr.add] using World.cell?_spot (hc 0 (by omega))
      subst hspot
      refine .inr ⟨b, off, rfl, Nat.zero_le _, ?_, fun i hi => ?_⟩
      · have := World.block_lt_of_cell? w _ (hc 0 (by omega))
        simpa [Addr.add] using this
      · rw [List.length_take] at hi
        have k := hc i (by omega)
        rw [Go.WideShapes.add_plain] at k
        rw [k, M.getD_take (by omega)]
theorem open32 {H : Type} {enc' : TypeId × Value → H} {w : World} {base : Nat} {spare : Nat → Bool} {held : Bool} {fuel : Nat} {a : Option Addr} {len cap : Nat} {x : DataW H × List MemPlace}
    (h : DataW.trod enc' Tryd.prog w base spare held fuel 40 [.slice a len cap] = some x) : ∃ xs, Reads .i32 0 w.heap.size w (.slice a len cap) xs := by
  rcases Go.ChangeShapes.open_ints Tryd.underlying40 Tryd.underlying21 (by kernel_rfl) h with ⟨hcs, _⟩ | ⟨a', len', cap', zs, hcs, hb, hl, hm, hzl, _, hc, hw⟩
  · simp at hcs
    obtain ⟨rfl, rfl, rfl⟩ := hcs
    exact ⟨[], none, 0, rfl, Nat.le_refl _, fun z hz => by simp at hz, .inl rfl⟩
  · simp at hcs
    obtain ⟨rfl, rfl, rfl⟩ := hcs
    have hlm : len ≤ zs.length := by rw [hzl]; split <;> omega
    refine ⟨zs.take len, some a', cap, by rw [List.length_take, Nat.min_eq_left hlm], by rw [List.length_take]; omega, fun z hz => hw z (List.mem_of_mem_take hz), ?_⟩
    rcases Nat.eq_zero_or_pos len with h0 | h0
    · exact .inl (by rw [h0]; rfl)
    · obtain ⟨b, off, spot⟩ := a'
      have hspot : spot = none := by simpa [Addr.add] using World.cell?_spot (hc 0 (by omega))
      subst hspot
      refine .inr ⟨b, off, rfl, Nat.zero_le _, ?_, fun i hi => ?_⟩
      · have := World.block_lt_of_cell? w _ (hc 0 (by omega))
        simpa [Addr.add] using this
      · rw [List.length_take] at hi
        have k := hc i (by omega)
        rw [Go.WideShapes.add_plain] at k
        rw [k, M.getD_take (by omega)]

end Poly
end Go.Proofs.YtjfhlaahgfdmnaaDoor
