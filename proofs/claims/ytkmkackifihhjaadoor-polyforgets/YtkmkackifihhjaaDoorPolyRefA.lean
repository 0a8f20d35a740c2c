/-
  The document's answer for layer 8: waves, rounding, and lists that are gathered. Conditions: as told at each.
-/
import Derived.Test.YtkmkackifihhjaaDoorPolyCut
import Derived.Test.YtkmkackifihhjaaDoorPolySame
import Derived.Test.YtkmkackifihhjaaDoorPolyNew
import Derived.BigQuiet
namespace Go.Proofs.YtkmkackifihhjaaDoor
set_option linter.unusedVariables false
open Go.RowKit
namespace M
/-- all numbers of the last k blocks, the newest ahead -/
def newsK (zss : List (List Int)) (k : Nat) : List Int := ((zss.reverse.take k).map List.reverse).flatten
/-- all numbers, the newest ahead -/
def news (zss : List (List Int)) : List Int := (zss.reverse.map List.reverse).flatten
theorem newsK_all (zss : List (List Int)) : newsK zss zss.length = news zss := by unfold newsK news; rw [List.take_of_length_le (by simp)]
theorem newsK_step {zss : List (List Int)} {k : Nat} (h : k < zss.length) : newsK zss (k + 1) = newsK zss k ++ (zss.getD (zss.length - 1 - k) []).reverse := by
  unfold newsK
  rw [List.take_add_one, List.map_append, List.flatten_append]
  congr 1
  rw [List.getElem?_reverse h]
  simp [List.getD, show zss.length - 1 - k < zss.length from by omega]
theorem news_snoc (zss : List (List Int)) (b : List Int) : news (zss ++ [b]) = b.reverse ++ news zss := by simp [news]
theorem newsK_length {zss : List (List Int)} {m : Nat} (hm : ∀ i, i < zss.length → (zss.getD i []).length = m) {k : Nat} (hk : k ≤ zss.length) : (newsK zss k).length = k * m := by
  induction k with
  | zero => simp [newsK]
  | succ k ih =>
    rw [newsK_step (by omega), List.length_append, ih (by omega), List.length_reverse, hm _ (by omega), Nat.add_mul, Nat.one_mul]
theorem rev_take {row : List Int} {q : Nat} (h : q < row.length) : row.reverse.take (q + 1) = row.reverse.take q ++ [row.getD (row.length - 1 - q) 0] := by
  rw [List.take_add_one]
  congr 1
  rw [List.getElem?_reverse h]
  simp [List.getD, show row.length - 1 - q < row.length from by omega]
theorem rev_all {row : List Int} {q : Nat} (h : q = row.length) : row.reverse.take q = row.reverse := List.take_of_length_le (by simp; omega)
theorem news_mem {zss : List (List Int)} {z : Int} (h : z ∈ news zss) : ∃ i, i < zss.length ∧ z ∈ zss.getD i [] := by
  unfold news at h
  obtain ⟨r, hr, hz⟩ := List.mem_flatten.1 h
  obtain ⟨q, hq, rfl⟩ := List.mem_map.1 hr
  obtain ⟨i, hi, rfl⟩ := List.mem_iff_getElem.1 (List.mem_reverse.1 hq)
  exact ⟨i, hi, by rw [List.getD, List.getElem?_eq_getElem hi]; exact List.mem_reverse.1 hz⟩
theorem pad_get (X : List Int) (z i : Nat) : (X ++ List.replicate z 0).getD i 0 = X.getD i 0 := by
  simp only [List.getD]
  rcases Nat.lt_or_ge i X.length with h | h
  · rw [List.getElem?_append_left h]
  · rw [List.getElem?_append_right h, List.getElem?_eq_none h, List.getElem?_replicate]
    split <;> rfl
theorem pad_step (X : List Int) (z : Nat) : X ++ List.replicate (z + 1) 0 = (X ++ List.replicate z 0) ++ [0] := by
  rw [List.replicate_succ', List.append_assoc]
theorem pad_fits {X : List Int} {B C : Int} (h : ∀ z ∈ X, B ≤ z ∧ z ≤ C) (hB : B ≤ 0) (hC : 0 ≤ C) (n : Nat) : ∀ z ∈ X ++ List.replicate n 0, B ≤ z ∧ z ≤ C := by
  intro z hz
  rcases List.mem_append.1 hz with h' | h'
  · exact h z h'
  · rw [List.eq_of_mem_replicate h']; exact ⟨hB, hC⟩
theorem ys_take {m j : Nat} {X : List Int} (h : j < 2 * m) : (ys m X).take (j + 1) = (ys m X).take j ++ [sat32 (rnd (fo m X j 5) 14)] := by
  rw [List.take_add_one]
  simp [ys, h]
theorem spl_take {m j : Nat} {X : List Int} (h : j < m) : (spl m X).take (j + 1) = (spl m X).take j ++ [sat32 (rnd (Dot.dotTo (ys m X) (ws m j) (2 * m)) (sh m))] := by
  rw [List.take_add_one]
  simp [spl, h]
theorem jn_take {m j : Nat} {X : List Int} (h : j < m) : (jn m X).take (j + 1) = (jn m X).take j ++ [sat16 (rnd (fj m X j 5) 14)] := by
  rw [List.take_add_one]
  simp [jn, h]
theorem vs_take {m j : Nat} {X : List Int} (h : j < 2 * m) : (vs m X).take (j + 1) = (vs m X).take j ++ [sat32 (rnd (Dot.dotTo X (wj m j) m) 15)] := by
  rw [List.take_add_one]
  simp [vs, h]
theorem ys_get {m j : Nat} {X : List Int} (h : j < 2 * m) : (ys m X).getD j 0 = sat32 (rnd (fo m X j 5) 14) := by simp [ys, List.getD, h]
theorem ws_get {m i j : Nat} (h : j < 2 * m) : (ws m i).getD j 0 = wv m (2 * (i : Int) + 1) (2 * (j : Int) - m) := by simp [ws, List.getD, h]
theorem wj_get {m k i : Nat} (h : i < m) : (wj m k).getD i 0 = wv m (2 * (i : Int) + 1) (2 * (k : Int) + m) := by simp [wj, List.getD, h]
end M
namespace Poly
open Bank (Blk But)

theorem rwave (a b : Int) (m : Nat) (w : World) (hm : m = 4 ∨ m = 8) (a0 : -100 ≤ a) (a1 : a ≤ 100) (b0 : -100 ≤ b) (b1 : b ≤ 100) :
    Calls Tryd.prog 31 #[.int .i64 a, .int .i64 b, .int .i64 m] w fun e w' => e = .returned (.int .i64 (M.wv m a b)) ∧ w' = w := by
  have hab := M.mul_bd a b 100 100 (by omega) (by omega) (by omega) (by omega)
  have m1 : (m : Int) ≤ 8 := by omega
  have e : M.cosineI (a * b) (8 * (m : Int)) = M.wv m a b := if_pos (by omega)
  have hb := M.wv_bd (m := (m : Int)) (a := a) (b := b) (by omega)
  have hc := Wave.refCosine_all (a * b) (8 * (m : Int)) w
  rw [e] at hc
  generalize M.wv m a b = y at *
  generalize M.waveE (8 * (m : Int)) = z at *
  clear hm e
  go_enter Tryd.func31, Tryd.ntmps31
  go_wp2_with (go_at_call 43; refine hc.mono ?_; rintro e w' ⟨rfl, hw⟩; rw [hw]; clear hw w')
  go_ret
  exact ⟨rfl, rfl⟩

theorem rround (n s : Int) (w : World) (h0 : -9223372036854775808 ≤ n) (h1 : n ≤ 9223372036854775806) :
    Calls Tryd.prog 30 #[.int .i64 n, .int .i64 s] w fun e w' => e = .returned (.int .i64 (M.sat32 (M.rnd n s))) ∧ w' = w := by
  have hr := M.rnd_bd n s (by omega) (by omega)
  go_enter Tryd.func30, Tryd.ntmps30
  go_wp2_with (first
    | (go_at_call 36; refine (Ref.Round_any _ _ _ (by omega) (by omega)).mono ?_; rintro e w' ⟨rfl, rfl⟩)
    | (go_at_call 35; refine (Ref.Sat_any _ _ (by omega) (by omega)).mono ?_; rintro e w' ⟨rfl, rfl⟩))
  go_ret
  exact ⟨rfl, rfl⟩

theorem rsat16 (n : Int) (w : World) (hn : -9223372036854775808 ≤ n) (hm : n ≤ 9223372036854775807) :
    Calls Tryd.prog 35 #[.int .i64 n, .int .i64 16] w fun e w' => e = .returned (.int .i64 (M.sat16 n)) ∧ w' = w := by
  unfold M.sat16 M.clip
  rcases Int.lt_or_le n (-32768) with h | h
  · rw [if_pos h]
    go_enter Tryd.func35, Tryd.ntmps35
    go_wp2
    all_goals first | (go_ret; exact ⟨rfl, rfl⟩) | (exfalso; omega)
  · rw [if_neg (by omega)]
    rcases Int.lt_or_le 32767 n with h2 | h2
    · rw [if_pos h2]
      have h' : ¬ n < -32768 := by omega
      go_enter Tryd.func35, Tryd.ntmps35
      go_wp2
      all_goals first | (go_ret; exact ⟨rfl, rfl⟩) | (exfalso; omega)
    · rw [if_neg (by omega)]
      have h' : ¬ n < -32768 := by omega
      have h3 : ¬ 32767 < n := by omega
      go_enter Tryd.func35, Tryd.ntmps35
      go_wp2
      all_goals first | (go_ret; exact ⟨rfl, rfl⟩) | (exfalso; omega)

/-- a list that is gathered, in blocks from B on -/
def Gat (k : IntKind) (t : TypeId) (B : Nat) (v : Value) (zs : List Int) (w wr : World) : Prop := wr.ownsRow B t 1 v zs.length (enc k zs) ∧ Below B w wr ∧ w.heap.size = B
theorem Gat.drewN {k : IntKind} {t : TypeId} {B : Nat} {v : Value} {zs : List Int} {w wr : World} (h : Gat k t B v zs w wr) (n : Nat) : Gat k t B v zs w (wr.drewN n) := ⟨h.1, below_drewN h.2.1 n, h.2.2⟩
theorem Gat.nil (k : IntKind) (t : TypeId) (w : World) : Gat k t w.heap.size (.slice none 0 0) [] w w := ⟨World.ownsRow_nil _ _ _ _, Below.refl _ _, rfl⟩
theorem Gat.size {k : IntKind} {t : TypeId} {B : Nat} {v : Value} {zs : List Int} {w wr : World} (h : Gat k t B v zs w wr) : B ≤ wr.heap.size := by have := h.2.1.size; have := h.2.2; omega
theorem Gat.form {k : IntKind} {t : TypeId} {B : Nat} {v : Value} {zs : List Int} {w wr : World} (h : Gat k t B v zs w wr) : ∃ a c, v = .slice a zs.length c := own_form h.1
theorem Gat.step {k : IntKind} {t : TypeId} {B : Nat} {v v' : Value} {zs : List Int} {w wr w1 : World} {c : Array Value} {ty : TypeId} {x : Int} (h : Gat k t B v zs w wr)
    (hown : w1.ownsRow B t 1 v' (zs.length + 1) (enc k zs ++ [.int k x])) (hg : (wr.alloc (.cells c ty)).grownBy w1 v.ownBlock) : Gat k t B v' (zs ++ [x]) w w1 := by
  refine ⟨?_, ?_, h.2.2⟩
  · have e : enc k (zs ++ [x]) = enc k zs ++ [.int k x] := by simp [enc]
    rw [e, List.length_append]
    exact hown
  · have hs := h.size
    exact (h.2.1.alloc hs _).grown hg (by simp; omega) (fun j hj => (h.1.lt j hj).1)
theorem Gat.reads {k : IntKind} {t : TypeId} {B : Nat} {v : Value} {zs : List Int} {w wr : World} (h : Gat k t B v zs w wr) (hw : ∀ z ∈ zs, (Lit.int k z).wf = true) : Reads k B wr.heap.size wr v zs := reads_own h.1 hw
theorem wf64 {z : Int} (h0 : -9223372036854775808 ≤ z) (h1 : z ≤ 9223372036854775807) : (Lit.int .i64 z).wf = true := by simp [Lit.wf, IntKind.min, IntKind.max, IntKind.signed, IntKind.bits]; omega

/-- the document's filter -/
theorem rfilter (m : Nat) (w : World) (hm : m = 4 ∨ m = 8) : Calls Tryd.prog 29 #[.int .i64 m] w fun e w' => ∃ b off c, e = .returned (.slice (some ⟨b, off, none⟩) (10 * m) c) ∧ w.heap.size ≤ b ∧ b < w'.heap.size ∧ (∀ i, i < 10 * m → w'.cell? ⟨b, off + i, none⟩ = some (.int .i16 (M.fil i m))) ∧ Below w.heap.size w w' := by
  refine (Bank.rfilter_ok m w (.inr (.inr ⟨rfl, hm⟩))).mono ?_
  rintro e w' ⟨v, rfl, ho, hb⟩
  have e1 : M.ts 2 m = (M.hs m).length := by rw [M.hs_length]; rfl
  rw [tabl_hs, e1] at ho
  have hr := reads_own ho (fit16.2 (hs_fits m))
  obtain ⟨a, c, rfl⟩ := hr.form
  obtain ⟨b, off, rfl, h0, h1, hx⟩ := hr.cell (by rw [M.hs_length]; omega)
  rw [M.hs_length] at hx
  exact ⟨b, off, c, by rw [M.hs_length], h0, h1, fun i hi => by rw [hx i hi, M.hs_get hi], hb⟩

end Poly
end Go.Proofs.YtkmkackifihhjaaDoor
