/-
  Numbers in blocks; when two lists are the same. Conditions: as told at each.
-/
import Derived.Test.YtkmkackifihhjaaDoorPolyWalks
import Derived.OwnWalk
import Derived.Laws.OwnMore
namespace Go.Proofs.YtkmkackifihhjaaDoor
set_option linter.unusedVariables false
open Go.RowKit
namespace M
/-- the block at i, of m numbers -/
def blk (m : Nat) (l : List Int) (i : Nat) : List Int := (l.drop (i * m)).take m
/-- numbers in blocks of m, what is left over not -/
def cutL (m : Nat) (l : List Int) : List (List Int) := (List.range (l.length / m)).map (blk m l)
theorem cutL_length (m : Nat) (l : List Int) : (cutL m l).length = l.length / m := by simp [cutL]
theorem cutL_get {m i : Nat} {l : List Int} (h : i < l.length / m) : (cutL m l).getD i [] = blk m l i := by simp [cutL, List.getD, h]
theorem blk_length {m i : Nat} {l : List Int} (h : i * m + m ≤ l.length) : (blk m l i).length = m := by unfold blk; simp; omega
theorem blk_mem {m i : Nat} {l : List Int} {z : Int} (h : z ∈ blk m l i) : z ∈ l := List.mem_of_mem_drop (List.mem_of_mem_take h)
theorem blk_get {m i j : Nat} {l : List Int} (h : j < m) : (blk m l i).getD j 0 = l.getD (i * m + j) 0 := by
  unfold blk
  simp only [List.getD]
  rw [List.getElem?_take, if_pos h, List.getElem?_drop]
end M
namespace Poly
open Bank (Blk But)

theorem alloc_len (w : World) (o : Obj) : (w.alloc o).heap.size = w.heap.size + 1 := by simp
theorem own_apart {w : World} {b1 b2 e1 e2 s1 s2 n1 n2 : Nat} {v1 v2 : Value} {x1 x2 : List Value} (h1 : w.ownsRow b1 e1 s1 v1 n1 x1) (h2 : w.ownsRow b2 e2 s2 v2 n2 x2) (hne : e1 ≠ e2) : v1.ownBlock = none ∨ v1.ownBlock ≠ v2.ownBlock := by
  rcases h1.2 with ⟨rfl, _⟩ | ⟨g, c, cur, rfl, _, hg, _⟩
  · exact .inl rfl
  · rcases h2.2 with ⟨rfl, _⟩ | ⟨g2, c2, cur2, rfl, _, hg2, _⟩
    · right; simp [Value.ownBlock]
    · right
      simp only [Value.ownBlock, ne_eq, Option.some.injEq]
      rintro rfl
      rw [hg] at hg2
      simp at hg2
      exact hne hg2.2
theorem own_form {w : World} {b e n : Nat} {v : Value} {x : List Value} (h : w.ownsRow b e 1 v n x) : ∃ a c, v = .slice a n c := by
  rcases h.2 with ⟨rfl, rfl⟩ | ⟨g, c, cur, rfl, _⟩
  · exact ⟨_, _, rfl⟩
  · exact ⟨_, _, rfl⟩
theorem own_drewN {w : World} {b e s n : Nat} {v : Value} {x : List Value} (h : w.ownsRow b e s v n x) (k : Nat) : (w.drewN k).ownsRow b e s v n x := h
theorem own_mono {w : World} {b b' e s n : Nat} {v : Value} {x : List Value} (h : w.ownsRow b e s v n x) (hb : b' ≤ b) : w.ownsRow b' e s v n x := by
  refine ⟨h.1, ?_⟩
  rcases h.2 with h | ⟨g, c, cur, hv, hg, r⟩
  · exact .inl h
  · exact .inr ⟨g, c, cur, hv, by omega, r⟩

/-- 'l[i:i+m]' -/
theorem slice16 (b off L c i m : Nat) (hi : i + m ≤ L) (hm : 0 < m) (hc : L ≤ c) (wx : World) : (Instr.slice 22 (.slice (some ⟨b, off, none⟩) L c) (some (.int .i64 (i : Int))) (some (.int .i64 ((i : Int) + (m : Int)))) none).run Tryd.prog wx = .ok (.slice (some ⟨b, off + i, none⟩) m (c - i)) wx := by
  rw [run_slice_lh (P := Tryd.prog) wx 22 _ L c (by rw [elem16]; exact Tryd.underlying22) .i64 .i64 i (i + m) (by omega) (by omega) (by omega), elem16, size16]
  show Result.ok (Go.sliced _ (i : Int).toNat ((i : Int) + (m : Int)).toNat c 1) wx = _
  unfold Go.sliced
  rw [if_neg (by omega), show ((i : Int) + (m : Int)).toNat = i + m from by omega, show (i : Int).toNat = i from by omega]
  simp [add_off]
/-- between the rounds of 'cut': the first k blocks are gathered -/
def Cut16 (m k : Nat) (l : List Int) (v : Value) (w wr : World) : Prop :=
  ∃ us : List Value, wr.ownsRow w.heap.size 22 1 v k us ∧ (∀ i u, us[i]? = some u → wr.ownsRow w.heap.size 32 1 u m (enc .i16 (M.blk m l i)) ∧ u.oneCell' = true) ∧ Below w.heap.size w wr
theorem Cut16.rows {m k : Nat} {l : List Int} {v : Value} {w wr : World} (h : Cut16 m k l v w wr) (hk : k = l.length / m) (hm : 0 < m) (hl : ∀ z ∈ l, (Lit.int .i16 z).wf = true) : Rows .i16 w.heap.size wr.heap.size wr v (M.cutL m l) := by
  obtain ⟨us, h1, h2, h3⟩ := h
  have hlen : us.length = k := by have := h1.1; omega
  have hrow : ∀ i, i < k → ∃ u, us[i]? = some u ∧ Reads .i16 w.heap.size wr.heap.size wr u (M.blk m l i) := by
    intro i hi
    refine ⟨us[i]'(by omega), by simp, ?_⟩
    have ho := (h2 i (us[i]'(by omega)) (by simp)).1
    have hb : (M.blk m l i).length = m := M.blk_length (by
      have : (i + 1) * m ≤ l.length := Nat.le_trans (Nat.mul_le_mul_right m (by omega : i + 1 ≤ l.length / m)) (Nat.div_mul_le_self _ _)
      rw [Nat.add_mul, Nat.one_mul] at this
      exact this)
    have ho' : wr.ownsRow w.heap.size 32 1 (us[i]'(by omega)) (M.blk m l i).length (enc .i16 (M.blk m l i)) := by rw [hb]; exact ho
    exact reads_own ho' (fun z hz => hl z (M.blk_mem hz))
  rcases id h1.2 with ⟨rfl, h0⟩ | ⟨g, cap, cur, rfl, hg, hh, c1, c2, c3, c4⟩
  · exact ⟨none, 0, by rw [M.cutL_length, ← hk, h0], by rw [M.cutL_length, ← hk, h0]; exact Nat.le_refl _, .inl (by unfold M.cutL; rw [← hk, h0]; rfl)⟩
  · refine ⟨_, cap, by rw [M.cutL_length, ← hk], by rw [M.cutL_length, ← hk]; exact c1, .inr ⟨g, 0, rfl, hg, (Array.getElem?_eq_some_iff.1 hh).1, fun i hi => ?_⟩⟩
    rw [M.cutL_length, ← hk] at hi
    obtain ⟨u, hu, hr⟩ := hrow i hi
    refine ⟨u, ?_, by rw [M.cutL_get (by omega)]; exact hr⟩
    have := h1.cells (g := g) rfl i u hu
    rw [add_at] at this
    rw [Nat.zero_add]; exact this

theorem Cut16.step {m k : Nat} {l : List Int} {v v1 v2 : Value} {w wr w1 w2 : World} {us : List Value} (hown : wr.ownsRow w.heap.size 22 1 v k us) (hrows : ∀ i u, us[i]? = some u → wr.ownsRow w.heap.size 32 1 u m (enc .i16 (M.blk m l i)) ∧ u.oneCell' = true) (hbel : Below w.heap.size w wr)
    (hown1 : w1.ownsRow wr.heap.size 32 1 v1 m (enc .i16 (M.blk m l k))) (hg1 : (wr.alloc (.cells #[] 32)).grownBy w1 (some wr.heap.size))
    (hown2 : w2.ownsRow w.heap.size 22 1 v2 (k + 1) (us ++ [v1])) (hg2 : (w1.alloc (.cells #[v1] 22)).grownBy w2 v.ownBlock) (ho : (w1.alloc (.cells #[v1] 22)).ownsRow w.heap.size 22 1 v k us) : Cut16 m (k + 1) l v2 w w2 := by
  have hs := hbel.size
  have hl : us.length = k := by have := hown.1; omega
  obtain ⟨a1, c1, e1⟩ := own_form hown1
  refine ⟨us ++ [v1], hown2, fun i u hu => ?_, ?_⟩
  · rcases Nat.lt_or_ge i k with hi | hi
    · rw [List.getElem?_append_left (by omega)] at hu
      obtain ⟨r0, r1⟩ := hrows i u hu
      have r2 := (r0.alloc (.cells #[] 32)).kept hg1 (by
        cases hb : u.ownBlock with
        | none => exact .inl rfl
        | some g => right; have := (r0.lt g hb).2; simp; omega)
      have r3 := (r2.alloc (.cells #[v1] 22)).kept hg2 (own_apart (r2.alloc _) ho (by decide))
      exact ⟨r3, r1⟩
    · have hik : i = k := by
        have := (List.getElem?_eq_some_iff.1 hu).1
        simp at this; omega
      subst hik
      rw [List.getElem?_append_right (by omega), hl] at hu
      simp at hu
      subst hu
      have r3 := (hown1.alloc (.cells #[v1] 22)).kept hg2 (own_apart (hown1.alloc _) ho (by decide))
      exact ⟨own_mono r3 hs, by rw [e1]; rfl⟩
  · have b1 := (hbel.alloc hs (.cells #[] 32)).grown hg1 (by simp; omega) (fun g hg => by cases hg; exact hs)
    have hs1 := b1.size
    refine (b1.alloc hs1 (.cells #[v1] 22)).grown hg2 (by simp; omega) (fun g hg => (hown.lt g hg).1)

set_option maxRecDepth 100000 in
set_option maxHeartbeats 1000000 in
theorem cut16 (m lo hi : Nat) (l : List Int) (vl : Value) (w : World) (hm : m = 4 ∨ m = 8) (hr : Reads .i16 lo hi w vl l) (h1 : hi ≤ w.heap.size) (hl : l.length ≤ 1000) :
    Calls Tryd.prog 11 #[vl, .int .i64 m] w fun e w' => ∃ v, e = .returned v ∧ Rows .i16 w.heap.size w'.heap.size w' v (M.cutL m l) ∧ Below w.heap.size w w' := by
  obtain ⟨i0, hi0, hz0, hz1, hz2⟩ := info_parts info16
  obtain ⟨j0, hj0, hy0, hy1, hy2⟩ := info_parts infoS16
  obtain ⟨a, c, rfl⟩ := hr.form
  have hc : l.length ≤ c := hr.row.2.1
  have hwf : ∀ z ∈ l, (Lit.int .i16 z).wf = true := by obtain ⟨_, _, _, _, hw, _⟩ := hr; exact hw
  have HW : Hid (∀ z ∈ l, (Lit.int .i16 z).wf = true) := hwf
  have HR : Hid (Reads .i16 lo hi w (.slice a l.length c) l) := hr
  obtain ⟨L, hL⟩ : ∃ L, l.length = L := ⟨_, rfl⟩
  have HL : Hid (l.length = L) := hL
  rw [hL] at hc HR ⊢
  have hl' : (L : Int) ≤ 1000 := by omega
  have m0 : (1 : Int) ≤ m := by omega
  have m1 : (m : Int) ≤ 8 := by omega
  have HM : Hid (0 < m) := by show 0 < m; omega
  clear hr hwf hL hl hm
  go_enter Tryd.func11, Tryd.ntmps11
  go_wp2
  go_loopw [5, 6] (fun v i wr => ∃ k ix : Nat, Hid (ix = k * m) ∧ ix ≤ L ∧ i = .int .i64 ix ∧ Cut16 m k l v w wr) (fun _ i _ => L + 1 - (intOf i).toNat)
  case atStart => exact ⟨0, 0, (Nat.zero_mul m).symm, by omega, rfl, [], World.ownsRow_nil _ _ _ _, fun i u hu => by simp at hu, Below.refl _ _⟩
  case round =>
    obtain ⟨k, ix, hix, hxl, rfl, hC⟩ := hrel
    by_cases hlt : ix + m ≤ L
    · have hlt' : (ix : Int) + (m : Int) ≤ L := by omega
      have hpos : 0 < l.length := by rw [HL.out]; have := HM.out; omega
      have hr2 : Reads .i16 lo hi w (.slice a l.length c) l := by rw [HL.out]; exact HR.out
      obtain ⟨b, off, rfl, hb0, hb1, hcell⟩ := hr2.cell hpos
      have hsl := slice16 b off L c ix m hlt HM.out hc
      obtain ⟨us, hown, hrows, hbel⟩ := id hC
      have hs := hbel.size
      have hcl : ∀ j u, (enc .i16 (M.blk m l k))[j]? = some u → (wr.alloc (.cells #[] 32)).cell? ((⟨b, off + ix, none⟩ : Addr).add j) = some u := by
        intro j u hu
        have hbl : (M.blk m l k).length = m := M.blk_length (by rw [← hix.out, HL.out]; exact hlt)
        have hj : j < m := by have := (List.getElem?_eq_some_iff.1 hu).1; rw [enc_length, hbl] at this; exact this
        rw [enc_get (by omega), M.blk_get hj, ← hix.out] at hu
        cases hu
        rw [add_off, Nat.add_assoc]
        refine Lib.cell?_alloc_some _ ((cell_keep (hbel.block b (by omega))).trans (hcell (ix + j) (by rw [HL.out]; omega)))
      have hlb : (enc .i16 (M.blk m l k)).length = m * 1 := by
        rw [enc_length, M.blk_length (by rw [← hix.out, HL.out]; exact hlt), Nat.mul_one]
      have hmade := World.ownsRow_made (base := wr.heap.size) (e := 32) (size := 1) wr #[] 0 (Nat.le_refl _) (by decide) rfl
      have H1 : Hid _ := hcl
      have H2 : Hid _ := hlb
      have H3 : Hid _ := hrows
      have hnx : Hid (ix + m = (k + 1) * m) := by show ix + m = (k + 1) * m; rw [hix.out, Nat.add_mul, Nat.one_mul]
      have hkL : k ≤ 1000 := by
        have h1 := hix.out
        have h2 := HM.out
        have h3 : k * 1 ≤ k * m := Nat.mul_le_mul_left k h2
        omega
      have hap := own_apart (hown.alloc (.cells #[] 32)) hmade (by decide)
      have HA : Hid _ := hap
      clear hcl hlb hrows hcell hr2 hC hap
      go_wp2_with (first
        | (at_builtin; refine wpList_append_own _ rfl (.tmp 17) (.tmp 23) 22 rfl wr.heap.size 32 i0 (.int .i16 0) 1 2 Tryd.underlying22 hi0 hz0 hz1 hz2 rfl (by decide) _ 0 [] rfl hmade ⟨b, off + ix, none⟩ m (c - ix) (enc .i16 (M.blk m l k)) rfl H2.out H1.out (enc_one _ _) (by unfold maxLen; omega) (by omega) (by simp) ?_; intro v1 w1 hown1 hgrow1 _; have ho := (hown.alloc (.cells #[] 32)).kept hgrow1 HA.out; obtain ⟨a1, c1, e1⟩ := own_form hown1; have hs1 := hgrow1.size; simp only [alloc_len] at hs1; subst e1)
        | (at_builtin; refine wpList_append_own _ rfl (.tmp 16) (.tmp 25) 30 rfl w.heap.size 22 j0 (.slice none 0 0) 1 24 Tryd.underlying30 hj0 hy0 hy1 hy2 rfl (by decide) _ k us rfl (ho.alloc _) ⟨w1.heap.size, 0, none⟩ 1 1 [.slice a1 (0 + m) c1] rfl rfl ?c1 ?c2 ?c3 ?c4 ?c5 ?_))
      case c1 =>
        intro j u hj
        match j, hj with
        | 0, hj => simp at hj; subst hj; simp [Addr.add]
      case c2 => intro u hu; simp at hu; subst hu; rfl
      case c3 => unfold maxLen; omega
      case c4 => omega
      case c5 => simp; omega
      · intro v2 w2 hown2 hgrow2 _
        have R : Cut16 m (k + 1) l v2 w w2 := Cut16.step hown H3.out hbel (by simpa using hown1) hgrow1 hown2 (by simpa using hgrow2) (by simpa using ho.alloc (.cells #[.slice a1 (0 + m) c1] 22))
        clear hown2 hgrow2 hown hown1 hgrow1 ho
        go_wp2
        go_roundw
        case rel => exact ⟨k + 1, ix + m, hnx, by omega, by go_num, R⟩
        case measure => simp [intOf]; omega
    · have hlt' : ¬ (ix : Int) + (m : Int) ≤ L := by omega
      have hk : k = l.length / m := by
        rw [HL.out]
        have h1 := hix.out
        have h2 := HM.out
        refine (Nat.div_eq_of_lt_le ?_ ?_).symm
        · rw [← h1]; exact hxl
        · rw [Nat.add_mul, Nat.one_mul, ← h1]; omega
      have hR := hC.rows hk HM.out HW.out
      have HR2 : Hid (Rows _ _ _ _ _ _) := hR
      have HB : Hid (Below w.heap.size w wr) := by obtain ⟨_, _, _, h⟩ := hC; exact h
      clear hR hC hk
      go_wp2
      go_ret
      exact ⟨_, rfl, HR2.out, HB.out⟩

/-- 'l[i:i+m]' -/
theorem slice32 (b off L c i m : Nat) (hi : i + m ≤ L) (hm : 0 < m) (hc : L ≤ c) (wx : World) : (Instr.slice 33 (.slice (some ⟨b, off, none⟩) L c) (some (.int .i64 (i : Int))) (some (.int .i64 ((i : Int) + (m : Int)))) none).run Tryd.prog wx = .ok (.slice (some ⟨b, off + i, none⟩) m (c - i)) wx := by
  rw [run_slice_lh (P := Tryd.prog) wx 33 _ L c (by rw [elem32]; exact Tryd.underlying33) .i64 .i64 i (i + m) (by omega) (by omega) (by omega), elem32, size32]
  show Result.ok (Go.sliced _ (i : Int).toNat ((i : Int) + (m : Int)).toNat c 1) wx = _
  unfold Go.sliced
  rw [if_neg (by omega), show ((i : Int) + (m : Int)).toNat = i + m from by omega, show (i : Int).toNat = i from by omega]
  simp [add_off]
/-- between the rounds of 'cut': the first k blocks are gathered -/
def Cut32 (m k : Nat) (l : List Int) (v : Value) (w wr : World) : Prop :=
  ∃ us : List Value, wr.ownsRow w.heap.size 33 1 v k us ∧ (∀ i u, us[i]? = some u → wr.ownsRow w.heap.size 21 1 u m (enc .i32 (M.blk m l i)) ∧ u.oneCell' = true) ∧ Below w.heap.size w wr
theorem Cut32.rows {m k : Nat} {l : List Int} {v : Value} {w wr : World} (h : Cut32 m k l v w wr) (hk : k = l.length / m) (hm : 0 < m) (hl : ∀ z ∈ l, (Lit.int .i32 z).wf = true) : Rows .i32 w.heap.size wr.heap.size wr v (M.cutL m l) := by
  obtain ⟨us, h1, h2, h3⟩ := h
  have hlen : us.length = k := by have := h1.1; omega
  have hrow : ∀ i, i < k → ∃ u, us[i]? = some u ∧ Reads .i32 w.heap.size wr.heap.size wr u (M.blk m l i) := by
    intro i hi
    refine ⟨us[i]'(by omega), by simp, ?_⟩
    have ho := (h2 i (us[i]'(by omega)) (by simp)).1
    have hb : (M.blk m l i).length = m := M.blk_length (by
      have : (i + 1) * m ≤ l.length := Nat.le_trans (Nat.mul_le_mul_right m (by omega : i + 1 ≤ l.length / m)) (Nat.div_mul_le_self _ _)
      rw [Nat.add_mul, Nat.one_mul] at this
      exact this)
    have ho' : wr.ownsRow w.heap.size 21 1 (us[i]'(by omega)) (M.blk m l i).length (enc .i32 (M.blk m l i)) := by rw [hb]; exact ho
    exact reads_own ho' (fun z hz => hl z (M.blk_mem hz))
  rcases id h1.2 with ⟨rfl, h0⟩ | ⟨g, cap, cur, rfl, hg, hh, c1, c2, c3, c4⟩
  · exact ⟨none, 0, by rw [M.cutL_length, ← hk, h0], by rw [M.cutL_length, ← hk, h0]; exact Nat.le_refl _, .inl (by unfold M.cutL; rw [← hk, h0]; rfl)⟩
  · refine ⟨_, cap, by rw [M.cutL_length, ← hk], by rw [M.cutL_length, ← hk]; exact c1, .inr ⟨g, 0, rfl, hg, (Array.getElem?_eq_some_iff.1 hh).1, fun i hi => ?_⟩⟩
    rw [M.cutL_length, ← hk] at hi
    obtain ⟨u, hu, hr⟩ := hrow i hi
    refine ⟨u, ?_, by rw [M.cutL_get (by omega)]; exact hr⟩
    have := h1.cells (g := g) rfl i u hu
    rw [add_at] at this
    rw [Nat.zero_add]; exact this

theorem Cut32.step {m k : Nat} {l : List Int} {v v1 v2 : Value} {w wr w1 w2 : World} {us : List Value} (hown : wr.ownsRow w.heap.size 33 1 v k us) (hrows : ∀ i u, us[i]? = some u → wr.ownsRow w.heap.size 21 1 u m (enc .i32 (M.blk m l i)) ∧ u.oneCell' = true) (hbel : Below w.heap.size w wr)
    (hown1 : w1.ownsRow wr.heap.size 21 1 v1 m (enc .i32 (M.blk m l k))) (hg1 : (wr.alloc (.cells #[] 21)).grownBy w1 (some wr.heap.size))
    (hown2 : w2.ownsRow w.heap.size 33 1 v2 (k + 1) (us ++ [v1])) (hg2 : (w1.alloc (.cells #[v1] 33)).grownBy w2 v.ownBlock) (ho : (w1.alloc (.cells #[v1] 33)).ownsRow w.heap.size 33 1 v k us) : Cut32 m (k + 1) l v2 w w2 := by
  have hs := hbel.size
  have hl : us.length = k := by have := hown.1; omega
  obtain ⟨a1, c1, e1⟩ := own_form hown1
  refine ⟨us ++ [v1], hown2, fun i u hu => ?_, ?_⟩
  · rcases Nat.lt_or_ge i k with hi | hi
    · rw [List.getElem?_append_left (by omega)] at hu
      obtain ⟨r0, r1⟩ := hrows i u hu
      have r2 := (r0.alloc (.cells #[] 21)).kept hg1 (by
        cases hb : u.ownBlock with
        | none => exact .inl rfl
        | some g => right; have := (r0.lt g hb).2; simp; omega)
      have r3 := (r2.alloc (.cells #[v1] 33)).kept hg2 (own_apart (r2.alloc _) ho (by decide))
      exact ⟨r3, r1⟩
    · have hik : i = k := by
        have := (List.getElem?_eq_some_iff.1 hu).1
        simp at this; omega
      subst hik
      rw [List.getElem?_append_right (by omega), hl] at hu
      simp at hu
      subst hu
      have r3 := (hown1.alloc (.cells #[v1] 33)).kept hg2 (own_apart (hown1.alloc _) ho (by decide))
      exact ⟨own_mono r3 hs, by rw [e1]; rfl⟩
  · have b1 := (hbel.alloc hs (.cells #[] 21)).grown hg1 (by simp; omega) (fun g hg => by cases hg; exact hs)
    have hs1 := b1.size
    refine (b1.alloc hs1 (.cells #[v1] 33)).grown hg2 (by simp; omega) (fun g hg => (hown.lt g hg).1)

set_option maxRecDepth 100000 in
set_option maxHeartbeats 1000000 in
theorem cut32 (m lo hi : Nat) (l : List Int) (vl : Value) (w : World) (hm : m = 4 ∨ m = 8) (hr : Reads .i32 lo hi w vl l) (h1 : hi ≤ w.heap.size) (hl : l.length ≤ 1000) :
    Calls Tryd.prog 16 #[vl, .int .i64 m] w fun e w' => ∃ v, e = .returned v ∧ Rows .i32 w.heap.size w'.heap.size w' v (M.cutL m l) ∧ Below w.heap.size w w' := by
  obtain ⟨i0, hi0, hz0, hz1, hz2⟩ := info_parts info32
  obtain ⟨j0, hj0, hy0, hy1, hy2⟩ := info_parts infoS32
  obtain ⟨a, c, rfl⟩ := hr.form
  have hc : l.length ≤ c := hr.row.2.1
  have hwf : ∀ z ∈ l, (Lit.int .i32 z).wf = true := by obtain ⟨_, _, _, _, hw, _⟩ := hr; exact hw
  have HW : Hid (∀ z ∈ l, (Lit.int .i32 z).wf = true) := hwf
  have HR : Hid (Reads .i32 lo hi w (.slice a l.length c) l) := hr
  obtain ⟨L, hL⟩ : ∃ L, l.length = L := ⟨_, rfl⟩
  have HL : Hid (l.length = L) := hL
  rw [hL] at hc HR ⊢
  have hl' : (L : Int) ≤ 1000 := by omega
  have m0 : (1 : Int) ≤ m := by omega
  have m1 : (m : Int) ≤ 8 := by omega
  have HM : Hid (0 < m) := by show 0 < m; omega
  clear hr hwf hL hl hm
  go_enter Tryd.func16, Tryd.ntmps16
  go_wp2
  go_loopw [5, 6] (fun v i wr => ∃ k ix : Nat, Hid (ix = k * m) ∧ ix ≤ L ∧ i = .int .i64 ix ∧ Cut32 m k l v w wr) (fun _ i _ => L + 1 - (intOf i).toNat)
  case atStart => exact ⟨0, 0, (Nat.zero_mul m).symm, by omega, rfl, [], World.ownsRow_nil _ _ _ _, fun i u hu => by simp at hu, Below.refl _ _⟩
  case round =>
    obtain ⟨k, ix, hix, hxl, rfl, hC⟩ := hrel
    by_cases hlt : ix + m ≤ L
    · have hlt' : (ix : Int) + (m : Int) ≤ L := by omega
      have hpos : 0 < l.length := by rw [HL.out]; have := HM.out; omega
      have hr2 : Reads .i32 lo hi w (.slice a l.length c) l := by rw [HL.out]; exact HR.out
      obtain ⟨b, off, rfl, hb0, hb1, hcell⟩ := hr2.cell hpos
      have hsl := slice32 b off L c ix m hlt HM.out hc
      obtain ⟨us, hown, hrows, hbel⟩ := id hC
      have hs := hbel.size
      have hcl : ∀ j u, (enc .i32 (M.blk m l k))[j]? = some u → (wr.alloc (.cells #[] 21)).cell? ((⟨b, off + ix, none⟩ : Addr).add j) = some u := by
        intro j u hu
        have hbl : (M.blk m l k).length = m := M.blk_length (by rw [← hix.out, HL.out]; exact hlt)
        have hj : j < m := by have := (List.getElem?_eq_some_iff.1 hu).1; rw [enc_length, hbl] at this; exact this
        rw [enc_get (by omega), M.blk_get hj, ← hix.out] at hu
        cases hu
        rw [add_off, Nat.add_assoc]
        refine Lib.cell?_alloc_some _ ((cell_keep (hbel.block b (by omega))).trans (hcell (ix + j) (by rw [HL.out]; omega)))
      have hlb : (enc .i32 (M.blk m l k)).length = m * 1 := by
        rw [enc_length, M.blk_length (by rw [← hix.out, HL.out]; exact hlt), Nat.mul_one]
      have hmade := World.ownsRow_made (base := wr.heap.size) (e := 21) (size := 1) wr #[] 0 (Nat.le_refl _) (by decide) rfl
      have H1 : Hid _ := hcl
      have H2 : Hid _ := hlb
      have H3 : Hid _ := hrows
      have hnx : Hid (ix + m = (k + 1) * m) := by show ix + m = (k + 1) * m; rw [hix.out, Nat.add_mul, Nat.one_mul]
      have hkL : k ≤ 1000 := by
        have h1 := hix.out
        have h2 := HM.out
        have h3 : k * 1 ≤ k * m := Nat.mul_le_mul_left k h2
        omega
      have hap := own_apart (hown.alloc (.cells #[] 21)) hmade (by decide)
      have HA : Hid _ := hap
      clear hcl hlb hrows hcell hr2 hC hap
      go_wp2_with (first
        | (at_builtin; refine wpList_append_own _ rfl (.tmp 17) (.tmp 23) 33 rfl wr.heap.size 21 i0 (.int .i32 0) 1 4 Tryd.underlying33 hi0 hz0 hz1 hz2 rfl (by decide) _ 0 [] rfl hmade ⟨b, off + ix, none⟩ m (c - ix) (enc .i32 (M.blk m l k)) rfl H2.out H1.out (enc_one _ _) (by unfold maxLen; omega) (by omega) (by simp) ?_; intro v1 w1 hown1 hgrow1 _; have ho := (hown.alloc (.cells #[] 21)).kept hgrow1 HA.out; obtain ⟨a1, c1, e1⟩ := own_form hown1; have hs1 := hgrow1.size; simp only [alloc_len] at hs1; subst e1)
        | (at_builtin; refine wpList_append_own _ rfl (.tmp 16) (.tmp 25) 42 rfl w.heap.size 33 j0 (.slice none 0 0) 1 24 Tryd.underlying42 hj0 hy0 hy1 hy2 rfl (by decide) _ k us rfl (ho.alloc _) ⟨w1.heap.size, 0, none⟩ 1 1 [.slice a1 (0 + m) c1] rfl rfl ?c1 ?c2 ?c3 ?c4 ?c5 ?_))
      case c1 =>
        intro j u hj
        match j, hj with
        | 0, hj => simp at hj; subst hj; simp [Addr.add]
      case c2 => intro u hu; simp at hu; subst hu; rfl
      case c3 => unfold maxLen; omega
      case c4 => omega
      case c5 => simp; omega
      · intro v2 w2 hown2 hgrow2 _
        have R : Cut32 m (k + 1) l v2 w w2 := Cut32.step hown H3.out hbel (by simpa using hown1) hgrow1 hown2 (by simpa using hgrow2) (by simpa using ho.alloc (.cells #[.slice a1 (0 + m) c1] 33))
        clear hown2 hgrow2 hown hown1 hgrow1 ho
        go_wp2
        go_roundw
        case rel => exact ⟨k + 1, ix + m, hnx, by omega, by go_num, R⟩
        case measure => simp [intOf]; omega
    · have hlt' : ¬ (ix : Int) + (m : Int) ≤ L := by omega
      have hk : k = l.length / m := by
        rw [HL.out]
        have h1 := hix.out
        have h2 := HM.out
        refine (Nat.div_eq_of_lt_le ?_ ?_).symm
        · rw [← h1]; exact hxl
        · rw [Nat.add_mul, Nat.one_mul, ← h1]; omega
      have hR := hC.rows hk HM.out HW.out
      have HR2 : Hid (Rows _ _ _ _ _ _) := hR
      have HB : Hid (Below w.heap.size w wr) := by obtain ⟨_, _, _, h⟩ := hC; exact h
      clear hR hC hk
      go_wp2
      go_ret
      exact ⟨_, rfl, HR2.out, HB.out⟩

end Poly
end Go.Proofs.YtkmkackifihhjaaDoor
