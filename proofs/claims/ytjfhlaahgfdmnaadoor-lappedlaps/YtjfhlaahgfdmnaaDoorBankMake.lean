/-
  How the bank makes a table. Conditions: the polynomial's numbers stand as their initialiser lays them; one goroutine.
-/
import Derived.Test.YtjfhlaahgfdmnaaDoorBankMem
import Derived.BigRegion
import Derived.Deep.RegionWith
namespace Go.Proofs.YtjfhlaahgfdmnaaDoor
open Go.RowKit
namespace Bank

theorem set_get {cur : Array Value} {o : Nat} (v : Value) (h : o < cur.size) : (cur.setIfInBounds o v)[o]? = some v := by simp [h]
theorem set_get_ne {cur : Array Value} {o p : Nat} (v : Value) (h : p ≠ o) : (cur.setIfInBounds o v)[p]? = cur[p]? := by
  rw [Array.getElem?_setIfInBounds, if_neg (by omega)]

theorem add_any (b o : Nat) (x s : Int) (w : World) (hc : w.cell? ⟨b, o, none⟩ = some (.int .i64 x)) (hz : w.frozen? ⟨b, o, none⟩ = false) (hs : x + 1 = s) (h0 : 0 ≤ x) (h1 : x ≤ 1000000) :
    Calls Tryd.prog 55 #[.pointer (some ⟨b, o, none⟩), .int .i64 1] w fun e w' => e = .returned (.int .i64 s) ∧ w' = w.setCell ⟨b, o, none⟩ (.int .i64 s) := by
  have hadd := run_call_add (P := Tryd.prog) Tryd.func66 (by kernel_rfl) (by kernel_rfl) (by kernel_rfl) .i64 (by kernel_rfl) (y := 1) (s := s) hc hz (by
    subst hs
    simp [go_sem]
    rw [IntKind.wrap_i64]; omega)
  go_enter Tryd.func55, Tryd.ntmps55
  go_wp2
  go_ret
  exact ⟨rfl, rfl⟩

/-- between the rounds: the bank's block is as it was but for the new list's slot; of the list the first k numbers stand -/
def Part (b : Nat) (cur : Array Value) (κ n k : Nat) (w wr : World) : Prop :=
  But b w wr ∧ wr.heap.size = w.heap.size + 1 ∧ Blk wr b cur 79 ∧ ∃ tab : Array Value, Blk wr w.heap.size tab 56 ∧ tab.size = M.ts κ n ∧ ∀ j, j < k → tab[j]? = some (.int .i16 (M.tv κ (n : Int) (j : Int)))
theorem Part.drewN {b : Nat} {cur : Array Value} {κ n k : Nat} {w wr : World} (h : Part b cur κ n k w wr) (m : Nat) : Part b cur κ n k w (wr.drewN m) := ⟨h.1.drewN m, h.2⟩
theorem Part.drew {b : Nat} {cur : Array Value} {κ n k : Nat} {w wr : World} (h : Part b cur κ n k w wr) : Part b cur κ n k w wr.drew := ⟨h.1.drew, h.2⟩
theorem Part.step {b : Nat} {cur : Array Value} {κ n k : Nat} {w wr : World} (h : Part b cur κ n k w wr) (hb : b < w.heap.size) (hk : k < M.ts κ n) :
    Part b cur κ n (k + 1) w (wr.setCell ⟨w.heap.size, k, none⟩ (.int .i16 (M.tv κ (n : Int) (k : Int)))) := by
  obtain ⟨h1, h2, h3, tab, h4, h5, h6⟩ := h
  refine ⟨h1.set (.inr (Nat.le_refl _)) _, by simpa [World.setCell] using h2, h3.set_ne (by show b ≠ w.heap.size; omega) _, _, h4.set _ _, by simpa using h5, ?_⟩
  intro j hj
  rw [Array.getElem?_setIfInBounds]
  split
  · rename_i e; subst e; rw [if_pos (by omega)]
  · exact h6 j (by omega)
theorem Part.whole {b : Nat} {cur : Array Value} {κ n : Nat} {w wr : World} (h : Part b cur κ n (M.ts κ n) w wr) : Blk wr w.heap.size (M.tabl κ n).toArray 56 := by
  obtain ⟨_, _, _, tab, h4, h5, h6⟩ := h
  have e : tab = (M.tabl κ n).toArray := by
    apply Array.ext'
    apply List.ext_getElem?
    intro j
    by_cases hj : j < M.ts κ n
    · rw [M.tabl_get hj, ← h6 j hj]; simp
    · rw [List.getElem?_eq_none (by simp; omega), List.getElem?_eq_none (by rw [M.tabl_length]; omega)]
  rw [← e]
  exact h4

/-- the bank's block when a table has just been made -/
def made (cur : Array Value) (off g sz : Nat) (mm : Int) : Array Value := (cur.setIfInBounds (off + 3) (.slice (some ⟨g, 0, none⟩) sz sz)).setIfInBounds 1544 (.int .i64 mm)

set_option maxRecDepth 100000 in
set_option maxHeartbeats 3200000 in
theorem make_any (κ n b off ps pt pf pb pn : Nat) (cur : Array Value) (mm : Int) (w : World) (hok : M.okT κ n) (hT : Wave.Tab w)
    (hb : Blk w b cur 79) (hoff : off + 3 < 1544) (hcur : cur.size = 1546) (hmm : cur[1544]? = some (.int .i64 mm)) (m0 : 0 ≤ mm) (m1 : mm ≤ 1000000)
    (hs : Blk w ps #[.int .i64 (M.ts κ n : Nat)] 3) (ht : Blk w pt #[.pointer (some ⟨b, off, none⟩)] 101)
    (hf : Blk w pf #[.func (.func (fn κ)) #[] #[.pointer (some ⟨pn, 0, none⟩)]] 99) (hp : Blk w pb #[.pointer (some ⟨b, 0, none⟩)] 27) (hn : Blk w pn #[.int .i64 n] 3) :
    Calls Tryd.prog 54 #[.pointer (some ⟨ps, 0, none⟩), .pointer (some ⟨pt, 0, none⟩), .pointer (some ⟨pf, 0, none⟩), .pointer (some ⟨pb, 0, none⟩)] w fun e w' =>
      e = .returned (.tuple #[]) ∧ (But b w w' ∧ w'.heap.size = w.heap.size + 1 ∧ Blk w' b (made cur off w.heap.size (M.ts κ n) (mm + 1)) 79 ∧ Blk w' w.heap.size (M.tabl κ n).toArray 56) := by
  obtain ⟨z0, z1⟩ := M.ts_bd hok
  generalize hsz : M.ts κ n = sz at *
  obtain ⟨cs, hcs, hmk⟩ := Wave.run_made w.drew sz (by omega)
  have hlb := hb.lt
  have ns : ps ≠ b := hs.ne hb (by decide)
  have nt : pt ≠ b := ht.ne hb (by decide)
  have nf : pf ≠ b := hf.ne hb (by decide)
  have np : pb ≠ b := hp.ne hb (by decide)
  have nn : pn ≠ b := hn.ne hb (by decide)
  have nT := tab_ne hT hb (by omega)
  -- the first region: the list is made and stored
  have cs0 : w.cell? ⟨ps, 0, none⟩ = some (.int .i64 (sz : Int)) := hs.cell (o := 0) rfl
  have ct0 : w.cell? ⟨pt, 0, none⟩ = some (.pointer (some ⟨b, off, none⟩)) := ht.cell (o := 0) rfl
  have cs1 : (w.alloc (.cells cs 56)).cell? ⟨ps, 0, none⟩ = some (.int .i64 (sz : Int)) := (hs.alloc _).cell (o := 0) rfl
  have ct1 : (w.alloc (.cells cs 56)).cell? ⟨pt, 0, none⟩ = some (.pointer (some ⟨b, off, none⟩)) := (ht.alloc _).cell (o := 0) rfl
  obtain ⟨v3, hv3⟩ : ∃ v, cur[off + 3]? = some v := ⟨cur[off + 3]'(by omega), by simp⟩
  have cb1 : (w.alloc (.cells cs 56)).cell? ⟨b, off + 3, none⟩ = some v3 := (hb.alloc _).cell hv3
  have fb1 : (w.alloc (.cells cs 56)).frozen? ⟨b, off + 3, none⟩ = false := (hb.alloc _).free _
  obtain ⟨W, hW⟩ : ∃ W, W = w.setCell ⟨b, off + 3, none⟩ (.slice (some ⟨w.heap.size, 0, none⟩) sz sz) := ⟨_, rfl⟩
  have hWs : W.heap.size = w.heap.size := by rw [hW]; simp [World.setCell]
  have hst : Part b (cur.setIfInBounds (off + 3) (.slice (some ⟨w.heap.size, 0, none⟩) sz sz)) κ n 0 w (W.alloc (.cells cs 56)) := by
    refine ⟨?_, by simp [hWs], ?_, cs, ?_, by rw [hcs, hsz], fun j hj => absurd hj (by omega)⟩
    · rw [hW]; exact ((But.refl b w).set (.inl rfl) _).alloc _
    · rw [hW]; exact (hb.set _ _).alloc _
    · rw [← hWs]; exact Blk.new W cs _
  have ct2 : (W.alloc (.cells cs 56)).cell? ⟨pt, 0, none⟩ = some (.pointer (some ⟨b, off, none⟩)) := (hst.1.blk ht nt).cell (o := 0) rfl
  have cb2 : (W.alloc (.cells cs 56)).cell? ⟨b, off + 3, none⟩ = some (.slice (some ⟨w.heap.size, 0, none⟩) sz sz) := hst.2.2.1.cell (set_get _ (by omega))
  rw [hW] at ct2 cb2 hst
  clear hWs hW W
  have hnum : ∀ (wx : World) (i : Nat), Wave.Tab wx → wx.cell? ⟨pn, 0, none⟩ = some (.int .i64 n) → i < sz →
      Calls Tryd.prog (fn κ) #[.int .i64 (i : Int), .pointer (some ⟨pn, 0, none⟩)] wx fun e w' => e = .returned (.int .i16 (M.tv κ n i)) ∧ ∃ m, w' = wx.drewN m :=
    fun wx i h1 h2 h3 => number_any κ n i pn wx hok h1 h2 (by omega)
  have hK : fn κ = 57 ∨ (fn κ = 40 ∧ True) ∨ (fn κ = 0 ∧ False) := by
    rcases hok with ⟨rfl, _⟩ | ⟨rfl, hS⟩ | ⟨rfl, hS⟩
    · exact .inl rfl
    · exact .inr (.inl ⟨rfl, by first | trivial | (exfalso; omega)⟩)
    · exact .inr (.inr ⟨rfl, by first | trivial | (exfalso; omega)⟩)
  generalize fn κ = K at hnum hK hf
  clear hs hcs
  have hlp : w.heap.size ≠ b := by omega
  go_enter Tryd.func54, Tryd.ntmps54
  go_wp2
  go_region
  go_wp2
  go_loopw [15] (fun i wr => ∃ k : Nat, k ≤ sz ∧ i = .int .i64 k ∧ Part b (cur.setIfInBounds (off + 3) (.slice (some ⟨w.heap.size, 0, none⟩) sz sz)) κ n k w wr) (fun i _ => sz - (intOf i).toNat)
  case atStart => exact ⟨0, by omega, rfl, hst.drew⟩
  case round =>
    clear hmk cs0 ct0 cs1 ct1 cb1 fb1 ct2 cb2 hst
    obtain ⟨k, hk, rfl, hpart⟩ := hrel
    have qt := (hpart.1.blk ht nt).cell (o := 0) rfl
    have qf := (hpart.1.blk hf nf).cell (o := 0) rfl
    have qp := (hpart.1.blk hp np).cell (o := 0) rfl
    have qn := (hpart.1.blk hn nn).cell (o := 0) rfl
    have qT := hpart.1.tab hT nT
    simp only [List.getElem_toArray, List.getElem_cons_zero] at qt qf qp qn
    obtain ⟨_, hsize, hblk, tab, htab, htsz, htv⟩ := id hpart
    have qb : wr.cell? ⟨b, off + 3, none⟩ = some (.slice (some ⟨w.heap.size, 0, none⟩) sz sz) := hblk.cell (set_get _ (by omega))
    have qm : wr.cell? ⟨b, 1544, none⟩ = some (.int .i64 mm) := hblk.cell ((set_get_ne _ (by omega)).trans hmm)
    have qmf := hblk.free 1544
    by_cases hlt : k < sz
    · obtain ⟨u, hu⟩ : ∃ u, wr.cell? ⟨w.heap.size, k, none⟩ = some u := ⟨tab[k]'(by omega), htab.cell (by simp)⟩
      have huf := htab.free k
      have hlt' : (k : Int) < sz := by omega
      have hcall := hnum wr.drew k qT qn hlt
      clear hblk htab htsz htv hnum
      rcases hK with rfl | ⟨rfl, hS⟩ | ⟨rfl, hS⟩
      · go_wp2
        go_region_with (go_at_call 57; refine hcall.mono ?_; rintro e w' ⟨rfl, m, rfl⟩)
        all_goals
          go_wp2
          go_roundw
          case rel => exact ⟨k + 1, by omega, by go_num, (hpart.drewN _).step hlb (by omega)⟩
          case measure => simp [intOf]; omega
      · first
        | exact False.elim hS
        | (go_wp2
           go_region_with (go_at_call 40; refine hcall.mono ?_; rintro e w' ⟨rfl, m, rfl⟩)
           all_goals
             go_wp2
             go_roundw
             case rel => exact ⟨k + 1, by omega, by go_num, (hpart.drewN _).step hlb (by omega)⟩
             case measure => simp [intOf]; omega)
      · first
        | exact False.elim hS
        | (go_wp2
           go_region_with (go_at_call 0; refine hcall.mono ?_; rintro e w' ⟨rfl, m, rfl⟩)
           all_goals
             go_wp2
             go_roundw
             case rel => exact ⟨k + 1, by omega, by go_num, (hpart.drewN _).step hlb (by omega)⟩
             case measure => simp [intOf]; omega)
    · obtain rfl : k = sz := by omega
      have hwh := (hsz ▸ hpart : Part b (cur.setIfInBounds (off + 3) (.slice (some ⟨w.heap.size, 0, none⟩) (M.ts κ n) (M.ts κ n))) κ n (M.ts κ n) w wr).whole
      go_wp2_with (go_at_call 55; refine (add_any b 1544 mm (mm + 1) _ qm qmf rfl m0 m1).mono ?_; rintro e w' ⟨rfl, rfl⟩)
      go_end0
      refine ⟨rfl, hpart.1.set (.inl rfl) _, by simpa [World.setCell] using hsize, hblk.set _ _, hwh.set_ne (by show w.heap.size ≠ b; omega) _⟩

end Bank
end Go.Proofs.YtjfhlaahgfdmnaaDoor
