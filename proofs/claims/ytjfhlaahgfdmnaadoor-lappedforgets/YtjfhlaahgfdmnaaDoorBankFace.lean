/-
  What a bank answers: contracts of its methods. Conditions: the polynomial's numbers stand as their initialiser lays them; one goroutine.
-/
import Derived.Test.YtjfhlaahgfdmnaaDoorBankTell
namespace Go.Proofs.YtjfhlaahgfdmnaaDoor
open Go.RowKit
namespace Bank

theorem Bank.told {b : Nat} {D : List (Nat × Nat)} {t : Int} {N : Nat} {w : World} (h : Bank b D t N w) (t' : Int) : Bank b D t' N (w.setCell ⟨b, 1545, none⟩ (.int .i64 t')) := by
  obtain ⟨h1, h2, cur, h3, h4, h5, h6, h7⟩ := h
  refine ⟨h1, by simpa [World.setCell] using h2, _, h3.set _ _, by simpa using h4, (set_get_ne _ (by omega)).trans h5, set_get _ (by omega), fun κ n hok => ?_⟩
  have hj := M.tj_lt hok
  rw [set_get_ne _ (by omega), set_get_ne _ (by omega), set_get_ne _ (by omega)]
  refine ⟨(h7 κ n hok).1, fun hd => ?_⟩
  obtain ⟨k1, g, k2, k3, k4, k5⟩ := (h7 κ n hok).2 hd
  exact ⟨k1, g, k2, k3, k4, k5.set_ne k3 _⟩

theorem mid {κ n b off s : Nat} {D : List (Nat × Nat)} {t : Int} {N5 : Nat} {W w5 : World} (hok : M.okT κ n) (ho : off = 4 * M.tj κ n) (bt : But b W w5) (hB5 : Bank b (ins D κ n) t N5 w5) (hb : b ≠ s ∧ b ≠ s + 1)
    (q0 : Blk W s #[.pointer (some ⟨b, 0, none⟩)] 27) (q1 : Blk W (s + 1) #[.pointer (some ⟨b, off, none⟩)] 101) :
    ∃ g, w5.cell? ⟨s, 0, none⟩ = some (.pointer (some ⟨b, 0, none⟩)) ∧ w5.cell? ⟨s + 1, 0, none⟩ = some (.pointer (some ⟨b, off, none⟩)) ∧ w5.cell? ⟨b, 1545, none⟩ = some (.int .i64 t) ∧ w5.frozen? ⟨b, 1545, none⟩ = false ∧
      (w5.setCell ⟨b, 1545, none⟩ (.int .i64 (t + 1))).cell? ⟨s + 1, 0, none⟩ = some (.pointer (some ⟨b, off, none⟩)) ∧
      (w5.setCell ⟨b, 1545, none⟩ (.int .i64 (t + 1))).cell? ⟨b, off + 3, none⟩ = some (.slice (some ⟨g, 0, none⟩) (M.ts κ n) (M.ts κ n)) ∧
      Blk (w5.setCell ⟨b, 1545, none⟩ (.int .i64 (t + 1))) g (M.tabl κ n).toArray 56 ∧ Bank b (ins D κ n) (t + 1) N5 (w5.setCell ⟨b, 1545, none⟩ (.int .i64 (t + 1))) ∧
      But b W (w5.setCell ⟨b, 1545, none⟩ (.int .i64 (t + 1))) := by
  have hB6 := hB5.told (t + 1)
  have bt6 := bt.set (a := ⟨b, 1545, none⟩) (.inl rfl) (.int .i64 (t + 1))
  obtain ⟨_, _, cur, h3, _, _, h6, _⟩ := hB5
  obtain ⟨_, _, cur6, k3, _, _, _, k7⟩ := id hB6
  obtain ⟨_, g, r1, r2, r3, r4⟩ := (k7 κ n hok).2 (mem_ins D κ n)
  rw [← ho] at r1
  exact ⟨g, (bt.blk q0 hb.1.symm).cell (o := 0) rfl, (bt.blk q1 hb.2.symm).cell (o := 0) rfl, h3.cell h6, h3.free _, (bt6.blk q1 hb.2.symm).cell (o := 0) rfl, k3.cell r1, r4, hB6, bt6⟩

/-- what a question that is met leaves: v the table's list, in memory from X on -/
def Told (b κ n : Nat) (D : List (Nat × Nat)) (t : Int) (v : Value) (w w' : World) : Prop :=
  ∃ X, w'.ownsRow X 56 1 v (M.ts κ n) (M.tabl κ n) ∧ w.heap.size ≤ X ∧ Bank b (ins D κ n) (t + 1) X w' ∧ But b w w'

set_option maxRecDepth 100000 in
set_option maxHeartbeats 800000 in
theorem tell_walk (b off sz : Nat) (ff : Fn) (cc : Array Value) (t : Int) (zs : List Value) (R : World → Prop) (w : World) (t0 : 0 ≤ t) (t1 : t ≤ 1000000) (hz : zs.length = sz) (z0 : 1 ≤ sz) (z1 : sz ≤ 65536) (h1 : ∀ u ∈ zs, u.oneCell' = true)
    (honce : Calls Tryd.prog 53 #[.pointer (some ⟨b, off, none⟩), .func (.func 54) #[] #[.pointer (some ⟨w.heap.size + 2, 0, none⟩), .pointer (some ⟨w.heap.size + 1, 0, none⟩), .pointer (some ⟨w.heap.size + 3, 0, none⟩), .pointer (some ⟨w.heap.size, 0, none⟩)]]
      ((((w.alloc (.cells #[.pointer (some ⟨b, 0, none⟩)] 27)).alloc (.cells #[.pointer (some ⟨b, off, none⟩)] 101)).alloc (.cells #[.int .i64 sz] 3)).alloc (.cells #[.func ff #[] cc] 99))
      fun e w' => e = .returned (.tuple #[]) ∧ R w')
    (hmid : ∀ w5, R w5 → ∃ g, w5.cell? ⟨w.heap.size, 0, none⟩ = some (.pointer (some ⟨b, 0, none⟩)) ∧ w5.cell? ⟨w.heap.size + 1, 0, none⟩ = some (.pointer (some ⟨b, off, none⟩)) ∧ w5.cell? ⟨b, 1545, none⟩ = some (.int .i64 t) ∧ w5.frozen? ⟨b, 1545, none⟩ = false ∧
      (w5.setCell ⟨b, 1545, none⟩ (.int .i64 (t + 1))).cell? ⟨w.heap.size + 1, 0, none⟩ = some (.pointer (some ⟨b, off, none⟩)) ∧
      (w5.setCell ⟨b, 1545, none⟩ (.int .i64 (t + 1))).cell? ⟨b, off + 3, none⟩ = some (.slice (some ⟨g, 0, none⟩) sz sz) ∧ Blk (w5.setCell ⟨b, 1545, none⟩ (.int .i64 (t + 1))) g zs.toArray 56) :
    Calls Tryd.prog 42 #[.pointer (some ⟨b, 0, none⟩), .pointer (some ⟨b, off, none⟩), .int .i64 sz, .func ff #[] cc] w
      fun e w' => ∃ v, e = .returned v ∧ ∃ w5, R w5 ∧ w'.ownsRow (w5.setCell ⟨b, 1545, none⟩ (.int .i64 (t + 1))).heap.size 56 1 v sz zs ∧ Below (w5.setCell ⟨b, 1545, none⟩ (.int .i64 (t + 1))).heap.size (w5.setCell ⟨b, 1545, none⟩ (.int .i64 (t + 1))) w' := by
  have HM : Hid (∀ w5, R w5 → _) := hmid
  clear hmid
  go_enter Tryd.func42, Tryd.ntmps42
  go_wp2_with (first
    | (go_at_call 53; refine honce.mono ?_; rintro e w5 ⟨rfl, hr⟩; obtain ⟨g, c1, c2, c3, c4, c5, c6, hg⟩ := HM.out _ hr; clear HM honce)
    | (go_at_call 55; refine (add_any b 1545 t (t + 1) _ c3 c4 rfl t0 t1).mono ?_; rintro e w' ⟨rfl, rfl⟩)
    | (go_at_call 56; refine (clone_any g sz zs _ hg hz z0 z1 h1).mono ?_; rintro e w' ⟨v, rfl, hown, bel⟩))
  go_ret
  exact ⟨v, rfl, w5, hr, hown, bel⟩

set_option maxRecDepth 100000 in
set_option maxHeartbeats 1600000 in
theorem tell_any (κ n b pn off : Nat) (D : List (Nat × Nat)) (t : Int) (N : Nat) (w : World) (hok : M.okT κ n) (ho : off = 4 * M.tj κ n) (hT : Wave.Tab w) (hB : Bank b D t N w) (hD : D.length ≤ 1000000)
    (t0 : 0 ≤ t) (t1 : t ≤ 1000000) (hn : Blk w pn #[.int .i64 n] 3) :
    Calls Tryd.prog 42 #[.pointer (some ⟨b, 0, none⟩), .pointer (some ⟨b, off, none⟩), .int .i64 (M.ts κ n : Nat), .func (.func (fn κ)) #[] #[.pointer (some ⟨pn, 0, none⟩)]] w
      fun e w' => ∃ v, e = .returned v ∧ Told b κ n D t v w w' := by
  obtain ⟨z0, z1⟩ := M.ts_bd hok
  have hb := hB.1
  have hbN := hB.2.1
  obtain ⟨W, hW⟩ : ∃ W, W = (((w.alloc (.cells #[.pointer (some ⟨b, 0, none⟩)] 27)).alloc (.cells #[.pointer (some ⟨b, off, none⟩)] 101)).alloc (.cells #[.int .i64 (M.ts κ n : Nat)] 3)).alloc (.cells #[.func (.func (fn κ)) #[] #[.pointer (some ⟨pn, 0, none⟩)]] 99) := ⟨_, rfl⟩
  have bW : Below w.heap.size w W := by
    rw [hW]
    exact ((((Below.refl w.heap.size w).alloc (by simp) _).alloc (by simp) _).alloc (by simp; omega) _).alloc (by simp; omega) _
  have q0 : Blk W w.heap.size #[.pointer (some ⟨b, 0, none⟩)] 27 := by rw [hW]; exact (((Blk.new _ _ _).alloc _).alloc _).alloc _
  have q1 : Blk W (w.heap.size + 1) #[.pointer (some ⟨b, off, none⟩)] 101 := by
    rw [hW]; have := ((Blk.new (w.alloc (.cells #[.pointer (some ⟨b, 0, none⟩)] 27)) #[.pointer (some ⟨b, off, none⟩)] 101).alloc (.cells #[.int .i64 (M.ts κ n : Nat)] 3)).alloc (.cells #[.func (.func (fn κ)) #[] #[.pointer (some ⟨pn, 0, none⟩)]] 99)
    simpa using this
  have q2 : Blk W (w.heap.size + 2) #[.int .i64 (M.ts κ n : Nat)] 3 := by
    rw [hW]; have := (Blk.new ((w.alloc (.cells #[.pointer (some ⟨b, 0, none⟩)] 27)).alloc (.cells #[.pointer (some ⟨b, off, none⟩)] 101)) #[.int .i64 (M.ts κ n : Nat)] 3).alloc (.cells #[.func (.func (fn κ)) #[] #[.pointer (some ⟨pn, 0, none⟩)]] 99)
    simpa using this
  have q3 : Blk W (w.heap.size + 3) #[.func (.func (fn κ)) #[] #[.pointer (some ⟨pn, 0, none⟩)]] 99 := by
    rw [hW]; have := Blk.new (((w.alloc (.cells #[.pointer (some ⟨b, 0, none⟩)] 27)).alloc (.cells #[.pointer (some ⟨b, off, none⟩)] 101)).alloc (.cells #[.int .i64 (M.ts κ n : Nat)] 3)) #[.func (.func (fn κ)) #[] #[.pointer (some ⟨pn, 0, none⟩)]] 99
    simpa using this
  have honce := once_any κ n b (w.heap.size + 2) (w.heap.size + 1) (w.heap.size + 3) w.heap.size pn D t N W hok (tab_below bW (Nat.le_refl _) hT) (hB.below bW hbN) hD q2 (ho ▸ q1) q3 q0 ((bW.block _ hn.lt).trans hn)
  rw [← ho] at honce
  have hb1 : But b w W := But.of_below bW (Nat.le_refl _)
  rw [hW] at honce
  refine (tell_walk b off (M.ts κ n) _ _ t (M.tabl κ n) _ w t0 t1 (M.tabl_length _ _) z0 (by omega) (tabl_one _ _) honce ?_).mono ?_
  · rintro w5 ⟨bt, N5, hB5⟩
    rw [← hW] at bt
    obtain ⟨g, c1, c2, c3, c4, c5, c6, hg, _⟩ := mid hok ho bt hB5 (by omega) q0 q1
    exact ⟨g, c1, c2, c3, c4, c5, c6, hg⟩
  · rintro e w' ⟨v, rfl, w5, ⟨bt, N5, hB5⟩, hown, bel⟩
    rw [← hW] at bt
    obtain ⟨g, c1, c2, c3, c4, c5, c6, hg, hB6, bt6⟩ := mid hok ho bt hB5 (by omega) q0 q1
    refine ⟨v, rfl, _, hown, ?_, hB6.keep (fun k hk => bel.block k (by have := hB6.2.1; omega)) hB6.2.1 bel.size, hb1.trans (bt6.trans (But.of_below bel (Nat.le_refl _)))⟩
    have := hb1.size
    have := bt6.size
    omega

end Bank
end Go.Proofs.YtjfhlaahgfdmnaaDoor
