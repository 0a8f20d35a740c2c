/-
  How the bank makes a table, once, and tells it. Conditions: the polynomial's numbers stand as their initialiser lays them; one goroutine.
-/
import Derived.Test.YtjfhlaahgfdmnaaDoorBankMake
import Derived.Lib.SliceRun
namespace Go.Proofs.YtjfhlaahgfdmnaaDoor
open Go.RowKit
namespace Bank

/-- the bank at block b: the tables of D were made (in that order), one was told t times; the tables' lists lie below block N -/
def Bank (b : Nat) (D : List (Nat × Nat)) (t : Int) (N : Nat) (w : World) : Prop :=
  b < N ∧ N ≤ w.heap.size ∧ ∃ cur : Array Value, Blk w b cur 79 ∧ cur.size = 1546 ∧ cur[1544]? = some (.int .i64 D.length) ∧ cur[1545]? = some (.int .i64 t) ∧
    ∀ κ n, M.okT κ n →
      ((κ, n) ∉ D → cur[4 * M.tj κ n]? = some (.int .u32 0) ∧ cur[4 * M.tj κ n + 1]? = some (.int .i32 0)) ∧
      ((κ, n) ∈ D → cur[4 * M.tj κ n]? = some (.int .u32 1) ∧ ∃ g, cur[4 * M.tj κ n + 3]? = some (.slice (some ⟨g, 0, none⟩) (M.ts κ n) (M.ts κ n)) ∧ g ≠ b ∧ g < N ∧ Blk w g (M.tabl κ n).toArray 56)

theorem Bank.drewN {b : Nat} {D : List (Nat × Nat)} {t : Int} {N : Nat} {w : World} (h : Bank b D t N w) (m : Nat) : Bank b D t N (w.drewN m) := h
/-- what turns no block below N turns no bank -/
theorem Bank.keep {b : Nat} {D : List (Nat × Nat)} {t : Int} {N N' : Nat} {w w' : World} (h : Bank b D t N w) (hk : ∀ k, k < N → w'.heap[k]? = w.heap[k]?) (hN : N ≤ N') (hs : N' ≤ w'.heap.size) : Bank b D t N' w' := by
  obtain ⟨h1, h2, cur, h3, h4, h5, h6, h7⟩ := h
  refine ⟨by omega, hs, cur, (hk b h1).trans h3, h4, h5, h6, fun κ n hok => ⟨(h7 κ n hok).1, fun hd => ?_⟩⟩
  obtain ⟨k1, g, k2, k3, k4, k5⟩ := (h7 κ n hok).2 hd
  exact ⟨k1, g, k2, k3, by omega, (hk g k4).trans k5⟩
theorem Bank.below {b : Nat} {D : List (Nat × Nat)} {t : Int} {N B : Nat} {w w' : World} (h : Bank b D t N w) (hb : Below B w w') (hB : N ≤ B) : Bank b D t N w' :=
  h.keep (fun k hk => hb.block k (by omega)) (Nat.le_refl _) (by have := h.2.1; have := hb.size; omega)

/-- 'done' already: the handed function is not called -/
theorem do_done (a : Addr) (fv : Value) (w : World) (h0 : w.cell? a = some (.int .u32 1)) :
    Calls Tryd.prog 53 #[.pointer (some a), fv] w fun e w' => e = .returned (.tuple #[]) ∧ w' = w := by
  have hl := run_call_load (P := Tryd.prog) Tryd.func70 (by kernel_rfl) (by kernel_rfl) (by kernel_rfl) .u32 (by kernel_rfl) h0
  have hnot : ∀ (x : Bool) (w : World), (Op.unary .not (.bool x)).run Tryd.prog w = .ok (.bool (!x)) w := fun _ _ => rfl
  go_enter Tryd.func53, Tryd.ntmps53
  go_wp2
  go_end0
  exact ⟨rfl, rfl⟩

set_option maxRecDepth 100000 in
set_option maxHeartbeats 1600000 in
theorem do_first (b off : Nat) (c0 c1 c2 c3 : Value) (R : World → Prop) (w : World)
    (h0 : w.cell? ⟨b, off, none⟩ = some (.int .u32 0)) (h1 : w.cell? ⟨b, off + 1, none⟩ = some (.int .i32 0))
    (f1 : w.frozen? ⟨b, off + 1, none⟩ = false)
    (hF : Calls Tryd.prog 54 #[c0, c1, c2, c3] (w.setCell ⟨b, off + 1, none⟩ (.int .i32 1)) fun e w' => e = .returned (.tuple #[]) ∧ R w')
    (hR : ∀ w2, R w2 → w2.cell? ⟨b, off, none⟩ = some (.int .u32 0) ∧ w2.cell? ⟨b, off + 1, none⟩ = some (.int .i32 1) ∧ w2.frozen? ⟨b, off, none⟩ = false ∧ w2.frozen? ⟨b, off + 1, none⟩ = false) :
    Calls Tryd.prog 53 #[.pointer (some ⟨b, off, none⟩), .func (.func 54) #[] #[c0, c1, c2, c3]] w fun e w' => e = .returned (.tuple #[]) ∧
      ∃ w2, R w2 ∧ w' = (w2.drew.setCell ⟨b, off, none⟩ (.int .u32 1)).setCell ⟨b, off + 1, none⟩ (.int .i32 0) := by
  have hl := run_call_load (P := Tryd.prog) Tryd.func70 (by kernel_rfl) (by kernel_rfl) (by kernel_rfl) .u32 (by kernel_rfl) h0
  have hnot : ∀ (x : Bool) (w : World), (Op.unary .not (.bool x)).run Tryd.prog w = .ok (.bool (!x)) w := fun _ _ => rfl
  have hslow := slow_any b off c0 c1 c2 c3 R w h0 h1 f1 hF hR
  clear hF hR
  go_enter Tryd.func53, Tryd.ntmps53
  go_wp2_with (first | (go_at_call 65; refine hslow.mono ?_; rintro e w' ⟨rfl, hw2⟩) | (go_at_call 64; go_in))
  go_end0
  exact ⟨rfl, hw2⟩

/-- the bank's block behind the first telling -/
def fin (cur : Array Value) (off g sz : Nat) (mm : Int) : Array Value :=
  ((made (cur.setIfInBounds (off + 1) (.int .i32 1)) off g sz mm).setIfInBounds off (.int .u32 1)).setIfInBounds (off + 1) (.int .i32 0)
section
variable {cur : Array Value} {off g sz : Nat} {mm : Int}
theorem fin_size : (fin cur off g sz mm).size = cur.size := by simp [fin, made]
theorem fin_ne {p : Nat} (h0 : p ≠ off) (h1 : p ≠ off + 1) (h3 : p ≠ off + 3) (hm : p ≠ 1544) : (fin cur off g sz mm)[p]? = cur[p]? := by
  unfold fin made
  rw [set_get_ne _ h1, set_get_ne _ h0, set_get_ne _ hm, set_get_ne _ h3, set_get_ne _ h1]
theorem fin_0 (h : off + 3 < cur.size) : (fin cur off g sz mm)[off]? = some (.int .u32 1) := by
  unfold fin
  rw [set_get_ne _ (by omega), set_get _ (by simp [made]; omega)]
theorem fin_3 (h : off + 3 < 1544) (hs : cur.size = 1546) : (fin cur off g sz mm)[off + 3]? = some (.slice (some ⟨g, 0, none⟩) sz sz) := by
  unfold fin made
  rw [set_get_ne _ (by omega), set_get_ne _ (by omega), set_get_ne _ (by omega), set_get _ (by simp; omega)]
theorem fin_m (h : off + 3 < 1544) (hs : cur.size = 1546) : (fin cur off g sz mm)[1544]? = some (.int .i64 mm) := by
  unfold fin made
  rw [set_get_ne _ (by omega), set_get_ne _ (by omega), set_get _ (by simp; omega)]
end

def ins (D : List (Nat × Nat)) (κ n : Nat) : List (Nat × Nat) := if (κ, n) ∈ D then D else D ++ [(κ, n)]
theorem mem_ins (D : List (Nat × Nat)) (κ n : Nat) : (κ, n) ∈ ins D κ n := by
  unfold ins; split
  · assumption
  · simp

/-- the whole of 'Do', made or not -/
theorem once_any (κ n b ps pt pf pb pn : Nat) (D : List (Nat × Nat)) (t : Int) (N : Nat) (w : World) (hok : M.okT κ n) (hT : Wave.Tab w) (hB : Bank b D t N w) (hD : D.length ≤ 1000000)
    (hs : Blk w ps #[.int .i64 (M.ts κ n : Nat)] 3) (ht : Blk w pt #[.pointer (some ⟨b, 4 * M.tj κ n, none⟩)] 101)
    (hf : Blk w pf #[.func (.func (fn κ)) #[] #[.pointer (some ⟨pn, 0, none⟩)]] 99) (hp : Blk w pb #[.pointer (some ⟨b, 0, none⟩)] 27) (hn : Blk w pn #[.int .i64 n] 3) :
    Calls Tryd.prog 53 #[.pointer (some ⟨b, 4 * M.tj κ n, none⟩), .func (.func 54) #[] #[.pointer (some ⟨ps, 0, none⟩), .pointer (some ⟨pt, 0, none⟩), .pointer (some ⟨pf, 0, none⟩), .pointer (some ⟨pb, 0, none⟩)]] w
      fun e w' => e = .returned (.tuple #[]) ∧ But b w w' ∧ ∃ N', Bank b (ins D κ n) t N' w' := by
  by_cases hd : (κ, n) ∈ D
  · obtain ⟨h1, h2, cur, h3, h4, h5, h6, h7⟩ := id hB
    refine (do_done _ _ w (h3.cell ((h7 κ n hok).2 hd).1)).mono ?_
    rintro e w' ⟨rfl, rfl⟩
    exact ⟨rfl, But.refl _ _, N, by unfold ins; rw [if_pos hd]; exact hB⟩
  · obtain ⟨h1, h2, cur, h3, h4, h5, h6, h7⟩ := hB
    obtain ⟨k0, k1⟩ := (h7 κ n hok).1 hd
    have hj := M.tj_lt hok
    obtain ⟨off, ho⟩ : ∃ off, off = 4 * M.tj κ n := ⟨_, rfl⟩
    rw [← ho] at k0 k1 ht ⊢
    have hoff : off + 3 < 1544 := by omega
    have nT := tab_ne hT h3 (by omega)
    have hb1 := h3.set (off + 1) (.int .i32 1)
    have bt := (But.refl b w).set (a := ⟨b, off + 1, none⟩) (.inl rfl) (.int .i32 1)
    have hmk := make_any κ n b off ps pt pf pb pn (cur.setIfInBounds (off + 1) (.int .i32 1)) D.length (w.setCell ⟨b, off + 1, none⟩ (.int .i32 1)) hok (bt.tab hT nT) hb1 hoff (by simpa using h4)
      ((set_get_ne _ (by omega)).trans h5) (by omega) (by omega) (bt.blk hs (hs.ne h3 (by decide))) (bt.blk ht (ht.ne h3 (by decide))) (bt.blk hf (hf.ne h3 (by decide))) (bt.blk hp (hp.ne h3 (by decide))) (bt.blk hn (hn.ne h3 (by decide)))
    have hws : (w.setCell ⟨b, off + 1, none⟩ (.int .i32 1)).heap.size = w.heap.size := by simp [World.setCell]
    rw [hws] at hmk
    refine (do_first b off _ _ _ _ _ w (h3.cell k0) (h3.cell k1) (h3.free _) hmk ?_).mono ?_
    · rintro w2 ⟨_, _, hb2, _⟩
      refine ⟨hb2.cell ?_, hb2.cell ?_, hb2.free _, hb2.free _⟩
      · unfold made
        rw [set_get_ne _ (by omega), set_get_ne _ (by omega), set_get_ne _ (by omega)]; exact k0
      · unfold made
        rw [set_get_ne _ (by omega), set_get_ne _ (by omega), set_get _ (by omega)]
    · rintro e w' ⟨rfl, w2, ⟨bt2, hs2, hb2, hl2⟩, rfl⟩
      have hbF : Blk ((w2.drew.setCell ⟨b, off, none⟩ (.int .u32 1)).setCell ⟨b, off + 1, none⟩ (.int .i32 0)) b (fin cur off w.heap.size (M.ts κ n) (D.length + 1)) 79 := (hb2.drew.set _ _).set _ _
      have hlb := h3.lt
      have hlF : Blk ((w2.drew.setCell ⟨b, off, none⟩ (.int .u32 1)).setCell ⟨b, off + 1, none⟩ (.int .i32 0)) w.heap.size (M.tabl κ n).toArray 56 :=
        (hl2.drew.set_ne (by show w.heap.size ≠ b; omega) _).set_ne (by show w.heap.size ≠ b; omega) _
      have hbut : But b w ((w2.drew.setCell ⟨b, off, none⟩ (.int .u32 1)).setCell ⟨b, off + 1, none⟩ (.int .i32 0)) := (((bt.trans bt2).drew).set (.inl rfl) _).set (.inl rfl) _
      refine ⟨rfl, hbut, w.heap.size + 1, by omega, ?_, _, hbF, by rw [fin_size]; exact h4, ?_, ?_, ?_⟩
      · simp [World.setCell, hs2]
      · rw [fin_m hoff h4]; unfold ins; rw [if_neg hd]; simp
      · rw [fin_ne (by omega) (by omega) (by omega) (by omega)]; exact h6
      · intro κ' n' hok'
        by_cases he : (κ', n') = (κ, n)
        · cases he
          rw [← ho]
          refine ⟨fun h => absurd (mem_ins D κ n) h, fun _ => ⟨fin_0 (by omega), w.heap.size, fin_3 hoff h4, by omega, by omega, hlF⟩⟩
        · have hne : M.tj κ' n' ≠ M.tj κ n := fun e => he (by obtain ⟨rfl, rfl⟩ := M.tj_inj hok' hok e; rfl)
          have hj' := M.tj_lt hok'
          have hmem : (κ', n') ∈ ins D κ n ↔ (κ', n') ∈ D := by
            unfold ins; rw [if_neg hd, List.mem_append, List.mem_singleton]
            exact ⟨fun h => h.resolve_right he, .inl⟩
          rw [hmem, fin_ne (by omega) (by omega) (by omega) (by omega), fin_ne (by omega) (by omega) (by omega) (by omega), fin_ne (by omega) (by omega) (by omega) (by omega)]
          refine ⟨(h7 κ' n' hok').1, fun h => ?_⟩
          obtain ⟨q1, g, q2, q3, q4, q5⟩ := (h7 κ' n' hok').2 h
          exact ⟨q1, g, q2, q3, by omega, hbut.blk q5 q3⟩

theorem info16 : (Tryd.prog.info? 56).map (fun i => (i.zero, i.size, i.bytes)) = some (some (.int .i16 0), 1, 2) := by kernel_rfl

theorem tabl_one (κ n : Nat) : ∀ u ∈ M.tabl κ n, u.oneCell' = true := by
  intro u hu
  unfold M.tabl at hu
  obtain ⟨i, _, rfl⟩ := List.mem_map.1 hu
  rfl

theorem add_at (g j : Nat) : (⟨g, 0, none⟩ : Addr).add j = ⟨g, j, none⟩ := by
  unfold Addr.add; split <;> simp_all

set_option maxRecDepth 100000 in
theorem clone_any (g sz : Nat) (zs : List Value) (w : World) (hg : Blk w g zs.toArray 56) (hz : zs.length = sz) (s0 : 1 ≤ sz) (s1 : sz ≤ 65536) (h1 : ∀ u ∈ zs, u.oneCell' = true) :
    Calls Tryd.prog 56 #[.slice (some ⟨g, 0, none⟩) sz sz] w fun e w' => ∃ v, e = .returned v ∧ w'.ownsRow w.heap.size 56 1 v sz zs ∧ Below w.heap.size w w' := by
  obtain ⟨i0, hi, hz0, hz1, hz2⟩ := info_parts info16
  have hnil : ∀ (a : Option Addr) (k c : Nat) (w : World), (binOp .eql 23 (.slice a k c) (.slice none 0 0)).run Tryd.prog w = .ok (.bool a.isNone) w := fun a k c w => Lib.run_eql_slice_nil w _ _ a k c 0 0 Tryd.underlying23
  have hlg := hg.lt
  have hown := World.ownsRow_made (base := w.heap.size) (e := 56) (size := 1) w #[] 0 (Nat.le_refl _) (by decide) rfl
  have hcl : ∀ j u, zs[j]? = some u → (w.alloc (.cells #[] 56)).cell? ((⟨g, 0, none⟩ : Addr).add j) = some u := fun j u hu => by
    rw [add_at]
    exact (hg.alloc _).cell (by simpa using hu)
  go_enter Tryd.func56, Tryd.ntmps56
  go_wp2_with (at_builtin; refine wpList_append_own _ rfl (.tmp 5) (.tmp 6) 23 rfl w.heap.size 56 i0 (.int .i16 0) 1 2 Tryd.underlying23 hi hz0 hz1 hz2 rfl (by decide) _ _ _ rfl hown ⟨g, 0, none⟩ sz sz zs rfl (by omega) hcl h1 (by unfold maxLen; omega) (by omega) (by simp) ?_; intro v' w1 hown' hgrow _)
  go_ret
  exact ⟨v', rfl, by simpa using hown', (((Below.refl w.heap.size w).alloc (Nat.le_refl _) _).grown hgrow (by simp) (fun k hk => by cases hk; exact Nat.le_refl _))⟩

end Bank
end Go.Proofs.YtjfhlaahgfdmnaaDoor
