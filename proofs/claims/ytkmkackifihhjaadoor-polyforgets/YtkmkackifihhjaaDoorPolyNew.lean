/-
  New splitters and joiners. Conditions: the polynomial's numbers stand as their initialiser lays them; one goroutine.
-/
import Derived.Test.YtkmkackifihhjaaDoorPolyFold
import Derived.Test.YtkmkackifihhjaaDoorPolyRows
import Derived.Test.YtkmkackifihhjaaDoorBankSame
namespace Go.Proofs.YtkmkackifihhjaaDoor
set_option linter.unusedVariables false
open Go.RowKit
namespace Poly
open Bank (Blk But)

theorem tabl_hs (m : Nat) : M.tabl 2 m = enc .i16 (M.hs m) := by
  unfold M.tabl enc M.hs
  rw [List.map_map]
  rfl
theorem tabl_tn (m : Nat) : M.tabl 0 (8 * m) = enc .i16 (M.tn m) := by
  unfold M.tabl enc M.tn
  rw [List.map_map]
  rfl
theorem hs_fits (m : Nat) : M.fits16 (M.hs m) := by
  intro z hz
  obtain ⟨i, _, rfl⟩ := List.mem_map.1 hz
  exact M.fil_bd _ _
theorem tn_fits {m : Nat} (hm : 1 ≤ m) : M.fits16 (M.tn m) := by
  intro z hz
  obtain ⟨i, _, rfl⟩ := List.mem_map.1 hz
  have := M.cosine_bd (i : Int) (d := ((8 * m : Nat) : Int)) (by omega)
  omega

set_option maxRecDepth 100000 in
theorem ask_ok (m M8 b N : Nat) (w : World) (hm : (m = 4 ∧ M8 = 32) ∨ (m = 8 ∧ M8 = 64)) (hT : Wave.Tab w) (hB : Bank.Bank b [] 0 N w) :
    Calls Tryd.prog 22 #[.pointer (some ⟨b, 0, none⟩), .int .i64 m] w fun e w' => ∃ vf vt, e = .returned (.tuple #[vf, vt, .int .i64 0]) ∧
      Reads .i16 w.heap.size w'.heap.size w' vf (M.hs m) ∧ Reads .i16 w.heap.size w'.heap.size w' vt (M.tn m) ∧ But b w w' := by
  have hbw : b < w.heap.size := by have := hB.1; have := hB.2.1; omega
  have hans := Bank.filter_ok m b [] 0 N w (.inr (.inr ⟨rfl, by omega⟩)) hT hB (by decide) (by decide) (by decide)
  have nT : 0 ≠ b := by
    obtain ⟨_, _, cur, h3, h4, _⟩ := hB
    exact Bank.tab_ne hT h3 (by omega)
  have hnext : ∀ v w1, Bank.Told b 2 m [] 0 v w w1 → Reads .i16 w.heap.size w1.heap.size w1 v (M.hs m) ∧ But b w w1 ∧
      Calls Tryd.prog 38 #[.pointer (some ⟨b, 0, none⟩), .int .i64 M8] w1 fun e w' => ∃ v, e = .returned (.tuple #[v, .int .i64 0]) ∧ Reads .i16 w.heap.size w'.heap.size w' v (M.tn m) ∧ But b w1 w' := by
    rintro v w1 ⟨X, h1, h2, h3, h4⟩
    have e1 : M.ts 2 m = (M.hs m).length := by rw [M.hs_length]; rfl
    rw [tabl_hs, e1] at h1
    have r1 := (reads_own h1 (fit16.2 (hs_fits m))).mono h2 (Nat.le_refl _)
    refine ⟨r1, h4, ?_⟩
    have hM : M8 = 8 * m := by omega
    have ht := Bank.turn_ok M8 b (Bank.ins [] 2 m) (0 + 1) X w1 (.inl ⟨rfl, by omega, by omega, by omega⟩) (h4.tab hT nT) h3 (by unfold Bank.ins; split <;> simp) (by decide) (by decide)
    refine ht.mono ?_
    rintro e w2 ⟨v2, rfl, X2, k1, k2, k3, k4⟩
    have e2 : M.ts 0 M8 = (M.tn m).length := by rw [M.tn_length]; exact hM
    rw [e2, hM, tabl_tn] at k1
    have hs1 := h4.size
    exact ⟨v2, rfl, (reads_own k1 (fit16.2 (tn_fits (by omega)))).mono (by omega) (Nat.le_refl _), k4⟩
  have HN : Hid _ := hnext
  have hM : 8 * (m : Int) = (M8 : Int) := by omega
  have m1 : (m : Int) ≤ 8 := by omega
  clear hnext hT hB
  go_enter Tryd.func22, Tryd.ntmps22
  go_wp2_with (first
    | (go_at_call 37; refine hans.mono ?_; rintro e w1 ⟨vf, rfl, ht⟩; obtain ⟨r1, bt1, hturn⟩ := HN.out vf w1 ht; clear HN ht)
    | (go_at_call 38; refine hturn.mono ?_; rintro e w2 ⟨vt, rfl, r2, bt2⟩))
  go_ret3
  have hs1 := bt1.size
  have hs2 := bt2.size
  exact ⟨_, _, rfl, (r1.but bt2 (Nat.le_refl _) (.inl hbw)).mono (Nat.le_refl _) hs2, r2, bt1.trans bt2⟩

theorem ask_err (m : Int) (b : Nat) (w : World) (h : ¬ (m = 4 ∨ m = 8)) :
    Calls Tryd.prog 22 #[.pointer (some ⟨b, 0, none⟩), .int .i64 m] w fun e w' => e = .returned (.tuple #[.slice none 0 0, .slice none 0 0, .int .i64 1]) ∧ Below w.heap.size w w' := by
  go_enter Tryd.func22, Tryd.ntmps22
  go_wp2_with (go_at_call 37; refine (Bank.filter_err m b _ h).mono ?_; rintro e w1 ⟨rfl, hb⟩)
  go_ret3
  exact ⟨rfl, hb⟩

theorem ask_nil (m : Int) (w : World) :
    Calls Tryd.prog 22 #[.pointer none, .int .i64 m] w fun e w' => e = .returned (.tuple #[.slice none 0 0, .slice none 0 0, .int .i64 3]) ∧ Below w.heap.size w w' := by
  go_enter Tryd.func22, Tryd.ntmps22
  go_wp2_with (go_at_call 37; refine (Bank.filter_nil m _).mono ?_; rintro e w1 ⟨rfl, hb⟩)
  go_ret3
  exact ⟨rfl, hb⟩

theorem newSplitter_err (m : Int) (b : Nat) (w : World) (h : ¬ (m = 4 ∨ m = 8)) :
    Calls Tryd.prog 9 #[.pointer (some ⟨b, 0, none⟩), .int .i64 m] w fun e w' => e = .returned (.tuple #[.pointer none, .int .i64 1]) ∧ Below w.heap.size w w' := by
  have bel : Below w.heap.size w (w.alloc (.cells #[.int .i64 m] 3)) := (Below.refl _ _).alloc (Nat.le_refl _) _
  have HB : Hid (Below _ _ _) := bel
  go_enter Tryd.func9, Tryd.ntmps9
  go_wp2_with (go_at_call 22; refine (ask_err m b _ h).mono ?_; rintro e w1 ⟨rfl, hb⟩)
  go_ret2
  have hb' : Below w.heap.size w w1 := HB.out.trans (hb.mono (by simp))
  exact ⟨rfl, hb'.alloc hb'.size _⟩

theorem newJoiner_err (m : Int) (b : Nat) (w : World) (h : ¬ (m = 4 ∨ m = 8)) :
    Calls Tryd.prog 15 #[.pointer (some ⟨b, 0, none⟩), .int .i64 m] w fun e w' => e = .returned (.tuple #[.pointer none, .int .i64 1]) ∧ Below w.heap.size w w' := by
  have bel : Below w.heap.size w (w.alloc (.cells #[.int .i64 m] 3)) := (Below.refl _ _).alloc (Nat.le_refl _) _
  have HB : Hid (Below _ _ _) := bel
  go_enter Tryd.func15, Tryd.ntmps15
  go_wp2_with (go_at_call 22; refine (ask_err m b _ h).mono ?_; rintro e w1 ⟨rfl, hb⟩)
  go_ret2
  have hb' : Below w.heap.size w w1 := HB.out.trans (hb.mono (by simp))
  exact ⟨rfl, hb'.alloc hb'.size _⟩

theorem newSplitter_nil (m : Int) (w : World) :
    Calls Tryd.prog 9 #[.pointer none, .int .i64 m] w fun e w' => e = .returned (.tuple #[.pointer none, .int .i64 3]) ∧ Below w.heap.size w w' := by
  have bel : Below w.heap.size w (w.alloc (.cells #[.int .i64 m] 3)) := (Below.refl _ _).alloc (Nat.le_refl _) _
  have HB : Hid (Below _ _ _) := bel
  go_enter Tryd.func9, Tryd.ntmps9
  go_wp2_with (go_at_call 22; refine (ask_nil m _).mono ?_; rintro e w1 ⟨rfl, hb⟩)
  go_ret2
  have hb' : Below w.heap.size w w1 := HB.out.trans (hb.mono (by simp))
  exact ⟨rfl, hb'.alloc hb'.size _⟩

/-- what a splitter has: xs its line, in block gl; its tables in blocks from lo on -/
def Spl (lo gl m : Nat) (xs : List Int) (w : World) : Prop :=
  lo ≤ gl ∧ gl + 2 ≤ w.heap.size ∧ Blk w gl (enc .i16 xs).toArray 32 ∧ xs.length = 10 * m ∧ M.fits16 xs ∧
    ∃ vf vw, Blk w (gl + 1) #[.int .i64 m, vf, vw, .slice (some ⟨gl, 0, none⟩) (10 * m) (10 * m)] 59 ∧ Reads .i16 lo gl w vf (M.hs m) ∧ Rows .i16 lo gl w vw ((List.range m).map (M.ws m))
/-- what a joiner has -/
def Joi (lo gl m : Nat) (l : List Int) (w : World) : Prop :=
  lo ≤ gl ∧ gl + 2 ≤ w.heap.size ∧ Blk w gl (enc .i32 l).toArray 21 ∧ l.length = 20 * m ∧ M.fits32 l ∧
    ∃ vf vw, Blk w (gl + 1) #[.int .i64 m, vf, vw, .slice (some ⟨gl, 0, none⟩) (20 * m) (20 * m)] 90 ∧ Reads .i16 lo gl w vf (M.hs m) ∧ Rows .i16 lo gl w vw ((List.range (2 * m)).map (M.wj m))
theorem Spl.keep {lo gl m : Nat} {xs : List Int} {w w' : World} (h : Spl lo gl m xs w) (hs : w.heap.size ≤ w'.heap.size) (hk : ∀ b, lo ≤ b → b < gl + 2 → w'.heap[b]? = w.heap[b]?) : Spl lo gl m xs w' := by
  obtain ⟨h0, h1, h2, h3, h4, vf, vw, h5, h6, h7⟩ := h
  exact ⟨h0, by omega, (hk gl (by omega) (by omega)).trans h2, h3, h4, vf, vw, (hk (gl + 1) (by omega) (by omega)).trans h5, h6.keep fun b k0 k1 => hk b k0 (by omega), h7.keep fun b k0 k1 => hk b k0 (by omega)⟩
theorem Joi.keep {lo gl m : Nat} {xs : List Int} {w w' : World} (h : Joi lo gl m xs w) (hs : w.heap.size ≤ w'.heap.size) (hk : ∀ b, lo ≤ b → b < gl + 2 → w'.heap[b]? = w.heap[b]?) : Joi lo gl m xs w' := by
  obtain ⟨h0, h1, h2, h3, h4, vf, vw, h5, h6, h7⟩ := h
  exact ⟨h0, by omega, (hk gl (by omega) (by omega)).trans h2, h3, h4, vf, vw, (hk (gl + 1) (by omega) (by omega)).trans h5, h6.keep fun b k0 k1 => hk b k0 (by omega), h7.keep fun b k0 k1 => hk b k0 (by omega)⟩
theorem Spl.but {lo gl m g : Nat} {xs : List Int} {w w' : World} (h : Spl lo gl m xs w) (hb : But g w w') (hg : g < lo ∨ gl + 2 ≤ g) : Spl lo gl m xs w' :=
  h.keep hb.size fun b h0 h1 => hb.block b (by have := h.2.1; omega) (by omega)
theorem Joi.but {lo gl m g : Nat} {xs : List Int} {w w' : World} (h : Joi lo gl m xs w) (hb : But g w w') (hg : g < lo ∨ gl + 2 ≤ g) : Joi lo gl m xs w' :=
  h.keep hb.size fun b h0 h1 => hb.block b (by have := h.2.1; omega) (by omega)
theorem Spl.below {lo gl m B : Nat} {xs : List Int} {w w' : World} (h : Spl lo gl m xs w) (hb : Below B w w') (hg : gl + 2 ≤ B) : Spl lo gl m xs w' :=
  h.keep hb.size fun b h0 h1 => hb.block b (by omega)
theorem Joi.below {lo gl m B : Nat} {xs : List Int} {w w' : World} (h : Joi lo gl m xs w) (hb : Below B w w') (hg : gl + 2 ≤ B) : Joi lo gl m xs w' :=
  h.keep hb.size fun b h0 h1 => hb.block b (by omega)
theorem Spl.drewN {lo gl m : Nat} {xs : List Int} {w : World} (h : Spl lo gl m xs w) (n : Nat) : Spl lo gl m xs (w.drewN n) := h
theorem Joi.drewN {lo gl m : Nat} {xs : List Int} {w : World} (h : Joi lo gl m xs w) (n : Nat) : Joi lo gl m xs (w.drewN n) := h

theorem alloc_size (w : World) (o : Obj) : (w.alloc o).heap.size = w.heap.size + 1 := by simp
/-- a list and an object are made -/
theorem two_new (w : World) (n : Nat) (c d : Array Value) (s t : TypeId) : Below w.heap.size w (((w.drewN n).alloc (.cells c s)).alloc (.cells d t)) :=
  ((below_drewN (Below.refl w.heap.size w) n).alloc (Nat.le_refl _) _).alloc (by rw [alloc_size]; exact Nat.le_succ _) _
theorem zeros16 (n : Nat) : M.fits16 (List.replicate n 0) := fun z hz => by rw [List.eq_of_mem_replicate hz]; decide
theorem zeros32 (n : Nat) : M.fits32 (List.replicate n 0) := fun z hz => by rw [List.eq_of_mem_replicate hz]; decide

/-- what the rows are made in -/
theorem mid_rows {m M8 b N C L : Nat} {K : FuncId} {f : Nat → Nat → Int} {w w2 : World} {vt : Value} (hm : (m = 4 ∧ M8 = 32) ∨ (m = 8 ∧ M8 = 64)) (hbw : b < w.heap.size) (hb : But b (w.alloc (.cells #[.int .i64 m] 3)) w2)
    (ht : Reads .i16 (w.heap.size + 1) w2.heap.size w2 vt (M.tn m)) (hK : (K = 24 ∧ f = fun i j : Nat => M.wv m (2 * (i : Int) + 1) (2 * (j : Int) - m)) ∨ (K = 32 ∧ f = fun i j : Nat => M.wv m (2 * (j : Int) + 1) (2 * (i : Int) + m))) (hC : C ≤ 16) (hL : L ≤ 16) :
    Calls Tryd.prog 23 #[.int .i64 (C : Int), .int .i64 (L : Int), .func (.func K) #[] #[.pointer (some ⟨w2.heap.size, 0, none⟩), .pointer (some ⟨w.heap.size, 0, none⟩)]] (w2.alloc (.cells #[vt] 22)) fun e w' =>
      e = .returned (.slice (some ⟨w2.heap.size + 1, 0, none⟩) C C) ∧ Rows .i16 (w2.heap.size + 1) w'.heap.size w' (.slice (some ⟨w2.heap.size + 1, 0, none⟩) C C) ((List.range C).map fun i => (List.range L).map (f i)) ∧
        Below (w2.heap.size + 1) (w2.alloc (.cells #[vt] 22)) w' ∧ w'.cell? ⟨w.heap.size, 0, none⟩ = some (.int .i64 m) := by
  have hsz : (w2.alloc (.cells #[vt] 22)).heap.size = w2.heap.size + 1 := by simp
  have hs2 := hb.size
  simp only [alloc_size] at hs2
  have cm : w2.cell? ⟨w.heap.size, 0, none⟩ = some (.int .i64 m) := (hb.blk (Blk.new w _ _) (by omega)).cell (o := 0) rfl
  have cm3 : (w2.alloc (.cells #[vt] 22)).cell? ⟨w.heap.size, 0, none⟩ = some (.int .i64 m) := Lib.cell?_alloc_some _ cm
  have ct3 : (w2.alloc (.cells #[vt] 22)).cell? ⟨w2.heap.size, 0, none⟩ = some vt := (Blk.new w2 #[vt] 22).cell (o := 0) rfl
  have ht3 : Reads .i16 (w.heap.size + 1) w2.heap.size (w2.alloc (.cells #[vt] 22)) vt (M.tn m) := ht.below ((Below.refl _ _).alloc (Nat.le_refl w2.heap.size) _) (Nat.le_refl _)
  have hf : ∀ i j, i < C → j < L → -32768 ≤ f i j ∧ f i j ≤ 32767 := by
    intro i j _ _
    rcases hK with ⟨_, rfl⟩ | ⟨_, rfl⟩
    · have := M.wv_bd (m := (m : Int)) (a := 2 * (i : Int) + 1) (b := 2 * (j : Int) - m) (by omega)
      show -32768 ≤ M.wv _ _ _ ∧ M.wv _ _ _ ≤ 32767
      omega
    · have := M.wv_bd (m := (m : Int)) (a := 2 * (j : Int) + 1) (b := 2 * (i : Int) + m) (by omega)
      show -32768 ≤ M.wv _ _ _ ∧ M.wv _ _ _ ≤ 32767
      omega
  have hr := rows_any C L w2.heap.size w.heap.size K f (w2.alloc (.cells #[vt] 22)) (by exact hK.elim (fun h => .inl h.1) (fun h => .inr h.1)) hC hL (by
    intro wx i j hbx hi hj
    rw [hsz] at hbx
    have ht4 := ht3.below hbx (by omega)
    have ct4 : wx.cell? ⟨w2.heap.size, 0, none⟩ = some vt := (cell_keep (hbx.block _ (by omega))).trans ct3
    have cm4 : wx.cell? ⟨w.heap.size, 0, none⟩ = some (.int .i64 m) := (cell_keep (hbx.block _ (by omega))).trans cm3
    rcases hK with ⟨rfl, rfl⟩ | ⟨rfl, rfl⟩
    · exact splitWave m M8 _ _ i j _ _ vt wx hm ht4 ct4 cm4 (by omega) (by omega)
    · exact joinWave m M8 _ _ i j _ _ vt wx hm ht4 ct4 cm4 (by omega) (by omega))
  rw [hsz] at hr
  refine hr.mono ?_
  rintro e w' ⟨rfl, hU, hs⟩
  refine ⟨rfl, ?_, hU.1, (cell_keep (hU.1.block _ (by omega))).trans cm3⟩
  rw [hs]
  exact hU.rows hf

set_option maxRecDepth 100000 in
set_option maxHeartbeats 1000000 in
theorem newSplitter_ok (m M2 M8 M10 b N : Nat) (w : World) (hm : (m = 4 ∧ M2 = 8 ∧ M8 = 32 ∧ M10 = 40) ∨ (m = 8 ∧ M2 = 16 ∧ M8 = 64 ∧ M10 = 80)) (hT : Wave.Tab w) (hB : Bank.Bank b [] 0 N w) :
    Calls Tryd.prog 9 #[.pointer (some ⟨b, 0, none⟩), .int .i64 m] w fun e w' => ∃ gl, e = .returned (.tuple #[.pointer (some ⟨gl + 1, 0, none⟩), .int .i64 0]) ∧
      Spl w.heap.size gl m (List.replicate (10 * m) 0) w' ∧ w'.heap.size = gl + 2 ∧ But b w w' := by
  have hbw : b < w.heap.size := by have := hB.1; have := hB.2.1; omega
  obtain ⟨hB1, hT1, bt0⟩ := Bank.boxed hB hT #[.int .i64 m] 3
  have hask := ask_ok m M8 b N (w.alloc (.cells #[.int .i64 m] 3)) (by omega) hT1 hB1
  have hc0 : (w.alloc (.cells #[.int .i64 m] 3)).cell? ⟨w.heap.size, 0, none⟩ = some (.int .i64 m) := (Blk.new w #[.int .i64 m] 3).cell (o := 0) rfl
  have hnext : ∀ vf vt w2, Reads .i16 (w.alloc (.cells #[.int .i64 m] 3)).heap.size w2.heap.size w2 vf (M.hs m) → Reads .i16 (w.alloc (.cells #[.int .i64 m] 3)).heap.size w2.heap.size w2 vt (M.tn m) → But b (w.alloc (.cells #[.int .i64 m] 3)) w2 →
      (w2.alloc (.cells #[vt] 22)).cell? ⟨w.heap.size, 0, none⟩ = some (.int .i64 m) ∧
      Calls Tryd.prog 23 #[.int .i64 m, .int .i64 M2, .func (.func 24) #[] #[.pointer (some ⟨w2.heap.size, 0, none⟩), .pointer (some ⟨w.heap.size, 0, none⟩)]] (w2.alloc (.cells #[vt] 22)) fun e w' =>
        e = .returned (.slice (some ⟨w2.heap.size + 1, 0, none⟩) m m) ∧ w'.cell? ⟨w.heap.size, 0, none⟩ = some (.int .i64 m) ∧
          ∀ n, Spl w.heap.size w'.heap.size m (List.replicate (10 * m) 0) (((w'.drewN n).alloc (.cells (enc .i16 (List.replicate M10 0)).toArray 32)).alloc (.cells #[.int .i64 m, vf, .slice (some ⟨w2.heap.size + 1, 0, none⟩) m m, .slice (some ⟨w'.heap.size, 0, none⟩) M10 M10] 59)) ∧ But b w (((w'.drewN n).alloc (.cells (enc .i16 (List.replicate M10 0)).toArray 32)).alloc (.cells #[.int .i64 m, vf, .slice (some ⟨w2.heap.size + 1, 0, none⟩) m m, .slice (some ⟨w'.heap.size, 0, none⟩) M10 M10] 59)) := by
    intro vf vt w2 rf rt hb
    have hs2 := hb.size
    simp only [alloc_size] at hs2 rf rt
    have cm : w2.cell? ⟨w.heap.size, 0, none⟩ = some (.int .i64 m) := (hb.blk (Blk.new w _ _) (by omega)).cell (o := 0) rfl
    refine ⟨Lib.cell?_alloc_some _ cm, (mid_rows (M8 := M8) (C := m) (L := M2) (N := N) (by omega) hbw hb rt (.inl ⟨rfl, rfl⟩) (by omega) (by omega)).mono ?_⟩
    rintro e w' ⟨rfl, hrows, hbel, hcm⟩
    have hs3 := hbel.size
    simp only [alloc_size] at hs3
    have e10 : M10 = 10 * m := by omega
    have e2 : M2 = 2 * m := by omega
    refine ⟨rfl, hcm, fun n => ⟨⟨by omega, by simp, ?_, by simp, zeros16 _, vf, .slice (some ⟨w2.heap.size + 1, 0, none⟩) m m, ?_, ?_, ?_⟩, ?_⟩⟩
    · rw [e10]
      exact (Blk.new (w'.drewN n) _ _).alloc _
    · rw [← e10]
      have := Blk.new ((w'.drewN n).alloc (.cells (enc .i16 (List.replicate M10 0)).toArray 32)) #[.int .i64 m, vf, .slice (some ⟨w2.heap.size + 1, 0, none⟩) m m, .slice (some ⟨w'.heap.size, 0, none⟩) M10 M10] 59
      rw [alloc_size] at this
      exact this
    · have bF := two_new w' n (enc .i16 (List.replicate M10 0)).toArray #[.int .i64 m, vf, .slice (some ⟨w2.heap.size + 1, 0, none⟩) m m, .slice (some ⟨w'.heap.size, 0, none⟩) M10 M10] 32 59
      exact (((rf.below ((Below.refl _ _).alloc (Nat.le_refl w2.heap.size) (.cells #[vt] 22)) (Nat.le_refl _)).below hbel (by omega)).below bF (by omega)).mono (by omega) (by omega)
    · have bF := two_new w' n (enc .i16 (List.replicate M10 0)).toArray #[.int .i64 m, vf, .slice (some ⟨w2.heap.size + 1, 0, none⟩) m m, .slice (some ⟨w'.heap.size, 0, none⟩) M10 M10] 32 59
      rw [e2] at hrows
      exact (hrows.below bF (Nat.le_refl _)).mono (by omega) (Nat.le_refl _)
    · have bF := two_new w' n (enc .i16 (List.replicate M10 0)).toArray #[.int .i64 m, vf, .slice (some ⟨w2.heap.size + 1, 0, none⟩) m m, .slice (some ⟨w'.heap.size, 0, none⟩) M10 M10] 32 59
      exact But.below' (But.below' (But.below' (bt0.trans hb) ((Below.refl _ _).alloc (Nat.le_refl w2.heap.size) (.cells #[vt] 22)) (by omega)) hbel (by omega)) bF (by omega)
  have HN : Hid _ := hnext
  have hmk : ∀ wx : World, (Instr.makeSlice 22 (.int .i64 M10) (.int .i64 M10)).run Tryd.prog wx = .ok (.slice (some ⟨wx.heap.size, 0, none⟩) M10 M10) (wx.alloc (.cells (enc .i16 (List.replicate M10 0)).toArray 32)) := fun wx => make16 wx M10 (by omega)
  generalize (enc .i16 (List.replicate M10 0)).toArray = cs at hmk HN
  have e2 : 2 * (m : Int) = (M2 : Int) := by omega
  have e10 : 10 * (m : Int) = (M10 : Int) := by omega
  have m1 : (m : Int) ≤ 8 := by omega
  have m2 : (M2 : Int) ≤ 16 := by omega
  have m3 : (M10 : Int) ≤ 80 := by omega
  clear hnext hT hB hB1 hT1 bt0 hm
  go_enter Tryd.func9, Tryd.ntmps9
  go_wp2_with (first
    | (go_at_call 22; refine hask.mono ?_; rintro e w2 ⟨vf, vt, rfl, rf, rt, hb⟩; obtain ⟨fa, fc, rfl⟩ := rf.form; obtain ⟨ta, tc, rfl⟩ := rt.form; obtain ⟨hc2, hrows⟩ := HN.out _ _ w2 rf rt hb; clear HN rf rt hb hask hc0)
    | (go_at_call 23; refine hrows.mono ?_; rintro e w3 ⟨rfl, hc3, hS⟩; have hc4 : (w3.alloc (.cells cs 32)).cell? ⟨w.heap.size, 0, none⟩ = some (.int .i64 m) := Lib.cell?_alloc_some _ hc3; have HS : Hid _ := hS; clear hS hrows hc2))
  go_region
  all_goals
    go_wp2
    go_ret2
    exact ⟨w3.heap.size, rfl, (HS.out 1).1, by simp, (HS.out 1).2⟩

set_option maxRecDepth 100000 in
set_option maxHeartbeats 1000000 in
theorem newJoiner_ok (m M2 M8 M20 b N : Nat) (w : World) (hm : (m = 4 ∧ M2 = 8 ∧ M8 = 32 ∧ M20 = 80) ∨ (m = 8 ∧ M2 = 16 ∧ M8 = 64 ∧ M20 = 160)) (hT : Wave.Tab w) (hB : Bank.Bank b [] 0 N w) :
    Calls Tryd.prog 15 #[.pointer (some ⟨b, 0, none⟩), .int .i64 m] w fun e w' => ∃ gl, e = .returned (.tuple #[.pointer (some ⟨gl + 1, 0, none⟩), .int .i64 0]) ∧
      Joi w.heap.size gl m (List.replicate (20 * m) 0) w' ∧ w'.heap.size = gl + 2 ∧ But b w w' := by
  have hbw : b < w.heap.size := by have := hB.1; have := hB.2.1; omega
  obtain ⟨hB1, hT1, bt0⟩ := Bank.boxed hB hT #[.int .i64 m] 3
  have hask := ask_ok m M8 b N (w.alloc (.cells #[.int .i64 m] 3)) (by omega) hT1 hB1
  have hc0 : (w.alloc (.cells #[.int .i64 m] 3)).cell? ⟨w.heap.size, 0, none⟩ = some (.int .i64 m) := (Blk.new w #[.int .i64 m] 3).cell (o := 0) rfl
  have hnext : ∀ vf vt w2, Reads .i16 (w.alloc (.cells #[.int .i64 m] 3)).heap.size w2.heap.size w2 vf (M.hs m) → Reads .i16 (w.alloc (.cells #[.int .i64 m] 3)).heap.size w2.heap.size w2 vt (M.tn m) → But b (w.alloc (.cells #[.int .i64 m] 3)) w2 →
      (w2.alloc (.cells #[vt] 22)).cell? ⟨w.heap.size, 0, none⟩ = some (.int .i64 m) ∧
      Calls Tryd.prog 23 #[.int .i64 M2, .int .i64 m, .func (.func 32) #[] #[.pointer (some ⟨w2.heap.size, 0, none⟩), .pointer (some ⟨w.heap.size, 0, none⟩)]] (w2.alloc (.cells #[vt] 22)) fun e w' =>
        e = .returned (.slice (some ⟨w2.heap.size + 1, 0, none⟩) M2 M2) ∧ w'.cell? ⟨w.heap.size, 0, none⟩ = some (.int .i64 m) ∧
          ∀ n, Joi w.heap.size w'.heap.size m (List.replicate (20 * m) 0) (((w'.drewN n).alloc (.cells (enc .i32 (List.replicate M20 0)).toArray 21)).alloc (.cells #[.int .i64 m, vf, .slice (some ⟨w2.heap.size + 1, 0, none⟩) M2 M2, .slice (some ⟨w'.heap.size, 0, none⟩) M20 M20] 90)) ∧ But b w (((w'.drewN n).alloc (.cells (enc .i32 (List.replicate M20 0)).toArray 21)).alloc (.cells #[.int .i64 m, vf, .slice (some ⟨w2.heap.size + 1, 0, none⟩) M2 M2, .slice (some ⟨w'.heap.size, 0, none⟩) M20 M20] 90)) := by
    intro vf vt w2 rf rt hb
    have hs2 := hb.size
    simp only [alloc_size] at hs2 rf rt
    have cm : w2.cell? ⟨w.heap.size, 0, none⟩ = some (.int .i64 m) := (hb.blk (Blk.new w _ _) (by omega)).cell (o := 0) rfl
    refine ⟨Lib.cell?_alloc_some _ cm, (mid_rows (M8 := M8) (C := M2) (L := m) (N := N) (by omega) hbw hb rt (.inr ⟨rfl, rfl⟩) (by omega) (by omega)).mono ?_⟩
    rintro e w' ⟨rfl, hrows, hbel, hcm⟩
    have hs3 := hbel.size
    simp only [alloc_size] at hs3
    have e10 : M20 = 20 * m := by omega
    have e2 : M2 = 2 * m := by omega
    refine ⟨rfl, hcm, fun n => ⟨⟨by omega, by simp, ?_, by simp, zeros32 _, vf, .slice (some ⟨w2.heap.size + 1, 0, none⟩) M2 M2, ?_, ?_, ?_⟩, ?_⟩⟩
    · rw [e10]
      exact (Blk.new (w'.drewN n) _ _).alloc _
    · rw [← e10]
      have := Blk.new ((w'.drewN n).alloc (.cells (enc .i32 (List.replicate M20 0)).toArray 21)) #[.int .i64 m, vf, .slice (some ⟨w2.heap.size + 1, 0, none⟩) M2 M2, .slice (some ⟨w'.heap.size, 0, none⟩) M20 M20] 90
      rw [alloc_size] at this
      exact this
    · have bF := two_new w' n (enc .i32 (List.replicate M20 0)).toArray #[.int .i64 m, vf, .slice (some ⟨w2.heap.size + 1, 0, none⟩) M2 M2, .slice (some ⟨w'.heap.size, 0, none⟩) M20 M20] 21 90
      exact (((rf.below ((Below.refl _ _).alloc (Nat.le_refl w2.heap.size) (.cells #[vt] 22)) (Nat.le_refl _)).below hbel (by omega)).below bF (by omega)).mono (by omega) (by omega)
    · have bF := two_new w' n (enc .i32 (List.replicate M20 0)).toArray #[.int .i64 m, vf, .slice (some ⟨w2.heap.size + 1, 0, none⟩) M2 M2, .slice (some ⟨w'.heap.size, 0, none⟩) M20 M20] 21 90
      have hr := (hrows.below bF (Nat.le_refl _)).mono (lo' := w.heap.size) (hi' := w'.heap.size) (by omega) (Nat.le_refl _)
      have e3 : ((List.range M2).map fun i : Nat => (List.range m).map fun j : Nat => M.wv m (2 * (j : Int) + 1) (2 * (i : Int) + m)) = (List.range (2 * m)).map (M.wj m) := by rw [e2]; rfl
      rw [← e3]
      exact hr
    · have bF := two_new w' n (enc .i32 (List.replicate M20 0)).toArray #[.int .i64 m, vf, .slice (some ⟨w2.heap.size + 1, 0, none⟩) M2 M2, .slice (some ⟨w'.heap.size, 0, none⟩) M20 M20] 21 90
      exact But.below' (But.below' (But.below' (bt0.trans hb) ((Below.refl _ _).alloc (Nat.le_refl w2.heap.size) (.cells #[vt] 22)) (by omega)) hbel (by omega)) bF (by omega)
  have HN : Hid _ := hnext
  have hmk : ∀ wx : World, (Instr.makeSlice 33 (.int .i64 M20) (.int .i64 M20)).run Tryd.prog wx = .ok (.slice (some ⟨wx.heap.size, 0, none⟩) M20 M20) (wx.alloc (.cells (enc .i32 (List.replicate M20 0)).toArray 21)) := fun wx => make32 wx M20 (by omega)
  generalize (enc .i32 (List.replicate M20 0)).toArray = cs at hmk HN
  have e2 : 2 * (m : Int) = (M2 : Int) := by omega
  have e10 : 20 * (m : Int) = (M20 : Int) := by omega
  have m1 : (m : Int) ≤ 8 := by omega
  have m2 : (M2 : Int) ≤ 16 := by omega
  have m3 : (M20 : Int) ≤ 160 := by omega
  clear hnext hT hB hB1 hT1 bt0 hm
  go_enter Tryd.func15, Tryd.ntmps15
  go_wp2_with (first
    | (go_at_call 22; refine hask.mono ?_; rintro e w2 ⟨vf, vt, rfl, rf, rt, hb⟩; obtain ⟨fa, fc, rfl⟩ := rf.form; obtain ⟨ta, tc, rfl⟩ := rt.form; obtain ⟨hc2, hrows⟩ := HN.out _ _ w2 rf rt hb; clear HN rf rt hb hask hc0)
    | (go_at_call 23; refine hrows.mono ?_; rintro e w3 ⟨rfl, hc3, hS⟩; have hc4 : (w3.alloc (.cells cs 21)).cell? ⟨w.heap.size, 0, none⟩ = some (.int .i64 m) := Lib.cell?_alloc_some _ hc3; have HS : Hid _ := hS; clear hS hrows hc2))
  go_region
  all_goals
    go_wp2
    go_ret2
    exact ⟨w3.heap.size, rfl, (HS.out 1).1, by simp, (HS.out 1).2⟩

end Poly
end Go.Proofs.YtkmkackifihhjaaDoor
