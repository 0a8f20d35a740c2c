/-
  What is asked in the laws of layer 4 (bank), of a bank and of the document. Conditions: each number fits its kind; the polynomial's numbers stand as their initialiser lays them; one goroutine.
-/
import Derived.Test.YtfmjdlaalkjfeaaDoorBankSame
namespace Go.Proofs.YtfmjdlaalkjfeaaDoor
open Go.RowKit
namespace Bank

/-- the kind that a question means -/
def kap (k : Int) : Nat := if k = 0 then 0 else if k = 1 then 1 else 2
theorem grown_of_below {w w' : World} (h : Below w.heap.size w w') : w.grownBy w' none := ⟨h.os, h.tape, h.output, h.size, fun k hk _ => h.block k hk⟩
theorem owns_below {w w' : World} {base e size : Nat} {v : Value} {n : Nat} {xs : List Value} (h : w.ownsRow base e size v n xs) (hb : Below w.heap.size w w') : w'.ownsRow base e size v n xs :=
  h.kept (grown_of_below hb) (by cases v.ownBlock <;> simp)
theorem Told.below {b κ n : Nat} {D : List (Nat × Nat)} {t : Int} {v : Value} {w w1 w' : World} (h : Told b κ n D t v w w1) (hb : Below w1.heap.size w1 w') : Told b κ n D t v w w' := by
  obtain ⟨X, h1, h2, h3, h4⟩ := h
  exact ⟨X, owns_below h1 hb, h2, h3.below hb h3.2.1, h4.trans (But.of_below hb (Nat.le_refl _))⟩
theorem Told.of_boxed {b κ n : Nat} {D : List (Nat × Nat)} {t : Int} {v : Value} {w w1 w' : World} (hb : Below w.heap.size w w1) (h : Told b κ n D t v w1 w') : Told b κ n D t v w w' := by
  obtain ⟨X, h1, h2, h3, h4⟩ := h
  exact ⟨X, h1, Nat.le_trans hb.size h2, h3, (But.of_below hb (Nat.le_refl _)).trans h4⟩

/-- what a question that is met leaves -/
def Asked (b κ n : Nat) (D : List (Nat × Nat)) (t : Int) (e : Ending) (w w' : World) : Prop :=
  ∃ v r, e = .returned (.tuple #[v, .int .i64 0, r]) ∧ Told b κ n D t v w w' ∧ ∃ B, w'.ownsRow B 35 1 r (M.ts κ n) (M.tabl κ n)
theorem asked {b κ n : Nat} {D : List (Nat × Nat)} {t : Int} {v r : Value} {w w1 w2 w' : World} (hb : Below w.heap.size w w1) (h : Told b κ n D t v w1 w2)
    (ho : w'.ownsRow w2.heap.size 35 1 r (M.ts κ n) (M.tabl κ n)) (hb2 : Below w2.heap.size w2 w') : Asked b κ n D t (.returned (.tuple #[v, .int .i64 0, r])) w w' :=
  ⟨v, r, rfl, (h.of_boxed hb).below hb2, _, ho⟩
/-- the question's own cells behind the bank's answer -/
theorem box_kept {b κ n : Nat} {D : List (Nat × Nat)} {t : Int} {v : Value} {w w2 : World} {c : Array Value} {ty : TypeId} (h : Told b κ n D t v (w.alloc (.cells c ty)) w2) (hbw : b < w.heap.size) : Blk w2 w.heap.size c ty := by
  obtain ⟨X, h1, h2, h3, h4⟩ := h
  exact h4.blk (Blk.new w c ty) (by omega)

set_option maxRecDepth 100000 in
set_option maxHeartbeats 1600000 in
theorem ask_ok (b n : Nat) (kind : Int) (D : List (Nat × Nat)) (t : Int) (N : Nat) (w : World) (hok : M.okT (kap kind) n) (hT : Wave.Tab w) (hB : Bank b D t N w) (hD : D.length ≤ 1000000) (t0 : 0 ≤ t) (t1 : t ≤ 1000000) :
    Calls Tryd.prog 8 #[.pointer (some ⟨b, 0, none⟩), .agg #[.int .i64 kind, .int .i64 n]] w fun e w' => Asked b (kap kind) n D t e w w' := by
  obtain ⟨hB1, hT1, _⟩ := boxed hB hT #[.int .i64 kind, .int .i64 n] 31
  have hbw : b < w.heap.size := by have := hB.1; have := hB.2.1; omega
  have bel : Below w.heap.size w (w.alloc (.cells #[.int .i64 kind, .int .i64 n] 31)) := (Below.refl _ _).alloc (Nat.le_refl _) _
  have hn1 := Blk.new w #[.int .i64 kind, .int .i64 n] 31
  have hc0 : (w.alloc (.cells #[.int .i64 kind, .int .i64 n] 31)).cell? ⟨w.heap.size, 0, none⟩ = some (.int .i64 kind) := hn1.cell (o := 0) rfl
  have hc1 : (w.alloc (.cells #[.int .i64 kind, .int .i64 n] 31)).cell? ⟨w.heap.size, 1, none⟩ = some (.int .i64 n) := hn1.cell (o := 1) rfl
  rcases (by omega : kind = 0 ∨ kind = 1 ∨ (¬ kind = 0 ∧ ¬ kind = 1)) with rfl | rfl | ⟨k0, k1⟩
  · have hans := turn_ok n b D t N _ hok hT1 hB1 hD t0 t1
    clear hB1 hT1 hB hT hn1
    go_enter Tryd.func8, Tryd.ntmps8
    go_wp2_with (first
      | (go_at_call 12; refine hans.mono ?_; rintro e w2 ⟨v, rfl, ht⟩; have hc2 := (box_kept ht hbw).cell (o := 1) rfl; simp only [List.getElem_toArray, List.getElem_cons_succ, List.getElem_cons_zero] at hc2)
      | (go_at_call 15; refine (rturn_ok n _ hok).mono ?_; rintro e w' ⟨r, rfl, ho, hb2⟩))
    go_ret3
    exact asked bel ht ho hb2
  · have hans := slope_ok n b D t N _ hok hT1 hB1 hD t0 t1
    clear hB1 hT1 hB hT hn1
    go_enter Tryd.func8, Tryd.ntmps8
    go_wp2_with (first
      | (go_at_call 13; refine hans.mono ?_; rintro e w2 ⟨v, rfl, ht⟩; have hc2 := (box_kept ht hbw).cell (o := 1) rfl; simp only [List.getElem_toArray, List.getElem_cons_succ, List.getElem_cons_zero] at hc2)
      | (go_at_call 16; refine (rslope_ok n _ hok).mono ?_; rintro e w' ⟨r, rfl, ho, hb2⟩))
    go_ret3
    exact asked bel ht ho hb2
  · have hk : kap kind = 2 := by unfold kap; rw [if_neg k0, if_neg k1]
    rw [hk] at hok ⊢
    have hans := filter_ok n b D t N _ hok hT1 hB1 hD t0 t1
    have e0 : (kind == 0) = false := by simpa using k0
    have e1 : (kind == 1) = false := by simpa using k1
    clear hB1 hT1 hB hT hn1
    go_enter Tryd.func8, Tryd.ntmps8
    go_wp2_with (first
      | (go_at_call 14; refine hans.mono ?_; rintro e w2 ⟨v, rfl, ht⟩; have hc2 := (box_kept ht hbw).cell (o := 1) rfl; simp only [List.getElem_toArray, List.getElem_cons_succ, List.getElem_cons_zero] at hc2)
      | (go_at_call 17; refine (rfilter_ok n _ hok).mono ?_; rintro e w' ⟨r, rfl, ho, hb2⟩))
    go_ret3
    exact asked bel ht ho hb2

/-- a question that can't be met -/
def Wrong (kind n : Int) : Prop := ∀ m : Nat, n = m → ¬ M.okT (kap kind) m
theorem wrong0 {n : Int} (h : Wrong 0 n) : ¬ (4 ≤ n ∧ n ≤ 1024 ∧ n % 4 = 0) := fun hc => h n.toNat (by omega) (.inl ⟨rfl, by omega, by omega, by omega⟩)
theorem wrong1 {n : Int} (h : Wrong 1 n) : ¬ (1 ≤ n ∧ n ≤ 128) := fun hc => h n.toNat (by omega) (.inr (.inl ⟨rfl, by omega, by omega⟩))
theorem wrong2 {kind n : Int} (hk : kap kind = 2) (h : Wrong kind n) : ¬ (n = 4 ∨ n = 8) := fun hc => h n.toNat (by omega) (by rw [hk]; exact .inr (.inr ⟨rfl, by omega⟩))
theorem right_or_wrong (kind n : Int) : (∃ m : Nat, n = m ∧ M.okT (kap kind) m) ∨ Wrong kind n := by
  by_cases h : ∃ m : Nat, n = m ∧ M.okT (kap kind) m
  · exact .inl h
  · exact .inr fun m e ho => h ⟨m, e, ho⟩

set_option maxRecDepth 100000 in
theorem ask_err (b : Nat) (kind n : Int) (w : World) (hw : Wrong kind n) :
    Calls Tryd.prog 8 #[.pointer (some ⟨b, 0, none⟩), .agg #[.int .i64 kind, .int .i64 n]] w fun e w' => e = .returned (.tuple #[.slice none 0 0, .int .i64 1, .slice none 0 0]) ∧ Below w.heap.size w w' := by
  have bel : Below w.heap.size w (w.alloc (.cells #[.int .i64 kind, .int .i64 n] 31)) := (Below.refl _ _).alloc (Nat.le_refl _) _
  have hn1 := Blk.new w #[.int .i64 kind, .int .i64 n] 31
  have hc0 : (w.alloc (.cells #[.int .i64 kind, .int .i64 n] 31)).cell? ⟨w.heap.size, 0, none⟩ = some (.int .i64 kind) := hn1.cell (o := 0) rfl
  have hc1 : (w.alloc (.cells #[.int .i64 kind, .int .i64 n] 31)).cell? ⟨w.heap.size, 1, none⟩ = some (.int .i64 n) := hn1.cell (o := 1) rfl
  have hk2 : ∀ w2, Below (w.alloc (.cells #[.int .i64 kind, .int .i64 n] 31)).heap.size (w.alloc (.cells #[.int .i64 kind, .int .i64 n] 31)) w2 → w2.cell? ⟨w.heap.size, 1, none⟩ = some (.int .i64 n) ∧ Below w.heap.size w w2 := fun w2 h =>
    ⟨(h.cell (p := ⟨w.heap.size, 1, none⟩) (by simp)).trans hc1, bel.trans (h.mono (by simp))⟩
  have HK : Hid _ := hk2
  clear hk2
  rcases (by omega : kind = 0 ∨ kind = 1 ∨ (¬ kind = 0 ∧ ¬ kind = 1)) with rfl | rfl | ⟨k0, k1⟩
  · have hw' := wrong0 hw
    go_enter Tryd.func8, Tryd.ntmps8
    go_wp2_with (first
      | (go_at_call 12; refine (turn_err n b _ hw').mono ?_; rintro e w2 ⟨rfl, hb⟩; obtain ⟨hc2, hb2⟩ := HK.out w2 hb)
      | (go_at_call 15; refine (rturn_err n _ hw').mono ?_; rintro e w' ⟨rfl, rfl⟩))
    go_ret3
    exact ⟨rfl, hb2⟩
  · have hw' := wrong1 hw
    go_enter Tryd.func8, Tryd.ntmps8
    go_wp2_with (first
      | (go_at_call 13; refine (slope_err n b _ hw').mono ?_; rintro e w2 ⟨rfl, hb⟩; obtain ⟨hc2, hb2⟩ := HK.out w2 hb)
      | (go_at_call 16; refine (rslope_err n _ hw').mono ?_; rintro e w' ⟨rfl, rfl⟩))
    go_ret3
    exact ⟨rfl, hb2⟩
  · have hw' := wrong2 (by unfold kap; rw [if_neg k0, if_neg k1]) hw
    have e0 : (kind == 0) = false := by simpa using k0
    have e1 : (kind == 1) = false := by simpa using k1
    go_enter Tryd.func8, Tryd.ntmps8
    go_wp2_with (first
      | (go_at_call 14; refine (filter_err n b _ hw').mono ?_; rintro e w2 ⟨rfl, hb⟩; obtain ⟨hc2, hb2⟩ := HK.out w2 hb)
      | (go_at_call 17; refine (rfilter_err n _ hw').mono ?_; rintro e w' ⟨rfl, rfl⟩))
    go_ret3
    exact ⟨rfl, hb2⟩

theorem rturn_all (n : Int) (w : World) : Calls Tryd.prog 15 #[.int .i64 n] w fun e w' => ∃ r, e = .returned r ∧ Below w.heap.size w w' := by
  rcases right_or_wrong 0 n with ⟨m, rfl, h⟩ | h
  · exact (rturn_ok m w h).mono fun e w' ⟨r, he, _, hb⟩ => ⟨r, he, hb⟩
  · exact (rturn_err n w (wrong0 h)).mono fun e w' ⟨he, hw⟩ => ⟨_, he, hw ▸ Below.refl _ _⟩
theorem rslope_all (n : Int) (w : World) : Calls Tryd.prog 16 #[.int .i64 n] w fun e w' => ∃ r, e = .returned r ∧ Below w.heap.size w w' := by
  rcases right_or_wrong 1 n with ⟨m, rfl, h⟩ | h
  · exact (rslope_ok m w h).mono fun e w' ⟨r, he, _, hb⟩ => ⟨r, he, hb⟩
  · exact (rslope_err n w (wrong1 h)).mono fun e w' ⟨he, hw⟩ => ⟨_, he, hw ▸ Below.refl _ _⟩
theorem rfilter_all (n : Int) (w : World) : Calls Tryd.prog 17 #[.int .i64 n] w fun e w' => ∃ r, e = .returned r ∧ Below w.heap.size w w' := by
  rcases right_or_wrong 2 n with ⟨m, rfl, h⟩ | h
  · exact (rfilter_ok m w h).mono fun e w' ⟨r, he, _, hb⟩ => ⟨r, he, hb⟩
  · exact (rfilter_err n w (wrong2 rfl h)).mono fun e w' ⟨he, hw⟩ => ⟨_, he, hw ▸ Below.refl _ _⟩

set_option maxRecDepth 100000 in
theorem ask_nil (kind n : Int) (w : World) :
    Calls Tryd.prog 8 #[.pointer none, .agg #[.int .i64 kind, .int .i64 n]] w fun e w' => ∃ r, e = .returned (.tuple #[.slice none 0 0, .int .i64 3, r]) ∧ Below w.heap.size w w' := by
  have bel : Below w.heap.size w (w.alloc (.cells #[.int .i64 kind, .int .i64 n] 31)) := (Below.refl _ _).alloc (Nat.le_refl _) _
  have hn1 := Blk.new w #[.int .i64 kind, .int .i64 n] 31
  have hc0 : (w.alloc (.cells #[.int .i64 kind, .int .i64 n] 31)).cell? ⟨w.heap.size, 0, none⟩ = some (.int .i64 kind) := hn1.cell (o := 0) rfl
  have hc1 : (w.alloc (.cells #[.int .i64 kind, .int .i64 n] 31)).cell? ⟨w.heap.size, 1, none⟩ = some (.int .i64 n) := hn1.cell (o := 1) rfl
  have hk2 : ∀ w2, Below (w.alloc (.cells #[.int .i64 kind, .int .i64 n] 31)).heap.size (w.alloc (.cells #[.int .i64 kind, .int .i64 n] 31)) w2 → w2.cell? ⟨w.heap.size, 1, none⟩ = some (.int .i64 n) ∧ Below w.heap.size w w2 := fun w2 h =>
    ⟨(h.cell (p := ⟨w.heap.size, 1, none⟩) (by simp)).trans hc1, bel.trans (h.mono (by simp))⟩
  have HK : Hid _ := hk2
  clear hk2
  rcases (by omega : kind = 0 ∨ kind = 1 ∨ (¬ kind = 0 ∧ ¬ kind = 1)) with rfl | rfl | ⟨k0, k1⟩
  · go_enter Tryd.func8, Tryd.ntmps8
    go_wp2_with (first
      | (go_at_call 12; refine (turn_nil n _).mono ?_; rintro e w2 ⟨rfl, hb⟩; obtain ⟨hc2, hb2⟩ := HK.out w2 hb)
      | (go_at_call 15; refine (rturn_all n _).mono ?_; rintro e w' ⟨r, rfl, hb3⟩))
    go_ret3
    exact ⟨_, rfl, hb2.trans (hb3.mono hb2.size)⟩
  · go_enter Tryd.func8, Tryd.ntmps8
    go_wp2_with (first
      | (go_at_call 13; refine (slope_nil n _).mono ?_; rintro e w2 ⟨rfl, hb⟩; obtain ⟨hc2, hb2⟩ := HK.out w2 hb)
      | (go_at_call 16; refine (rslope_all n _).mono ?_; rintro e w' ⟨r, rfl, hb3⟩))
    go_ret3
    exact ⟨_, rfl, hb2.trans (hb3.mono hb2.size)⟩
  · have e0 : (kind == 0) = false := by simpa using k0
    have e1 : (kind == 1) = false := by simpa using k1
    go_enter Tryd.func8, Tryd.ntmps8
    go_wp2_with (first
      | (go_at_call 14; refine (filter_nil n _).mono ?_; rintro e w2 ⟨rfl, hb⟩; obtain ⟨hc2, hb2⟩ := HK.out w2 hb)
      | (go_at_call 17; refine (rfilter_all n _).mono ?_; rintro e w' ⟨r, rfl, hb3⟩))
    go_ret3
    exact ⟨_, rfl, hb2.trans (hb3.mono hb2.size)⟩

end Bank
end Go.Proofs.YtfmjdlaalkjfeaaDoor
