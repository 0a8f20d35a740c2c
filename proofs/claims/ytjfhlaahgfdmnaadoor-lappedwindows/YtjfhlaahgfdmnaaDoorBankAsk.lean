/-
  What a bank answers to a question. Conditions: the polynomial's numbers stand as their initialiser lays them; one goroutine.
-/
import Derived.Test.YtjfhlaahgfdmnaaDoorBankFace
namespace Go.Proofs.YtjfhlaahgfdmnaaDoor
open Go.RowKit
namespace Bank

/-- a variable of its own for the parameter: the bank is as it was -/
theorem boxed {b : Nat} {D : List (Nat × Nat)} {t : Int} {N : Nat} {w : World} (hB : Bank b D t N w) (hT : Wave.Tab w) (c : Array Value) (ty : TypeId) :
    Bank b D t N (w.alloc (.cells c ty)) ∧ Wave.Tab (w.alloc (.cells c ty)) ∧ But b w (w.alloc (.cells c ty)) := by
  have hbel : Below w.heap.size w (w.alloc (.cells c ty)) := (Below.refl _ _).alloc (Nat.le_refl _) _
  exact ⟨hB.below hbel hB.2.1, tab_below hbel (Nat.le_refl _) hT, But.of_below hbel (Nat.le_refl _)⟩
theorem told_boxed {b κ n : Nat} {D : List (Nat × Nat)} {t : Int} {v : Value} {w w' : World} {c : Array Value} {ty : TypeId} (h : Told b κ n D t v (w.alloc (.cells c ty)).drew w') : Told b κ n D t v w w' := by
  obtain ⟨X, h1, h2, h3, h4⟩ := h
  have hbel : Below w.heap.size w (w.alloc (.cells c ty)) := (Below.refl _ _).alloc (Nat.le_refl _) _
  exact ⟨X, h1, Nat.le_trans hbel.size h2, h3, (But.of_below hbel (Nat.le_refl _)).drew.trans h4⟩

theorem wrap_id (n : Int) (h0 : -9223372036854775808 ≤ n) (h1 : n ≤ 9223372036854775807) : IntKind.i64.wrap n = n := by rw [IntKind.wrap_i64]; omega

set_option maxRecDepth 100000 in
set_option maxHeartbeats 1600000 in
theorem turn_ok (n b : Nat) (D : List (Nat × Nat)) (t : Int) (N : Nat) (w : World) (hok : M.okT 0 n) (hT : Wave.Tab w) (hB : Bank b D t N w) (hD : D.length ≤ 1000000) (t0 : 0 ≤ t) (t1 : t ≤ 1000000) :
    Calls Tryd.prog 43 #[.pointer (some ⟨b, 0, none⟩), .int .i64 n] w fun e w' => ∃ v, e = .returned (.tuple #[v, .int .i64 0]) ∧ Told b 0 n D t v w w' := by
  obtain ⟨hB1, hT1, _⟩ := boxed hB hT #[.int .i64 n] 3
  have hn1 := Blk.new w #[.int .i64 n] 3
  have hc1 : (w.alloc (.cells #[.int .i64 n] 3)).cell? ⟨w.heap.size, 0, none⟩ = some (.int .i64 n) := hn1.cell (o := 0) rfl
  obtain ⟨j, hj1, hj2⟩ : ∃ j, n = 4 * (j + 1) ∧ j < 256 := ⟨n / 4 - 1, by rcases hok with h | h | h <;> omega, by rcases hok with h | h | h <;> omega⟩
  have ej : j * 4 = 4 * M.tj 0 n := by show j * 4 = 4 * (n / 4 - 1); omega
  have htell := tell_any 0 n b w.heap.size (j * 4) D t N (w.alloc (.cells #[.int .i64 n] 3)).drew hok ej hT1 hB1 hD t0 t1 hn1
  have e1 : M.ts 0 n = n := rfl
  have e2 : fn 0 = 57 := rfl
  rw [e1, e2] at htell
  have hdiv : (n : Int).tdiv 4 = (j : Int) + 1 := by rw [Int.tdiv_eq_ediv]; split <;> omega
  have hmod : (n : Int).tmod 4 = 0 := by rw [Int.tmod_eq_emod]; split <;> omega
  have i1 : ¬ (n : Int) < 4 := by omega
  have i2 : ¬ (1024 : Int) < n := by omega
  have i5 : (0 : Int) ≤ j ∧ (j : Int) < 256 := by omega
  have w1 := wrap_id ((j : Int) + 1) (by omega) (by omega)
  have w2 := wrap_id (j : Int) (by omega) (by omega)
  clear hB1 hT1 hn1 hB hT hj1 ej e1 e2 hok
  go_enter Tryd.func43, Tryd.ntmps43
  go_wp2
  go_region_with (go_at_call 42; refine htell.mono ?_; rintro e w' ⟨v, rfl, ht⟩)
  all_goals
    go_wp2
    go_ret2
    exact ⟨_, rfl, told_boxed ht⟩

set_option maxRecDepth 100000 in
set_option maxHeartbeats 1600000 in
theorem slope_ok (n b : Nat) (D : List (Nat × Nat)) (t : Int) (N : Nat) (w : World) (hok : M.okT 1 n) (hT : Wave.Tab w) (hB : Bank b D t N w) (hD : D.length ≤ 1000000) (t0 : 0 ≤ t) (t1 : t ≤ 1000000) :
    Calls Tryd.prog 27 #[.pointer (some ⟨b, 0, none⟩), .int .i64 n] w fun e w' => ∃ v, e = .returned (.tuple #[v, .int .i64 0]) ∧ Told b 1 n D t v w w' := by
  obtain ⟨hB1, hT1, _⟩ := boxed hB hT #[.int .i64 n] 3
  have hn1 := Blk.new w #[.int .i64 n] 3
  have hc1 : (w.alloc (.cells #[.int .i64 n] 3)).cell? ⟨w.heap.size, 0, none⟩ = some (.int .i64 n) := hn1.cell (o := 0) rfl
  obtain ⟨j, hj1, hj2⟩ : ∃ j, n = j + 1 ∧ j < 128 := ⟨n - 1, by rcases hok with h | h | h <;> omega, by rcases hok with h | h | h <;> omega⟩
  have ej : 1024 + j * 4 = 4 * M.tj 1 n := by show 1024 + j * 4 = 4 * (255 + n); omega
  have htell := tell_any 1 n b w.heap.size (1024 + j * 4) D t N (w.alloc (.cells #[.int .i64 n] 3)).drew hok ej hT1 hB1 hD t0 t1 hn1
  have e1 : M.ts 1 n = n := rfl
  have e2 : fn 1 = 40 := rfl
  rw [e1, e2] at htell
  have hsub : (n : Int) - 1 = j := by omega
  have i1 : ¬ (n : Int) < 1 := by omega
  have i2 : ¬ (128 : Int) < n := by omega
  have i5 : (0 : Int) ≤ j ∧ (j : Int) < 128 := by omega
  have w2 := wrap_id (j : Int) (by omega) (by omega)
  clear hB1 hT1 hn1 hB hT hj1 ej e1 e2 hok
  go_enter Tryd.func27, Tryd.ntmps27
  go_wp2
  go_region_with (go_at_call 42; refine htell.mono ?_; rintro e w' ⟨v, rfl, ht⟩)
  all_goals
    go_wp2
    go_ret2
    exact ⟨_, rfl, told_boxed ht⟩

/-- a question that can't be: nothing is told, nothing turns -/
theorem turn_err (n : Int) (b : Nat) (w : World) (h : ¬ (4 ≤ n ∧ n ≤ 1024 ∧ n % 4 = 0)) :
    Calls Tryd.prog 43 #[.pointer (some ⟨b, 0, none⟩), .int .i64 n] w fun e w' => e = .returned (.tuple #[.slice none 0 0, .int .i64 1]) ∧ Below w.heap.size w w' := by
  rcases (by omega : n < 4 ∨ (¬ n < 4 ∧ 1024 < n) ∨ (¬ n < 4 ∧ ¬ 1024 < n ∧ ¬ n % 4 = 0)) with h1 | ⟨h1, h2⟩ | ⟨h1, h2, h3⟩
  · go_enter Tryd.func43, Tryd.ntmps43
    go_wp2
    go_ret2
    exact ⟨rfl, (Below.refl _ _).alloc (Nat.le_refl _) _⟩
  · go_enter Tryd.func43, Tryd.ntmps43
    go_wp2
    go_ret2
    exact ⟨rfl, (Below.refl _ _).alloc (Nat.le_refl _) _⟩
  · have hmod : (n.tmod 4 != 0) = true := by
      have : ¬ n.tmod 4 = 0 := by rw [Int.tmod_eq_emod]; split <;> omega
      simpa using this
    go_enter Tryd.func43, Tryd.ntmps43
    go_wp2
    go_ret2
    exact ⟨rfl, (Below.refl _ _).alloc (Nat.le_refl _) _⟩

theorem slope_err (n : Int) (b : Nat) (w : World) (h : ¬ (1 ≤ n ∧ n ≤ 128)) :
    Calls Tryd.prog 27 #[.pointer (some ⟨b, 0, none⟩), .int .i64 n] w fun e w' => e = .returned (.tuple #[.slice none 0 0, .int .i64 1]) ∧ Below w.heap.size w w' := by
  rcases (by omega : n < 1 ∨ (¬ n < 1 ∧ 128 < n)) with h1 | ⟨h1, h2⟩
  · go_enter Tryd.func27, Tryd.ntmps27
    go_wp2
    go_ret2
    exact ⟨rfl, (Below.refl _ _).alloc (Nat.le_refl _) _⟩
  · go_enter Tryd.func27, Tryd.ntmps27
    go_wp2
    go_ret2
    exact ⟨rfl, (Below.refl _ _).alloc (Nat.le_refl _) _⟩

theorem turn_nil (n : Int) (w : World) :
    Calls Tryd.prog 43 #[.pointer none, .int .i64 n] w fun e w' => e = .returned (.tuple #[.slice none 0 0, .int .i64 3]) ∧ Below w.heap.size w w' := by
  go_enter Tryd.func43, Tryd.ntmps43
  go_wp2
  go_ret2
  exact ⟨rfl, (Below.refl _ _).alloc (Nat.le_refl _) _⟩

theorem slope_nil (n : Int) (w : World) :
    Calls Tryd.prog 27 #[.pointer none, .int .i64 n] w fun e w' => e = .returned (.tuple #[.slice none 0 0, .int .i64 3]) ∧ Below w.heap.size w w' := by
  go_enter Tryd.func27, Tryd.ntmps27
  go_wp2
  go_ret2
  exact ⟨rfl, (Below.refl _ _).alloc (Nat.le_refl _) _⟩

end Bank
end Go.Proofs.YtjfhlaahgfdmnaaDoor
