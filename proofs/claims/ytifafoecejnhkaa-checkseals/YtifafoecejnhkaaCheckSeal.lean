/-
  Contracts of check.Seal and check.Open. Conditions: the bytes stand in memory.
-/
import Derived.Test.YtifafoecejnhkaaCheckSum
import Derived.Deep.AppendLies
import Derived.BigQuiet
namespace Go.Proofs.Ytifafoecejnhkaa
set_option linter.unusedVariables false
open Go.RowKit
namespace Chk
open Bits (Blk But add_at wrap_id)
open Byt (Given)

/-- sealed bytes -/
def sealed (n s p : Nat) (xs : List Nat) : List Nat := xs ++ M.tail (n / 8) (M.run n p (M.bitL xs) s (8 * xs.length))
theorem sealed_length (n s p : Nat) (xs : List Nat) : (sealed n s p xs).length = xs.length + n / 8 := by simp [sealed, M.tail_length]
/-- bytes that a call made -/
def Made (w w' : World) (v : Value) (xs : List Nat) : Prop := w'.ownsRow w.heap.size 5 1 v xs.length (xs.map fun x : Nat => Value.int .u8 x)

set_option maxRecDepth 100000 in
set_option maxHeartbeats 1000000 in
theorem Seal_ok (n s p : Nat) (v : Value) (xs : List Nat) (w : World) (hk : Knd n s p) (hv : Given w v xs) (hl : xs.length ≤ 65000) :
    Calls Try.prog 12 #[.int .i64 n, v] w fun e w' => ∃ g cap, e = .returned (.tuple #[.slice (some ⟨g, 0, none⟩) (xs.length + n / 8) cap, .int .i64 0]) ∧ Made w w' (.slice (some ⟨g, 0, none⟩) (xs.length + n / 8) cap) (sealed n s p xs) ∧ Below w.heap.size w w' := by
  obtain ⟨i0, hi0, hz0, hz1, hz2⟩ := info_parts Byt.info8
  obtain ⟨a, c, rfl, hc⟩ := hv.form
  have hkd := kindOf_ok n s p w hk
  unfold kv at hkd
  have hS := M.run_lt n p s (8 * xs.length) (M.bitL xs) hk.p_lt hk.s_lt
  obtain ⟨R, hR⟩ : ∃ R, R = M.run n p (M.bitL xs) s (8 * xs.length) := ⟨_, rfl⟩
  have hso := fun w hv => sumOf_any n s p (.slice a xs.length c) xs w hk hv (by omega)
  have hla := fun w => laid_any n s p R w hk (by rw [hR]; exact hS)
  unfold sealed
  rw [← hR] at hso ⊢
  have hcl := fun w hv => Byt.clone_any (.slice a xs.length c) xs w hv (by omega)
  obtain ⟨N, hN, hN1, hN3⟩ := hk.eight
  have eN : n / 8 = N := by omega
  rw [eN] at hla ⊢
  unfold kv at hso hla
  clear hR hN hS
  go_enter Try.func12, Try.ntmps12
  go_wp2_with (go_at_call 16; refine hkd.mono ?_; clear hkd; rintro e w1 ⟨rfl, bel1⟩)
  have b2 : Below w1.heap.size w1 (w1.alloc (.cells #[.int .i64 n, .int .u32 s, .int .u32 p] 42)) := (Below.refl _ w1).alloc (Nat.le_refl _) _
  have hv2 := (hv.below bel1 (Nat.le_refl _)).below b2 (Nat.le_refl _)
  have hb2 : Blk (w1.alloc (.cells #[.int .i64 n, .int .u32 s, .int .u32 p] 42)) w1.heap.size #[.int .i64 n, .int .u32 s, .int .u32 p] 42 := Blk.new _ _ _
  obtain ⟨W, hW⟩ : ∃ W, W = w1.alloc (.cells #[.int .i64 n, .int .u32 s, .int .u32 p] 42) := ⟨_, rfl⟩
  rw [← hW] at b2 hv2 hb2 ⊢
  clear hW
  obtain ⟨c0, c1, c2⟩ := kv_cells hb2
  have hlt2 := hb2.lt
  have hv3 : Given W.drew (.slice a xs.length c) xs := hv2
  have lW : w1.heap.size < W.drew.heap.size := hlt2
  have one : ∀ ys : List Nat, ∀ u ∈ (ys.map fun x : Nat => Value.int .u8 x), u.oneCell' = true := fun ys u hu => by
    obtain ⟨x, _, rfl⟩ := List.mem_map.1 hu; rfl
  go_region_held3 (fun w' => w'.cell? ⟨w1.heap.size, 0, none⟩ = some (.int .i64 n) ∧ w'.cell? ⟨w1.heap.size, 1, none⟩ = some (.int .u32 s) ∧ w'.cell? ⟨w1.heap.size, 2, none⟩ = some (.int .u32 p))
    (first | go_keep | exact k5 | exact k4 | exact k3 | exact k2)
    (first
      | (go_at_call 18; refine (hcl _ hv3).mono ?_; clear hcl; rintro e w2 ⟨a2, cap2, rfl, own2, bel2⟩; have k2 := And.intro ((bel2.cell lW).trans c0) (And.intro ((bel2.cell lW).trans c1) ((bel2.cell lW).trans c2)))
      | (go_at_call 20; refine (hso _ (hv3.below bel2 (Nat.le_refl _))).mono ?_; clear hso; rintro e w3 ⟨rfl, bel3⟩; have l3 : w1.heap.size < w2.heap.size := Nat.lt_of_lt_of_le lW bel2.size; have k3 := And.intro ((bel3.cell l3).trans k2.1) (And.intro ((bel3.cell l3).trans k2.2.1) ((bel3.cell l3).trans k2.2.2)))
      | (go_at_call 19; refine (hla _).mono ?_; clear hla; rintro e w4 ⟨g4, rfl, own4, bel4⟩; have l4 : w1.heap.size < w3.heap.size := Nat.lt_of_lt_of_le l3 bel3.size; have k4 := And.intro ((bel4.cell l4).trans k3.1) (And.intro ((bel4.cell l4).trans k3.2.1) ((bel4.cell l4).trans k3.2.2)); have own5 := Byt.owns_below (Byt.owns_below own2 bel3 (Nat.le_refl _)) bel4 (Nat.le_refl _); have lb : W.drew.heap.size ≤ w4.heap.size := Nat.le_trans bel2.size (Nat.le_trans bel3.size bel4.size))
      | (refine step_append_lies _ (by rfl) _ _ _ (by rfl) W.drew.heap.size 5 i0 _ 1 1 Try.underlying22 hi0 hz0 hz1 hz2 rfl (by omega) _ xs.length (xs.map fun x : Nat => Value.int .u8 x) (by rfl) own5 ⟨g4, 0, none⟩ N N ((M.tail N R).map fun x : Nat => Value.int .u8 x) (by rfl) (by simp [M.tail_length]) (Byt.owns_news own4) (one _) (by omega) (by unfold maxLen; omega) (by omega) lb _ rfl ?_; intro g cap w5 hown5 hgrow hat hlt5; have l5 : w1.heap.size < w4.heap.size := Nat.lt_of_lt_of_le l4 bel4.size; have n5 := fun e => Nat.lt_irrefl _ (Nat.lt_of_lt_of_le lW (Byt.owns_block own5 w1.heap.size (Eq.symm e))); have k5 := And.intro ((hgrow.cell_far _ l5 n5).trans k4.1) (And.intro ((hgrow.cell_far _ l5 n5).trans k4.2.1) ((hgrow.cell_far _ l5 n5).trans k4.2.2))))
  all_goals go_wp2
  all_goals go_ret2
  all_goals (
    have belA : Below w.heap.size w W := bel1.trans (Bits.Below.less b2 bel1.size)
    have belB : Below w.heap.size w w4 := belA.trans (((Bits.Below.less (of_drew bel2) belA.size).trans (Bits.Below.less bel3 (Nat.le_trans belA.size bel2.size))).trans (Bits.Below.less bel4 (Nat.le_trans belA.size (Nat.le_trans bel2.size bel3.size))))
    refine ⟨g, cap, rfl, ?_, belB.grown hgrow belB.size (fun k hk => Nat.le_trans belA.size (Byt.owns_block own5 k hk))⟩
    unfold Made
    rw [List.length_append, M.tail_length, List.map_append]
    exact Byt.owns_base hown5 belA.size)

theorem given_tail {w : World} {base N R : Nat} {v : Value} (h : w.ownsRow base 5 1 v N ((M.tail N R).map fun x : Nat => Value.int .u8 x)) : Given w v (M.tail N R) :=
  Byt.given_own (base := base) (by rw [M.tail_length]; exact h) (M.tail_lt N R)

set_option maxRecDepth 100000 in
theorem Seal_no (n : Int) (a : Option Addr) (l c : Nat) (w : World) (h1 : n ≠ 8) (h2 : n ≠ 16) (h3 : n ≠ 24) :
    Calls Try.prog 12 #[.int .i64 n, .slice a l c] w fun e w' => e = .returned (.tuple #[.slice none 0 0, .int .i64 1]) ∧ Below w.heap.size w w' := by
  have hkd := kindOf_no n w h1 h2 h3
  unfold kv at hkd
  go_enter Try.func12, Try.ntmps12
  go_wp2_with (go_at_call 16; refine hkd.mono ?_; rintro e w1 ⟨rfl, bel1⟩)
  go_ret2
  have := bel1.size
  exact ⟨rfl, bel1.alloc (by omega) _⟩

set_option maxRecDepth 100000 in
theorem Open_no (n : Int) (a : Option Addr) (l c : Nat) (w : World) (h1 : n ≠ 8) (h2 : n ≠ 16) (h3 : n ≠ 24) :
    Calls Try.prog 14 #[.int .i64 n, .slice a l c] w fun e w' => e = .returned (.tuple #[.slice none 0 0, .int .i64 1]) ∧ Below w.heap.size w w' := by
  have hkd := kindOf_no n w h1 h2 h3
  unfold kv at hkd
  go_enter Try.func14, Try.ntmps14
  go_wp2_with (go_at_call 16; refine hkd.mono ?_; rintro e w1 ⟨rfl, bel1⟩)
  go_ret2
  have := bel1.size
  exact ⟨rfl, bel1.alloc (by omega) _⟩

set_option maxRecDepth 100000 in
set_option maxHeartbeats 1000000 in
theorem Open_short (n s p : Nat) (a : Option Addr) (l c : Nat) (w : World) (hk : Knd n s p) (hl : l < n / 8) :
    Calls Try.prog 14 #[.int .i64 n, .slice a l c] w fun e w' => e = .returned (.tuple #[.slice none 0 0, .int .i64 60]) ∧ Below w.heap.size w w' := by
  have hkd := kindOf_ok n s p w hk
  have hz := fun w => size_any n s p w hk
  unfold kv at hkd hz
  obtain ⟨N, hN, hN1, hN3⟩ := hk.eight
  have eN : n / 8 = N := by omega
  rw [eN] at hz hl
  clear hN eN
  have t1 : decide ((l : Int) - N < 0) = true := decide_eq_true (by omega)
  go_enter Try.func14, Try.ntmps14
  go_wp2_with (first
    | (go_at_call 16; refine hkd.mono ?_; clear hkd; rintro e w1 ⟨rfl, bel1⟩)
    | (go_at_call 22; refine (hz _).mono ?_; clear hz; rintro e w2 ⟨rfl, bel2⟩))
  go_quiet (fail)
  go_wp2
  go_ret2
  have b2 : Below w.heap.size w (w1.alloc (.cells #[.int .i64 n, .int .u32 s, .int .u32 p] 42)) := bel1.alloc bel1.size _
  exact ⟨rfl, Bits.Below.drewN' (b2.trans (Bits.Below.less bel2 b2.size)) _⟩

set_option maxRecDepth 100000 in
set_option maxHeartbeats 1000000 in
theorem Open_ok (n s p : Nat) (v : Value) (xs : List Nat) (m : Nat) (w : World) (hk : Knd n s p) (hv : Given w v xs) (hl : xs.length ≤ 65500) (hm : xs.length = m + n / 8) (heq : xs.drop m = M.tail (n / 8) (M.run n p (M.bitL (xs.take m)) s (8 * m))) :
    Calls Try.prog 14 #[.int .i64 n, v] w fun e w' => ∃ a cap, e = .returned (.tuple #[.slice a m cap, .int .i64 0]) ∧ Made w w' (.slice a m cap) (xs.take m) ∧ Below w.heap.size w w' := by
  obtain ⟨a, c, rfl, hc⟩ := hv.form
  have hkd := kindOf_ok n s p w hk
  have hz := fun w => size_any n s p w hk
  have hlm : (xs.take m).length = m := by simp; omega
  have hS := M.run_lt n p s (8 * m) (M.bitL (xs.take m)) hk.p_lt hk.s_lt
  have hsl := Byt.run_head a xs.length c m (by omega)
  have hsr := Byt.run_rest a xs.length c m (by omega)
  have gh := fun w (h : Given w (.slice a xs.length c) xs) => h.head m (by omega)
  have gr := fun w (h : Given w (.slice a xs.length c) xs) => h.drop m (by omega)
  have hso := fun v w (hv : Given w v (xs.take m)) => sumOf_any n s p v (xs.take m) w hk hv (by omega)
  rw [hlm] at hso
  obtain ⟨R, hR⟩ : ∃ R, R = M.run n p (M.bitL (xs.take m)) s (8 * m) := ⟨_, rfl⟩
  rw [← hR] at hso heq hS
  have hla := fun w => laid_any n s p R w hk hS
  have hcl := fun v w (hv : Given w v (xs.take m)) => Byt.clone_any v (xs.take m) w hv (by omega)
  rw [hlm] at hcl
  obtain ⟨N, hN, hN1, hN3⟩ := hk.eight
  have eN : n / 8 = N := by omega
  rw [eN] at hla hz hm heq
  have eL : xs.length - m = N := by omega
  rw [eL] at hsr gr
  obtain ⟨a1, ha1⟩ : ∃ a1, a1 = Byt.head_ a c := ⟨_, rfl⟩
  obtain ⟨a2, ha2⟩ : ∃ a2, a2 = Byt.from_ a c m := ⟨_, rfl⟩
  rw [← ha1] at hsl gh
  rw [← ha2] at hsr gr
  unfold kv at hso hla hkd hz
  have t1 : (xs.length : Int) - N = m := by omega
  have t2 : decide ((m : Int) < 0) = false := decide_eq_false (by omega)
  have heq' : Hid (xs.drop m = M.tail N R) := heq
  clear hR hN hS ha1 ha2 eN eL hm heq
  go_enter Try.func14, Try.ntmps14
  go_wp2_with (first
    | (go_at_call 16; refine hkd.mono ?_; clear hkd; rintro e w1 ⟨rfl, bel1⟩)
    | (go_at_call 22; refine (hz _).mono ?_; clear hz; rintro e w2 ⟨rfl, bel2⟩))
  have hb1 : Blk (w1.alloc (.cells #[.int .i64 n, .int .u32 s, .int .u32 p] 42)) w1.heap.size #[.int .i64 n, .int .u32 s, .int .u32 p] 42 := Blk.new _ _ _
  have bA : Below w.heap.size w (w1.alloc (.cells #[.int .i64 n, .int .u32 s, .int .u32 p] 42)) := bel1.alloc bel1.size _
  have belA : Below w.heap.size w w2 := bA.trans (Bits.Below.less bel2 bA.size)
  have hv2 := hv.below belA (Nat.le_refl _)
  have hb2 := Bits.Below.blk bel2 hb1 hb1.lt
  obtain ⟨c0, c1, c2⟩ := kv_cells hb2
  have lW : w1.heap.size < w2.drew.heap.size := hb2.lt
  have g2 : Given w2.drew (.slice a xs.length c) xs := hv2
  have gh2 := gh _ g2
  have gr2 := gr _ g2
  have j0 : (0 : Int) ≤ m := by omega
  go_region_held3 (fun w' => w'.cell? ⟨w1.heap.size, 0, none⟩ = some (.int .i64 n) ∧ w'.cell? ⟨w1.heap.size, 1, none⟩ = some (.int .u32 s) ∧ w'.cell? ⟨w1.heap.size, 2, none⟩ = some (.int .u32 p))
    (first | go_keep | exact k4 | exact k3)
    (first
      | (go_at_call 20; refine (hso _ _ gh2).mono ?_; clear hso; rintro e w3 ⟨rfl, bel3⟩; have k3 := And.intro ((bel3.cell lW).trans c0) (And.intro ((bel3.cell lW).trans c1) ((bel3.cell lW).trans c2)))
      | (go_at_call 19; refine (hla _).mono ?_; clear hla; rintro e w4 ⟨g4, rfl, own4, bel4⟩; have l4 : w1.heap.size < w3.heap.size := Nat.lt_of_lt_of_le lW bel3.size; have k4 := And.intro ((bel4.cell l4).trans k3.1) (And.intro ((bel4.cell l4).trans k3.2.1) ((bel4.cell l4).trans k3.2.2)); have gr4 := (gr2.below bel3 (Nat.le_refl _)).below bel4 (Nat.le_refl _); have gt4 := given_tail own4)
      | (go_at_call 23; refine (Byt.equal_any _ _ _ _ _ gr4 gt4).mono ?_; rw [decide_eq_true (show xs.drop m = M.tail N R from heq')]; rintro e w5 ⟨rfl, rfl⟩))
  all_goals (
    have gh5 := (gh2.below bel3 (Nat.le_refl _)).below bel4 (Nat.le_refl _)
    go_wp2_with (go_at_call 18; refine (hcl _ _ gh5).mono ?_; clear hcl; rintro e w6 ⟨a6, cap6, rfl, own6, bel6⟩)
    go_ret2
    have belB : Below w.heap.size w w5 := belA.trans ((Bits.Below.less (of_drew bel3) belA.size).trans (Bits.Below.less bel4 (Nat.le_trans belA.size bel3.size)))
    refine ⟨a6, cap6, rfl, ?_, belB.trans (Bits.Below.less bel6 belB.size)⟩
    unfold Made
    rw [hlm]
    exact Byt.owns_base own6 belB.size)

set_option maxRecDepth 100000 in
set_option maxHeartbeats 1000000 in
theorem Open_bad (n s p : Nat) (v : Value) (xs : List Nat) (m : Nat) (w : World) (hk : Knd n s p) (hv : Given w v xs) (hl : xs.length ≤ 65500) (hm : xs.length = m + n / 8) (heq : xs.drop m ≠ M.tail (n / 8) (M.run n p (M.bitL (xs.take m)) s (8 * m))) :
    Calls Try.prog 14 #[.int .i64 n, v] w fun e w' => e = .returned (.tuple #[.slice none 0 0, .int .i64 60]) ∧ Below w.heap.size w w' := by
  obtain ⟨a, c, rfl, hc⟩ := hv.form
  have hkd := kindOf_ok n s p w hk
  have hz := fun w => size_any n s p w hk
  have hlm : (xs.take m).length = m := by simp; omega
  have hS := M.run_lt n p s (8 * m) (M.bitL (xs.take m)) hk.p_lt hk.s_lt
  have hsl := Byt.run_head a xs.length c m (by omega)
  have hsr := Byt.run_rest a xs.length c m (by omega)
  have gh := fun w (h : Given w (.slice a xs.length c) xs) => h.head m (by omega)
  have gr := fun w (h : Given w (.slice a xs.length c) xs) => h.drop m (by omega)
  have hso := fun v w (hv : Given w v (xs.take m)) => sumOf_any n s p v (xs.take m) w hk hv (by omega)
  rw [hlm] at hso
  obtain ⟨R, hR⟩ : ∃ R, R = M.run n p (M.bitL (xs.take m)) s (8 * m) := ⟨_, rfl⟩
  rw [← hR] at hso heq hS
  have hla := fun w => laid_any n s p R w hk hS
  obtain ⟨N, hN, hN1, hN3⟩ := hk.eight
  have eN : n / 8 = N := by omega
  rw [eN] at hla hz hm heq
  have eL : xs.length - m = N := by omega
  rw [eL] at hsr gr
  obtain ⟨a1, ha1⟩ : ∃ a1, a1 = Byt.head_ a c := ⟨_, rfl⟩
  obtain ⟨a2, ha2⟩ : ∃ a2, a2 = Byt.from_ a c m := ⟨_, rfl⟩
  rw [← ha1] at hsl gh
  rw [← ha2] at hsr gr
  unfold kv at hso hla hkd hz
  have t1 : (xs.length : Int) - N = m := by omega
  have t2 : decide ((m : Int) < 0) = false := decide_eq_false (by omega)
  have heq' : Hid (xs.drop m ≠ M.tail N R) := heq
  clear hR hN hS ha1 ha2 eN eL hm heq
  go_enter Try.func14, Try.ntmps14
  go_wp2_with (first
    | (go_at_call 16; refine hkd.mono ?_; clear hkd; rintro e w1 ⟨rfl, bel1⟩)
    | (go_at_call 22; refine (hz _).mono ?_; clear hz; rintro e w2 ⟨rfl, bel2⟩))
  have hb1 : Blk (w1.alloc (.cells #[.int .i64 n, .int .u32 s, .int .u32 p] 42)) w1.heap.size #[.int .i64 n, .int .u32 s, .int .u32 p] 42 := Blk.new _ _ _
  have bA : Below w.heap.size w (w1.alloc (.cells #[.int .i64 n, .int .u32 s, .int .u32 p] 42)) := bel1.alloc bel1.size _
  have belA : Below w.heap.size w w2 := bA.trans (Bits.Below.less bel2 bA.size)
  have hv2 := hv.below belA (Nat.le_refl _)
  have hb2 := Bits.Below.blk bel2 hb1 hb1.lt
  obtain ⟨c0, c1, c2⟩ := kv_cells hb2
  have lW : w1.heap.size < w2.drew.heap.size := hb2.lt
  have g2 : Given w2.drew (.slice a xs.length c) xs := hv2
  have gh2 := gh _ g2
  have gr2 := gr _ g2
  have j0 : (0 : Int) ≤ m := by omega
  go_region_held3 (fun w' => w'.cell? ⟨w1.heap.size, 0, none⟩ = some (.int .i64 n) ∧ w'.cell? ⟨w1.heap.size, 1, none⟩ = some (.int .u32 s) ∧ w'.cell? ⟨w1.heap.size, 2, none⟩ = some (.int .u32 p))
    (first | go_keep | exact k4 | exact k3)
    (first
      | (go_at_call 20; refine (hso _ _ gh2).mono ?_; clear hso; rintro e w3 ⟨rfl, bel3⟩; have k3 := And.intro ((bel3.cell lW).trans c0) (And.intro ((bel3.cell lW).trans c1) ((bel3.cell lW).trans c2)))
      | (go_at_call 19; refine (hla _).mono ?_; clear hla; rintro e w4 ⟨g4, rfl, own4, bel4⟩; have l4 : w1.heap.size < w3.heap.size := Nat.lt_of_lt_of_le lW bel3.size; have k4 := And.intro ((bel4.cell l4).trans k3.1) (And.intro ((bel4.cell l4).trans k3.2.1) ((bel4.cell l4).trans k3.2.2)); have gr4 := (gr2.below bel3 (Nat.le_refl _)).below bel4 (Nat.le_refl _); have gt4 := given_tail own4)
      | (go_at_call 23; refine (Byt.equal_any _ _ _ _ _ gr4 gt4).mono ?_; rw [decide_eq_false (show ¬ xs.drop m = M.tail N R from heq')]; rintro e w5 ⟨rfl, rfl⟩))
  all_goals (
    go_wp2
    go_ret2
    exact ⟨rfl, belA.trans ((Bits.Below.less (of_drew bel3) belA.size).trans (Bits.Below.less bel4 (Nat.le_trans belA.size bel3.size)))⟩)

end Chk
end Go.Proofs.Ytifafoecejnhkaa
