/-
  A range coder and its finder, by plain arithmetic: tables, narrowing, widening, what is told, what is found; what was put is found. No walk, no model.
-/
import Derived.Test.YtknolfpjhfpfaaaBitsMath
namespace Go.Proofs.Ytknolfpjhfpfaaa
set_option linter.unusedVariables false
namespace M

/-- a table -/
def Tab (t : List Int) : Prop := 2 ≤ t.length ∧ t.length ≤ 32 ∧ (∀ x ∈ t, 1 ≤ x) ∧ t.sum ≤ 4096
def tabDec (t : List Int) : Decidable (Tab t) := show Decidable (2 ≤ t.length ∧ t.length ≤ 32 ∧ (∀ x ∈ t, 1 ≤ x) ∧ t.sum ≤ 4096) from instDecidableAnd
/-- the shares ahead of a symbol -/
def flo (t : List Int) (s : Nat) : Int := (t.take s).sum
theorem flo_zero (t : List Int) : flo t 0 = 0 := by simp [flo]
theorem flo_succ {t : List Int} {s : Nat} {x : Int} (h : t[s]? = some x) : flo t (s + 1) = flo t s + x := by
  unfold flo
  rw [List.take_add_one, h]
  simp
theorem flo_all (t : List Int) : flo t t.length = t.sum := by simp [flo]
theorem flo_mono {t : List Int} (h : ∀ x ∈ t, 1 ≤ x) : ∀ (d s : Nat), s + d ≤ t.length → flo t s + d ≤ flo t (s + d)
  | 0, s, _ => by simp
  | d + 1, s, hs => by
    have h1 := flo_mono h d s (by omega)
    obtain ⟨x, hx⟩ : ∃ x, t[s + d]? = some x := ⟨_, List.getElem?_eq_getElem (by omega)⟩
    have h2 := flo_succ hx
    have h3 := h x (List.mem_of_getElem? hx)
    rw [← Nat.add_assoc, h2]
    omega
theorem Tab.flo_le {t : List Int} (h : Tab t) {s : Nat} (hs : s ≤ t.length) : (s : Int) ≤ flo t s ∧ flo t s ≤ t.sum ∧ t.sum ≤ 4096 ∧ (t.length : Int) ≤ t.sum := by
  have h1 := flo_mono h.2.2.1 s 0 (by omega)
  have h2 := flo_mono h.2.2.1 (t.length - s) s (by omega)
  have h3 := flo_mono h.2.2.1 t.length 0 (by omega)
  rw [show s + (t.length - s) = t.length by omega, flo_all] at h2
  rw [Nat.zero_add, flo_zero, flo_all] at h3
  rw [Nat.zero_add, flo_zero] at h1
  have := h.2.2.2
  omega
/-- the symbol whose parts k is among -/
def symOf : List Int → Int → Nat
  | [], _ => 0
  | x :: t, k => if x ≤ k then symOf t (k - x) + 1 else 0
theorem symOf_spec : ∀ (t : List Int) (k : Int), 0 ≤ k → k < t.sum → symOf t k < t.length ∧ flo t (symOf t k) ≤ k ∧ k < flo t (symOf t k + 1)
  | [], k, h0, h1 => by simp at h1; omega
  | x :: t, k, h0, h1 => by
    rw [List.sum_cons] at h1
    unfold symOf
    split
    · obtain ⟨a, b, c⟩ := symOf_spec t (k - x) (by omega) (by omega)
      refine ⟨by simp; omega, ?_, ?_⟩
      · simp only [flo, List.take_succ_cons, List.sum_cons] at b ⊢; omega
      · simp only [flo, List.take_succ_cons, List.sum_cons] at c ⊢; omega
    · refine ⟨by simp, by simp [flo]; omega, by simp [flo]; omega⟩
theorem symOf_eq : ∀ (t : List Int) (k : Int) (s : Nat), (∀ x ∈ t, 1 ≤ x) → s < t.length → flo t s ≤ k → k < flo t (s + 1) → symOf t k = s
  | [], k, s, _, hs, _, _ => by simp at hs
  | x :: t, k, 0, h, hs, h0, h1 => by
    simp only [flo, List.take_succ_cons, List.sum_cons, List.take_zero, List.sum_nil] at h1
    unfold symOf
    rw [if_neg (by omega)]
  | x :: t, k, s + 1, h, hs, h0, h1 => by
    simp only [flo, List.take_succ_cons, List.sum_cons] at h0 h1
    have hp : (0 : Int) ≤ (t.take s).sum := by
      have := flo_mono (t := t) (fun y hy => h y (List.mem_cons_of_mem _ hy)) s 0 (by simp at hs; omega)
      rw [flo_zero, Nat.zero_add] at this
      unfold flo at this; omega
    unfold symOf
    rw [if_pos (by omega), symOf_eq t (k - x) s (fun y hy => h y (List.mem_cons_of_mem _ hy)) (by simp at hs; omega) (by unfold flo; omega) (by unfold flo; omega)]
theorem symOf_step {t : List Int} {j : Nat} {x k : Int} (h : t[j]? = some x) : symOf (t.drop j) k = if x ≤ k then symOf (t.drop (j + 1)) (k - x) + 1 else 0 := by
  have hj := (List.getElem?_eq_some_iff.1 h)
  obtain ⟨hj, he⟩ := hj
  rw [List.drop_eq_getElem_cons hj, he]
  rfl

/-- is there a doubling; by how much both ends are less ahead of it -/
def more (L H : Int) : Bool := decide (H < 32768 ∨ 32768 ≤ L ∨ (16384 ≤ L ∧ H < 49152))
def less (L H : Int) : Int := if H < 32768 then 0 else if 32768 ≤ L then 32768 else if 16384 ≤ L ∧ H < 49152 then 16384 else 0
theorem less_cases {L H : Int} (h : more L H = true) (h0 : 0 ≤ L) (h1 : H ≤ 65535) (h2 : L ≤ H) :
    (less L H = 0 ∧ H < 32768) ∨ (less L H = 32768 ∧ 32768 ≤ L) ∨ (less L H = 16384 ∧ 16384 ≤ L ∧ H < 49152) := by
  have h := of_decide_eq_true h
  unfold less
  split
  · next h3 => exact .inl ⟨rfl, h3⟩
  · split
    · next h3 => exact .inr (.inl ⟨rfl, h3⟩)
    · rw [if_pos (by omega)]; exact .inr (.inr ⟨rfl, by omega⟩)
theorem wide_of {L H : Int} (h : more L H = false) : 16386 ≤ H - L + 1 ∧ 32768 ≤ H ∧ L < 32768 ∧ (L < 16384 ∨ 49152 ≤ H) := by
  have h := of_decide_eq_false h
  omega
/-- a part of a range -/
def part (w F n : Int) : Int := w * F / n
theorem part_bounds {t : List Int} (h : Tab t) {w : Int} (hw : 16386 ≤ w) {s : Nat} (hs : s < t.length) :
    0 ≤ part w (flo t s) t.sum ∧ part w (flo t s) t.sum + 4 ≤ part w (flo t (s + 1)) t.sum ∧ part w (flo t (s + 1)) t.sum ≤ w := by
  obtain ⟨a0, a1, a2, a3⟩ := h.flo_le (s := s) (by omega)
  obtain ⟨b0, b1, b2, b3⟩ := h.flo_le (s := s + 1) (by omega)
  have hm := flo_mono h.2.2.1 1 s (by omega)
  have h2 := h.1
  generalize flo t s = F at *
  generalize flo t (s + 1) = G at *
  generalize t.sum = n at *
  have hn0 : 0 < n := by omega
  unfold part
  refine ⟨Int.ediv_nonneg (Int.mul_nonneg (by omega) (by omega)) (by omega), ?_, ?_⟩
  · have e1 : w * F / n + 4 = (w * F + 4 * n) / n := by rw [Int.add_mul_ediv_right _ _ (by omega)]
    rw [e1]
    refine Int.ediv_le_ediv hn0 ?_
    have : w * (F + 1) ≤ w * G := Int.mul_le_mul_of_nonneg_left (by omega) (by omega)
    rw [Int.mul_add] at this
    omega
  · refine Int.ediv_le_of_le_mul hn0 ?_
    exact Int.mul_le_mul_of_nonneg_left (by omega) (by omega)

/-! ### a coder -/
structure Cod where
  L : Int
  H : Int
  o : Nat
  l : List Bool
def Cod.tell (c : Cod) (b : Bool) : Cod := ⟨c.L, c.H, 0, c.l ++ b :: List.replicate c.o (!b)⟩
def Cod.settle (c : Cod) (x : Int) : Cod := if x = 0 then c.tell false else if x = 32768 then c.tell true else ⟨c.L, c.H, c.o + 1, c.l⟩
def Cod.dbl (c : Cod) : Cod := ⟨2 * (c.L - less c.L c.H), 2 * (c.H - less c.L c.H) + 1, (c.settle (less c.L c.H)).o, (c.settle (less c.L c.H)).l⟩
def Cod.wid : Nat → Cod → Cod
  | 0, c => c
  | k + 1, c => if more c.L c.H then wid k c.dbl else c
theorem Cod.wid_more {c : Cod} (k : Nat) (h : more c.L c.H = true) : c.wid (k + 1) = c.dbl.wid k := by
  conv => lhs; unfold Cod.wid
  rw [if_pos h]
theorem Cod.wid_less {c : Cod} (k : Nat) (h : more c.L c.H = false) : c.wid k = c := by
  cases k with
  | zero => rfl
  | succ k => unfold Cod.wid; rw [h]; rfl
def Cod.nar (c : Cod) (t : List Int) (s : Nat) : Cod := ⟨c.L + part (c.H - c.L + 1) (flo t s) t.sum, c.L + part (c.H - c.L + 1) (flo t (s + 1)) t.sum - 1, c.o, c.l⟩
def Cod.put (c : Cod) (t : List Int) (s : Nat) : Cod := (c.nar t s).wid 16
def Cod.end_ (c : Cod) : Cod := (Cod.mk c.L c.H (c.o + 1) c.l).tell (!decide (c.L < 16384))
def Cod.new : Cod := ⟨0, 65535, 0, []⟩
/-- how many doublings there were -/
def Cod.D (c : Cod) : Nat := c.l.length + c.o
def Cod.W (c : Cod) : Int := c.H - c.L + 1
structure Cod.Ok (c : Cod) : Prop where
  low : 0 ≤ c.L
  le : c.L ≤ c.H
  high : c.H ≤ 65535
/-- a range that was widened -/
structure Cod.Good (c : Cod) : Prop extends Cod.Ok c where
  done : more c.L c.H = false
theorem Cod.Good.new : Cod.new.Good := ⟨⟨by decide, by decide, by decide⟩, by decide⟩
theorem Cod.Ok.W_pos {c : Cod} (h : c.Ok) : 1 ≤ c.W := by have := h.le; unfold Cod.W; omega
theorem Cod.Ok.dbl {c : Cod} (h : c.Ok) (hm : more c.L c.H = true) : c.dbl.Ok := by
  obtain ⟨h0, h1, h2⟩ := h
  have hc := less_cases hm h0 h2 h1
  unfold Cod.dbl
  generalize less c.L c.H = x at hc
  exact ⟨by show 0 ≤ 2 * (c.L - x); omega, by show 2 * (c.L - x) ≤ 2 * (c.H - x) + 1; omega, by show 2 * (c.H - x) + 1 ≤ 65535; omega⟩
theorem Cod.Ok.dbl_W {c : Cod} : c.dbl.W = 2 * c.W := by unfold Cod.W Cod.dbl; simp only; omega
theorem Cod.dbl_D (c : Cod) : c.dbl.D = c.D + 1 := by
  unfold Cod.D Cod.dbl Cod.settle Cod.tell
  simp only
  split
  · simp; omega
  · split
    · simp; omega
    · simp only; omega
theorem Cod.Ok.small {c : Cod} (h : c.Ok) (hm : more c.L c.H = true) : c.W ≤ 32768 := by
  obtain ⟨h0, h1, h2⟩ := h
  have hc := less_cases hm h0 h2 h1
  unfold Cod.W; omega
theorem Cod.Ok.wid {c : Cod} (h : c.Ok) : ∀ k, (c.wid k).Ok ∧ ∃ j, j ≤ k ∧ (c.wid k).D = c.D + j ∧ (c.wid k).W = 2 ^ j * c.W := by
  intro k
  induction k generalizing c with
  | zero => exact ⟨h, 0, Nat.le_refl _, rfl, by simp [Cod.wid]⟩
  | succ k ih =>
    unfold Cod.wid
    split
    · next hm =>
      obtain ⟨h1, j, hj, h2, h3⟩ := ih (h.dbl hm)
      refine ⟨h1, j + 1, by omega, by rw [h2, Cod.dbl_D]; omega, by rw [h3, Cod.Ok.dbl_W, Int.pow_succ]; rw [Int.mul_assoc]⟩
    · exact ⟨h, 0, Nat.zero_le _, rfl, by simp⟩
theorem Cod.Ok.wid_done : ∀ (k : Nat) {c : Cod}, c.Ok → 65536 ≤ c.W * 2 ^ k → more (c.wid k).L (c.wid k).H = false
  | 0, c, h, hw => by
    rw [Int.pow_zero, Int.mul_one] at hw
    cases hm : more c.L c.H with
    | false => exact hm
    | true => have := h.small hm; omega
  | k + 1, c, h, hw => by
    unfold Cod.wid
    split
    · next hm => exact Cod.Ok.wid_done k (h.dbl hm) (by rw [Cod.Ok.dbl_W]; rw [Int.pow_succ] at hw; rw [Int.mul_comm 2 c.W, Int.mul_assoc, Int.mul_comm 2]; exact hw)
    · next hm => cases hx : more c.L c.H with
      | false => rfl
      | true => exact absurd hx hm
theorem Cod.Ok.wid16 {c : Cod} (h : c.Ok) : (c.wid 16).Good :=
  ⟨(h.wid 16).1, Cod.Ok.wid_done 16 h (by have := h.W_pos; omega)⟩
theorem Cod.Good.nar {c : Cod} (h : c.Good) {t : List Int} (ht : Tab t) {s : Nat} (hs : s < t.length) : (c.nar t s).Ok ∧ 4 ≤ (c.nar t s).W := by
  have hw := wide_of h.done
  obtain ⟨p0, p1, p2⟩ := part_bounds ht hw.1 hs
  have := h.low; have := h.high
  unfold Cod.nar Cod.W
  generalize part (c.H - c.L + 1) (flo t s) t.sum = a at *
  generalize part (c.H - c.L + 1) (flo t (s + 1)) t.sum = b at *
  exact ⟨⟨by show 0 ≤ c.L + a; omega, by show c.L + a ≤ c.L + b - 1; omega, by show c.L + b - 1 ≤ 65535; omega⟩, by simp only; omega⟩
theorem Cod.nar_D (c : Cod) (t : List Int) (s : Nat) : (c.nar t s).D = c.D := rfl
theorem le14 {j : Nat} {w W : Int} (h : W = 2 ^ j * w) (h4 : 4 ≤ w) (hW : W ≤ 65536) : j ≤ 14 := by
  apply Decidable.byContradiction
  intro hj
  have h1 : (2 : Int) ^ 15 ≤ 2 ^ j := by
    have : 2 ^ 15 ≤ 2 ^ j := Nat.pow_le_pow_right (by decide) (by omega)
    exact_mod_cast this
  have h2 : (2 : Int) ^ 15 * 4 ≤ 2 ^ j * w := Int.mul_le_mul h1 h4 (by decide) (by omega)
  omega
theorem Cod.Good.put {c : Cod} (h : c.Good) {t : List Int} (ht : Tab t) {s : Nat} (hs : s < t.length) : (c.put t s).Good ∧ (c.put t s).D ≤ c.D + 14 := by
  obtain ⟨h1, h4⟩ := h.nar ht hs
  refine ⟨h1.wid16, ?_⟩
  obtain ⟨h2, j, hj, h3, h5⟩ := h1.wid 16
  unfold Cod.put
  rw [h3, Cod.nar_D]
  have := le14 h5 h4 (by have := h2.low; have := h2.high; unfold Cod.W; omega)
  omega
theorem Cod.end_length (c : Cod) : c.end_.l.length = c.D + 2 := by
  unfold Cod.end_ Cod.tell Cod.D
  simp; omega

/-! ### a finder over bits -/
structure Fnd where
  L : Int
  H : Int
  V : Int
  r : Nat
def Fnd.dbl (B : Nat → Bool) (f : Fnd) : Fnd := ⟨2 * (f.L - less f.L f.H), 2 * (f.H - less f.L f.H) + 1, 2 * (f.V - less f.L f.H) + ((B f.r).toNat : Int), f.r + 1⟩
def Fnd.wid (B : Nat → Bool) : Nat → Fnd → Fnd
  | 0, f => f
  | k + 1, f => if more f.L f.H then wid B k (f.dbl B) else f
theorem Fnd.wid_more {f : Fnd} (B : Nat → Bool) (k : Nat) (h : more f.L f.H = true) : f.wid B (k + 1) = (f.dbl B).wid B k := by
  conv => lhs; unfold Fnd.wid
  rw [if_pos h]
theorem Fnd.wid_less {f : Fnd} (B : Nat → Bool) (k : Nat) (h : more f.L f.H = false) : f.wid B k = f := by
  cases k with
  | zero => rfl
  | succ k => unfold Fnd.wid; rw [h]; rfl
def Fnd.nar (f : Fnd) (t : List Int) (s : Nat) : Fnd := ⟨f.L + part (f.H - f.L + 1) (flo t s) t.sum, f.L + part (f.H - f.L + 1) (flo t (s + 1)) t.sum - 1, f.V, f.r⟩
def Fnd.key (f : Fnd) (t : List Int) : Int := ((f.V - f.L + 1) * t.sum - 1) / (f.H - f.L + 1)
def Fnd.sym (f : Fnd) (t : List Int) : Nat := symOf t (f.key t)
def Fnd.get (B : Nat → Bool) (f : Fnd) (t : List Int) : Fnd := (f.nar t (f.sym t)).wid B 16
def Fnd.new (B : Nat → Bool) : Fnd := ⟨0, 65535, fv B 0 16, 16⟩
structure Fnd.Ok (f : Fnd) : Prop where
  low : 0 ≤ f.L
  le : f.L ≤ f.V
  up : f.V ≤ f.H
  high : f.H ≤ 65535
structure Fnd.Good (f : Fnd) : Prop extends Fnd.Ok f where
  done : more f.L f.H = false
def Fnd.W (f : Fnd) : Int := f.H - f.L + 1
theorem fv_bit (B : Nat → Bool) (i : Nat) : (0 : Int) ≤ ((B i).toNat : Int) ∧ ((B i).toNat : Int) ≤ 1 := by
  have := Bool.toNat_le (B i); omega
theorem Fnd.Good.new (B : Nat → Bool) : (Fnd.new B).Good := by
  have h := fv_lt B 0 16
  refine ⟨⟨Int.le_refl 0, ?_, ?_, Int.le_refl 65535⟩, (show more 0 65535 = false by decide)⟩
  · show (0 : Int) ≤ (fv B 0 16 : Int); omega
  · show (fv B 0 16 : Int) ≤ 65535; omega
theorem Fnd.Ok.dbl {f : Fnd} (h : f.Ok) (hm : more f.L f.H = true) (B : Nat → Bool) : (f.dbl B).Ok := by
  obtain ⟨h0, h1, h2, h3⟩ := h
  have hc := less_cases hm h0 h3 (by omega)
  have hb := fv_bit B f.r
  unfold Fnd.dbl
  generalize less f.L f.H = x at hc
  generalize ((B f.r).toNat : Int) = b at hb
  exact ⟨by show 0 ≤ 2 * (f.L - x); omega, by show 2 * (f.L - x) ≤ 2 * (f.V - x) + b; omega, by show 2 * (f.V - x) + b ≤ 2 * (f.H - x) + 1; omega, by show 2 * (f.H - x) + 1 ≤ 65535; omega⟩
theorem Fnd.dbl_W (B : Nat → Bool) (f : Fnd) : (f.dbl B).W = 2 * f.W := by unfold Fnd.W Fnd.dbl; simp only; omega
theorem Fnd.Ok.small {f : Fnd} (h : f.Ok) (hm : more f.L f.H = true) : f.W ≤ 32768 := by
  obtain ⟨h0, h1, h2, h3⟩ := h
  have hc := less_cases hm h0 h3 (by omega)
  unfold Fnd.W; omega
theorem Fnd.Ok.wid {f : Fnd} (B : Nat → Bool) (h : f.Ok) : ∀ k, (f.wid B k).Ok ∧ ∃ j, j ≤ k ∧ (f.wid B k).r = f.r + j ∧ (f.wid B k).W = 2 ^ j * f.W := by
  intro k
  induction k generalizing f with
  | zero => exact ⟨h, 0, Nat.le_refl _, rfl, by simp [Fnd.wid]⟩
  | succ k ih =>
    unfold Fnd.wid
    split
    · next hm =>
      obtain ⟨h1, j, hj, h2, h3⟩ := ih (h.dbl hm B)
      refine ⟨h1, j + 1, by omega, by rw [h2]; show f.r + 1 + j = _; omega, by rw [h3, Fnd.dbl_W, Int.pow_succ]; rw [Int.mul_assoc]⟩
    · exact ⟨h, 0, Nat.zero_le _, rfl, by simp⟩
theorem Fnd.Ok.wid_done (B : Nat → Bool) : ∀ (k : Nat) {f : Fnd}, f.Ok → 65536 ≤ f.W * 2 ^ k → more (f.wid B k).L (f.wid B k).H = false
  | 0, f, h, hw => by
    rw [Int.pow_zero, Int.mul_one] at hw
    cases hm : more f.L f.H with
    | false => exact hm
    | true => have := h.small hm; omega
  | k + 1, f, h, hw => by
    unfold Fnd.wid
    split
    · next hm => exact Fnd.Ok.wid_done B k (h.dbl hm B) (by rw [Fnd.dbl_W]; rw [Int.pow_succ] at hw; rw [Int.mul_comm 2 f.W, Int.mul_assoc, Int.mul_comm 2]; exact hw)
    · next hm => cases hx : more f.L f.H with
      | false => rfl
      | true => exact absurd hx hm
theorem Fnd.Ok.W_pos {f : Fnd} (h : f.Ok) : 1 ≤ f.W := by have := h.le; have := h.up; unfold Fnd.W; omega
theorem Fnd.Ok.wid16 {f : Fnd} (h : f.Ok) (B : Nat → Bool) : (f.wid B 16).Good :=
  ⟨(h.wid B 16).1, Fnd.Ok.wid_done B 16 h (by have := h.W_pos; omega)⟩
theorem Fnd.Good.key {f : Fnd} (h : f.Good) {t : List Int} (ht : Tab t) : 0 ≤ f.key t ∧ f.key t < t.sum := by
  have hw := wide_of h.done
  obtain ⟨_, a1, a2, a3⟩ := ht.flo_le (s := 0) (by omega)
  have h2 := ht.1
  have h5 := h.le; have h6 := h.up
  unfold Fnd.key
  generalize t.sum = n at *
  obtain ⟨w, ew⟩ : ∃ w, w = f.H - f.L + 1 := ⟨_, rfl⟩
  obtain ⟨v, ev⟩ : ∃ v, v = f.V - f.L + 1 := ⟨_, rfl⟩
  rw [← ew, ← ev]
  have v1 : 1 ≤ v := by omega
  have v2 : v ≤ w := by omega
  have e1 : 1 * n ≤ v * n := Int.mul_le_mul_of_nonneg_right v1 (by omega)
  have e2 : v * n ≤ w * n := Int.mul_le_mul_of_nonneg_right v2 (by omega)
  refine ⟨Int.ediv_nonneg (by omega) (by omega), Int.ediv_lt_of_lt_mul (by omega) ?_⟩
  rw [Int.mul_comm n w]; omega
theorem Fnd.Good.sym {f : Fnd} (h : f.Good) {t : List Int} (ht : Tab t) : f.sym t < t.length ∧ flo t (f.sym t) ≤ f.key t ∧ f.key t < flo t (f.sym t + 1) := by
  obtain ⟨h0, h1⟩ := h.key ht
  exact symOf_spec t _ h0 h1
theorem Fnd.Good.nar {f : Fnd} (h : f.Good) {t : List Int} (ht : Tab t) : (f.nar t (f.sym t)).Ok ∧ 4 ≤ (f.nar t (f.sym t)).W := by
  obtain ⟨s1, s2, s3⟩ := h.sym ht
  have hw := wide_of h.done
  obtain ⟨p0, p1, p2⟩ := part_bounds ht hw.1 s1
  obtain ⟨_, a1, a2, a3⟩ := ht.flo_le (s := 0) (by omega)
  have h2 := ht.1
  have h3 := h.low; have h4 := h.high; have h5 := h.le; have h6 := h.up
  unfold Fnd.key at s2 s3
  unfold part at p0 p1 p2
  unfold Fnd.nar Fnd.W part
  generalize flo t (f.sym t) = F at *
  generalize flo t (f.sym t + 1) = G at *
  generalize t.sum = n at *
  have q1 : (f.H - f.L + 1) * F / n ≤ f.V - f.L := by
    have k1 := Int.mul_le_of_le_ediv (show 0 < f.H - f.L + 1 by omega) s2
    have k2 : (f.H - f.L + 1) * F / n < f.V - f.L + 1 := Int.ediv_lt_of_lt_mul (by omega) (by rw [Int.mul_comm F] at k1; omega)
    omega
  have q2 : f.V - f.L + 1 ≤ (f.H - f.L + 1) * G / n := by
    have k1 := Int.lt_mul_of_ediv_lt (show 0 < f.H - f.L + 1 by omega) s3
    rw [Int.mul_comm G] at k1
    exact Int.le_ediv_of_mul_le (by omega) (by omega)
  generalize (f.H - f.L + 1) * F / n = a at *
  generalize (f.H - f.L + 1) * G / n = b at *
  exact ⟨⟨by show 0 ≤ f.L + a; omega, by show f.L + a ≤ f.V; omega, by show f.V ≤ f.L + b - 1; omega, by show f.L + b - 1 ≤ 65535; omega⟩, by simp only; omega⟩
theorem Fnd.Good.get {f : Fnd} (h : f.Good) {t : List Int} (ht : Tab t) (B : Nat → Bool) : (f.get B t).Good ∧ f.r ≤ (f.get B t).r ∧ (f.get B t).r ≤ f.r + 14 := by
  obtain ⟨h1, h4⟩ := h.nar ht
  refine ⟨h1.wid16 B, ?_⟩
  obtain ⟨h2, j, hj, h3, h5⟩ := h1.wid B 16
  unfold Fnd.get
  rw [h3]
  have := le14 h5 h4 (by have := h2.low; have := h2.high; unfold Fnd.W; omega)
  show f.r ≤ f.r + j ∧ f.r + j ≤ f.r + 14
  omega

/-! ### what was put is found -/
def Agree (B : Nat → Bool) (l : List Bool) : Prop := ∀ i b, l[i]? = some b → B i = b
theorem Agree.left {B : Nat → Bool} {l k : List Bool} (h : Agree B (l ++ k)) : Agree B l := fun i b hi => h i b (by rw [List.getElem?_append_left (List.getElem?_eq_some_iff.1 hi).1]; exact hi)
theorem Agree.right {B : Nat → Bool} {l k : List Bool} (h : Agree B (l ++ k)) {i : Nat} {b : Bool} (hi : k[i]? = some b) : B (l.length + i) = b :=
  h _ b (by rw [List.getElem?_append_right (by omega), Nat.add_sub_cancel_left]; exact hi)
theorem fv_add (B : Nat → Bool) (h m : Nat) : ∀ n, fv B h (m + n) = fv B h m * 2 ^ n + fv B (h + m) n
  | 0 => by simp [fv]
  | n + 1 => by
    show 2 * fv B h (m + n) + (B (h + (m + n))).toNat = _ * 2 ^ (n + 1) + (2 * fv B (h + m) n + (B (h + m + n)).toNat)
    rw [fv_add B h m n, Nat.pow_succ, Nat.add_assoc h m n, Nat.mul_add, ← Nat.mul_assoc, Nat.mul_comm (fv B h m) (2 ^ n * 2), Nat.mul_comm (2 ^ n) 2, Nat.mul_assoc 2, Nat.mul_assoc 2, Nat.mul_comm (fv B h m)]
    omega
theorem fv_same (B : Nat → Bool) (x : Bool) : ∀ (n h : Nat), (∀ i, i < n → B (h + i) = x) → fv B h n = if x then 2 ^ n - 1 else 0
  | 0, h, _ => by cases x <;> rfl
  | n + 1, h, e => by
    show 2 * fv B h n + (B (h + n)).toNat = _
    rw [fv_same B x n h (fun i hi => e i (by omega)), e n (by omega)]
    have := Nat.two_pow_pos n
    cases x
    · rfl
    · simp only [if_true, Bool.toNat_true, Nat.pow_succ]; omega
/-- what a bit that is told, with those that are owed, reads as -/
theorem fv_told {B : Nat → Bool} {l : List Bool} {b : Bool} {o : Nat} (h : Agree B (l ++ b :: List.replicate o (!b))) : fv B l.length (1 + o) = if b then 2 ^ o else 2 ^ o - 1 := by
  rw [fv_add B l.length 1 o]
  have h0 : B (l.length + 0) = b := h.right rfl
  have h1 := fv_same B (!b) o (l.length + 1) (fun i hi => by
    have := h.right (i := 1 + i) (b := !b) (by rw [Nat.add_comm, List.getElem?_cons_succ, List.getElem?_replicate, if_pos hi])
    rw [← this, Nat.add_assoc])
  rw [h1]
  show (2 * 0 + (B (l.length + 0)).toNat) * 2 ^ o + _ = _
  rw [h0]
  cases b <;> simp
def val (B : Nat → Bool) (c : Cod) : Int := (fv B c.l.length (16 + c.o) : Int) - 32768 * (2 ^ c.o - 1)
def fnd (B : Nat → Bool) (c : Cod) : Fnd := ⟨c.L, c.H, val B c, 16 + c.D⟩
theorem val_told {B : Nat → Bool} {L H L' H' : Int} {o : Nat} {l : List Bool} {b : Bool} (h : Agree B (l ++ b :: List.replicate o (!b))) :
    val B ⟨L', H', 0, l ++ b :: List.replicate o (!b)⟩ = 2 * (val B ⟨L, H, o, l⟩ - (if b then 32768 else 0)) + ((B (16 + (l.length + o))).toNat : Int) := by
  unfold val
  simp only [List.length_append, List.length_cons, List.length_replicate, Nat.add_zero, Int.pow_zero]
  have h1 := fv_add B l.length (1 + o) 16
  rw [fv_told h, show 1 + o + 16 = 16 + o + 1 by omega] at h1
  have h2 : fv B l.length (16 + o + 1) = 2 * fv B l.length (16 + o) + (B (l.length + (16 + o))).toNat := rfl
  rw [show 16 + (l.length + o) = l.length + (16 + o) by omega, show l.length + (o + 1) = l.length + (1 + o) by omega]
  have hp := Nat.two_pow_pos o
  have e : ((2 : Int) ^ o) = ((2 ^ o : Nat) : Int) := by simp
  rw [e]
  generalize 2 ^ o = z at *
  generalize fv B l.length (16 + o + 1) = a at *
  generalize fv B l.length (16 + o) = a' at *
  generalize fv B (l.length + (1 + o)) 16 = a'' at *
  generalize (B (l.length + (16 + o))).toNat = y at *
  cases b
  · simp only [Bool.false_eq_true, if_false] at h1 ⊢; omega
  · simp only [if_true] at h1 ⊢; omega
theorem dbl_fnd {B : Nat → Bool} {c : Cod} (h : c.Ok) (hm : more c.L c.H = true) (ha : Agree B c.dbl.l) : (fnd B c).dbl B = fnd B c.dbl := by
  obtain ⟨h0, h1, h2⟩ := h
  have hc := less_cases hm h0 h2 h1
  have hD := c.dbl_D
  unfold Fnd.dbl
  show (⟨2 * (c.L - less c.L c.H), 2 * (c.H - less c.L c.H) + 1, 2 * (val B c - less c.L c.H) + ((B (16 + c.D)).toNat : Int), 16 + c.D + 1⟩ : Fnd) = ⟨2 * (c.L - less c.L c.H), 2 * (c.H - less c.L c.H) + 1, val B c.dbl, 16 + c.dbl.D⟩
  rw [hD]
  have : val B c.dbl = 2 * (val B c - less c.L c.H) + ((B (16 + c.D)).toNat : Int) := by
    obtain ⟨L, H, o, l⟩ := c
    unfold Cod.dbl Cod.settle at ha ⊢
    simp only at hc ha ⊢
    rcases hc with ⟨e, _⟩ | ⟨e, _⟩ | ⟨e, _⟩
    · rw [e] at ha ⊢
      simp only [if_true] at ha ⊢
      have := val_told (L := L) (H := H) (L' := 2 * (L - 0)) (H' := 2 * (H - 0) + 1) (b := false) ha
      simpa [Cod.tell, Cod.D] using this
    · rw [e] at ha ⊢
      simp only [if_neg (show ¬ (32768 : Int) = 0 by decide), if_true] at ha ⊢
      have := val_told (L := L) (H := H) (L' := 2 * (L - 32768)) (H' := 2 * (H - 32768) + 1) (b := true) ha
      simpa [Cod.tell, Cod.D] using this
    · rw [e]
      simp only [if_neg (show ¬ (16384 : Int) = 0 by decide), if_neg (show ¬ (16384 : Int) = 32768 by decide)]
      unfold val Cod.D
      simp only
      have h2 : fv B l.length (16 + (o + 1)) = 2 * fv B l.length (16 + o) + (B (l.length + (16 + o))).toNat := rfl
      rw [h2, show 16 + (l.length + o) = l.length + (16 + o) by omega, Int.pow_succ]
      generalize (2 : Int) ^ o = z
      omega
  rw [this, Nat.add_assoc]
theorem Cod.dbl_prefix (c : Cod) : ∃ k, c.dbl.l = c.l ++ k := by
  unfold Cod.dbl Cod.settle Cod.tell
  simp only
  split
  · exact ⟨_, rfl⟩
  · split
    · exact ⟨_, rfl⟩
    · exact ⟨[], by simp⟩
theorem Cod.wid_prefix : ∀ (k : Nat) (c : Cod), ∃ j, (c.wid k).l = c.l ++ j
  | 0, c => ⟨[], by simp [Cod.wid]⟩
  | k + 1, c => by
    unfold Cod.wid
    split
    · obtain ⟨j, hj⟩ := Cod.wid_prefix k c.dbl
      obtain ⟨i, hi⟩ := c.dbl_prefix
      exact ⟨i ++ j, by rw [hj, hi, List.append_assoc]⟩
    · exact ⟨[], by simp⟩
theorem Cod.put_prefix (c : Cod) (t : List Int) (s : Nat) : ∃ j, (c.put t s).l = c.l ++ j := Cod.wid_prefix 16 (c.nar t s)
theorem wid_fnd {B : Nat → Bool} : ∀ (k : Nat) {c : Cod}, c.Ok → Agree B (c.wid k).l → (fnd B c).wid B k = fnd B (c.wid k)
  | 0, c, _, _ => rfl
  | k + 1, c, h, ha => by
    unfold Fnd.wid Cod.wid
    show (if more c.L c.H = true then ((fnd B c).dbl B).wid B k else fnd B c) = _
    split
    · next hm =>
      unfold Cod.wid at ha
      rw [if_pos hm] at ha
      have ha' : Agree B c.dbl.l := by
        obtain ⟨j, hj⟩ := Cod.wid_prefix k c.dbl
        rw [hj] at ha; exact ha.left
      rw [dbl_fnd h hm ha']
      exact wid_fnd k (h.dbl hm) ha
    · rfl
/-- the value stands in the range -/
def Fnd.In (f : Fnd) : Prop := f.L ≤ f.V ∧ f.V ≤ f.H
theorem Fnd.in_back {f : Fnd} {B : Nat → Bool} (h : (f.dbl B).In) : f.In := by
  have hb := fv_bit B f.r
  obtain ⟨h1, h2⟩ := h
  unfold Fnd.dbl at h1 h2
  simp only at h1 h2
  exact ⟨by omega, by omega⟩
theorem Fnd.wid_back {B : Nat → Bool} : ∀ (k : Nat) {f : Fnd}, (f.wid B k).In → f.In
  | 0, f, h => h
  | k + 1, f, h => by
    unfold Fnd.wid at h
    split at h
    · exact Fnd.in_back (Fnd.wid_back k h)
    · exact h
theorem sym_of_in {c : Cod} {B : Nat → Bool} (h : c.Good) {t : List Int} (ht : Tab t) {s : Nat} (hs : s < t.length) (hi : (fnd B (c.nar t s)).In) : (fnd B c).In ∧ (fnd B c).sym t = s := by
  have hw := wide_of h.done
  obtain ⟨p0, p1, p2⟩ := part_bounds ht hw.1 hs
  obtain ⟨_, a1, a2, a3⟩ := ht.flo_le (s := 0) (by omega)
  have h2 := ht.1
  obtain ⟨h3, h4⟩ := hi
  have h3 : c.L + part (c.H - c.L + 1) (flo t s) t.sum ≤ val B c := h3
  have h4 : val B c ≤ c.L + part (c.H - c.L + 1) (flo t (s + 1)) t.sum - 1 := h4
  refine ⟨⟨by show c.L ≤ val B c; omega, by show val B c ≤ c.H; omega⟩, ?_⟩
  unfold Fnd.sym
  refine symOf_eq t _ s ht.2.2.1 hs ?_ ?_
  · show flo t s ≤ ((val B c - c.L + 1) * t.sum - 1) / (c.H - c.L + 1)
    unfold part at h3
    generalize flo t s = F at *
    generalize t.sum = n at *
    refine Int.le_ediv_of_mul_le (by omega) ?_
    have k2 := Int.lt_mul_of_ediv_lt (show 0 < n by omega) (show (c.H - c.L + 1) * F / n < val B c - c.L + 1 by omega)
    rw [Int.mul_comm F]; omega
  · show ((val B c - c.L + 1) * t.sum - 1) / (c.H - c.L + 1) < flo t (s + 1)
    unfold part at h4
    generalize flo t (s + 1) = G at *
    generalize t.sum = n at *
    refine Int.ediv_lt_of_lt_mul (by omega) ?_
    have k2 := Int.mul_le_of_le_ediv (show 0 < n by omega) (show val B c - c.L + 1 ≤ (c.H - c.L + 1) * G / n by omega)
    rw [Int.mul_comm G]; omega
/-- one symbol: if the value stands in the range behind it, it is found -/
theorem put_found {c : Cod} {B : Nat → Bool} (h : c.Good) {t : List Int} (ht : Tab t) {s : Nat} (hs : s < t.length) (ha : Agree B (c.put t s).l) (hi : (fnd B (c.put t s)).In) :
    (fnd B c).In ∧ (fnd B c).sym t = s ∧ (fnd B c).get B t = fnd B (c.put t s) := by
  obtain ⟨hn, _⟩ := h.nar ht hs
  have hw : (fnd B (c.nar t s)).wid B 16 = fnd B (c.put t s) := wid_fnd 16 hn ha
  obtain ⟨h1, h2⟩ := sym_of_in h ht hs (Fnd.wid_back 16 (B := B) (by rw [hw]; exact hi))
  refine ⟨h1, h2, ?_⟩
  unfold Fnd.get
  rw [h2]
  exact hw
/-- behind the end the value stands in the range -/
theorem end_in {c : Cod} {B : Nat → Bool} (h : c.Good) (ha : Agree B c.end_.l) : (fnd B c).In := by
  have hw := wide_of h.done
  obtain ⟨L, H, o, l⟩ := c
  unfold Cod.end_ Cod.tell at ha
  simp only at ha hw
  have h1 := fv_told ha
  have h2 := fv_add B l.length (1 + (o + 1)) 14
  rw [h1, show 1 + (o + 1) + 14 = 16 + o by omega] at h2
  have h3 := fv_lt B (l.length + (1 + (o + 1))) 14
  unfold Fnd.In fnd val
  simp only
  have e : ((2 : Int) ^ o) = ((2 ^ o : Nat) : Int) := by simp
  have hp := Nat.two_pow_pos o
  rw [Nat.pow_succ] at h2
  rw [e, h2]
  generalize 2 ^ o = z at *
  generalize fv B (l.length + (1 + (o + 1))) 14 = a at *
  clear h2 h1 ha e
  by_cases hL : L < 16384
  · rw [decide_eq_true hL]
    simp only [Bool.not_true, Bool.false_eq_true, if_false]
    omega
  · rw [decide_eq_false hL]
    simp only [Bool.not_false, if_true]
    omega
/-- many symbols -/
def puts : Cod → List (List Int × Nat) → Cod
  | c, [] => c
  | c, (t, s) :: z => puts (c.put t s) z
theorem puts_append : ∀ (z y : List (List Int × Nat)) (c : Cod), puts c (z ++ y) = puts (puts c z) y
  | [], y, c => rfl
  | (t, s) :: z, y, c => puts_append z y (c.put t s)
theorem puts_good : ∀ (z : List (List Int × Nat)) {c : Cod}, c.Good → (∀ x ∈ z, Tab x.1 ∧ x.2 < x.1.length) → (puts c z).Good ∧ (puts c z).D ≤ c.D + 14 * z.length
  | [], c, h, _ => ⟨h, by simp [puts]⟩
  | (t, s) :: z, c, h, hz => by
    obtain ⟨ht, hs⟩ : Tab t ∧ s < t.length := hz (t, s) (by simp)
    obtain ⟨h1, h2⟩ := h.put ht hs
    obtain ⟨h3, h4⟩ := puts_good z h1 (fun x hx => hz x (by simp [hx]))
    refine ⟨h3, ?_⟩
    show (puts (c.put t s) z).D ≤ c.D + 14 * (z.length + 1)
    omega
theorem puts_prefix : ∀ (z : List (List Int × Nat)) (c : Cod), ∃ j, (puts c z).l = c.l ++ j
  | [], c => ⟨[], by simp [puts]⟩
  | (t, s) :: z, c => by
    obtain ⟨j, hj⟩ := puts_prefix z (c.put t s)
    obtain ⟨i, hi⟩ := c.put_prefix t s
    exact ⟨i ++ j, by show (puts (c.put t s) z).l = _; rw [hj, hi, List.append_assoc]⟩
theorem puts_in {B : Nat → Bool} : ∀ (z : List (List Int × Nat)) {c : Cod}, c.Good → (∀ x ∈ z, Tab x.1 ∧ x.2 < x.1.length) → Agree B (puts c z).end_.l → (fnd B c).In ∧ Agree B c.l
  | [], c, h, _, ha => ⟨end_in h ha, by unfold puts Cod.end_ Cod.tell at ha; exact ha.left⟩
  | (t, s) :: z, c, h, hz, ha => by
    obtain ⟨ht, hs⟩ : Tab t ∧ s < t.length := hz (t, s) (by simp)
    obtain ⟨h1, h2⟩ := h.put ht hs
    obtain ⟨h3, h4⟩ := puts_in z h1 (fun x hx => hz x (by simp [hx])) ha
    obtain ⟨h5, _⟩ := put_found h ht hs h4 h3
    refine ⟨h5, ?_⟩
    obtain ⟨j, hj⟩ := c.put_prefix t s
    rw [hj] at h4; exact h4.left
/-- the j-th symbol is found -/
theorem puts_found {B : Nat → Bool} {z : List (List Int × Nat)} {c : Cod} (h : c.Good) (hz : ∀ x ∈ z, Tab x.1 ∧ x.2 < x.1.length) (ha : Agree B (puts c z).end_.l) {j : Nat} {t : List Int} {s : Nat} (hj : z[j]? = some (t, s)) :
    (fnd B (puts c (z.take j))).Good ∧ (fnd B (puts c (z.take j))).sym t = s ∧ (fnd B (puts c (z.take j))).get B t = fnd B (puts c (z.take (j + 1))) := by
  have hlt := (List.getElem?_eq_some_iff.1 hj).1
  have e : z = z.take j ++ (t, s) :: z.drop (j + 1) := by
    conv => lhs; rw [← List.take_append_drop j z]
    rw [List.drop_eq_getElem_cons hlt, (List.getElem?_eq_some_iff.1 hj).2]
  have e1 : z.take (j + 1) = z.take j ++ [(t, s)] := by rw [List.take_add_one, hj]; rfl
  have hz1 : ∀ x ∈ z.take j, Tab x.1 ∧ x.2 < x.1.length := fun x hx => hz x (List.mem_of_mem_take hx)
  obtain ⟨ht, hs⟩ : Tab t ∧ s < t.length := hz (t, s) (List.mem_of_getElem? hj)
  obtain ⟨g, _⟩ := puts_good (z.take j) h hz1
  have ha' : Agree B (puts ((puts c (z.take j)).put t s) (z.drop (j + 1))).end_.l := by
    have : puts c z = puts ((puts c (z.take j)).put t s) (z.drop (j + 1)) := by
      conv => lhs; rw [e]
      rw [puts_append]; rfl
    rw [← this]; exact ha
  obtain ⟨g1, _⟩ := g.put ht hs
  obtain ⟨h3, h4⟩ := puts_in (z.drop (j + 1)) g1 (fun x hx => hz x (List.mem_of_mem_drop hx)) ha'
  obtain ⟨h5, h6, h7⟩ := put_found g ht hs h4 h3
  refine ⟨⟨⟨g.low, h5.1, h5.2, g.high⟩, g.done⟩, h6, ?_⟩
  rw [h7, e1, puts_append]; rfl
theorem fnd_new (B : Nat → Bool) : fnd B Cod.new = Fnd.new B := by
  show (⟨0, 65535, val B Cod.new, 16⟩ : Fnd) = ⟨0, 65535, fv B 0 16, 16⟩
  unfold val
  simp [Cod.new]

end M
end Go.Proofs.Ytknolfpjhfpfaaa
