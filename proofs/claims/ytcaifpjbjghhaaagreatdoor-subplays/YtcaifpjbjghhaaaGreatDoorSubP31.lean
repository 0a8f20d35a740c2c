import Derived.Below
import Derived.Test.YtcaifpjbjghhaaaGreatDoorSubP08
import Derived.Test.YtcaifpjbjghhaaaGreatDoorSubP10
import Derived.Test.YtcaifpjbjghhaaaGreatDoorSubP12
import Derived.Test.YtcaifpjbjghhaaaGreatDoorSubP05
import Derived.OwnWalk
import Derived.Laws.OwnMore
import Derived.ChangeSlices
import Derived.ProofKit
/-
  Memory of the bank: blocks, what a call may turn, the tables. Plain facts, no walk but those of the three functions that reckon a table's number. Conditions: the polynomial's numbers stand as their initialiser lays them.
-/
namespace Go.Proofs.YtcaifpjbjghhaaaGreatDoor
open Go.RowKit
namespace M

def okT (κ n : Nat) : Prop := (κ = 0 ∧ 4 ≤ n ∧ n ≤ 1024 ∧ n % 4 = 0) ∨ (κ = 1 ∧ 129 ≤ n ∧ n ≤ 128) ∨ (κ = 2 ∧ (n = 4 ∨ n = 8))
def tv (κ : Nat) (n i : Int) : Int := if κ = 0 then cosine i n else if κ = 1 then sine (2 * i + 1) (8 * n) else fil i n
def ts (κ n : Nat) : Nat := if κ = 2 then 10 * n else n
def tj (κ n : Nat) : Nat := if κ = 0 then n / 4 - 1 else if κ = 1 then 255 + n else 383 + n / 4
def tabl (κ n : Nat) : List Value := (List.range (ts κ n)).map fun i : Nat => .int .i16 (tv κ (n : Int) (i : Int))
theorem tabl_length (κ n : Nat) : (tabl κ n).length = ts κ n := by simp [tabl]
theorem tabl_get {κ n i : Nat} (h : i < ts κ n) : (tabl κ n)[i]? = some (.int .i16 (tv κ (n : Int) (i : Int))) := by simp [tabl, h]
theorem ts_bd {κ n : Nat} (h : okT κ n) : 1 ≤ ts κ n ∧ ts κ n ≤ 1024 := by
  unfold ts
  rcases h with ⟨rfl, h⟩ | ⟨rfl, h⟩ | ⟨rfl, h⟩
  · rw [if_neg (by decide)]; omega
  · rw [if_neg (by decide)]; omega
  · rw [if_pos rfl]; omega
theorem tj_lt {κ n : Nat} (h : okT κ n) : tj κ n < 386 := by
  unfold tj
  rcases h with ⟨rfl, h⟩ | ⟨rfl, h⟩ | ⟨rfl, h⟩
  · rw [if_pos rfl]; omega
  · rw [if_neg (by decide), if_pos rfl]; omega
  · rw [if_neg (by decide), if_neg (by decide)]; omega
theorem tj_inj {κ n κ' n' : Nat} (h : okT κ n) (h' : okT κ' n') (e : tj κ n = tj κ' n') : κ = κ' ∧ n = n' := by
  unfold tj at e
  rcases h with ⟨rfl, h⟩ | ⟨rfl, h⟩ | ⟨rfl, h⟩ <;> rcases h' with ⟨rfl, h'⟩ | ⟨rfl, h'⟩ | ⟨rfl, h'⟩ <;> simp at e <;> refine ⟨?_, ?_⟩ <;> omega

end M
namespace Bank

theorem tab_ne {w : World} (hT : Wave.Tab w) {b : Nat} {cur : Array Value} {t : TypeId} (h : Blk w b cur t) (hs : cur.size ≠ 5) : 2 ≠ b := by
  rintro rfl
  obtain ⟨t', fr, h'⟩ := hT
  unfold Blk at h
  rw [h] at h'
  simp at h'
  exact hs (by rw [h'.1]; rfl)
theorem But.tab {b : Nat} {w w' : World} (h : But b w w') (hT : Wave.Tab w) (hb : 2 ≠ b) : Wave.Tab w' := by
  obtain ⟨t, fr, h'⟩ := hT
  exact ⟨t, fr, (h.block _ (Array.getElem?_eq_some_iff.1 h').1 hb).trans h'⟩
theorem tab_below {B : Nat} {w w' : World} (h : Below B w w') (hB : w.heap.size ≤ B) (hT : Wave.Tab w) : Wave.Tab w' := by
  obtain ⟨t, fr, h'⟩ := hT
  exact ⟨t, fr, (h.block _ (by have := (Array.getElem?_eq_some_iff.1 h').1; omega)).trans h'⟩

def fn (κ : Nat) : FuncId := if κ = 0 then 217 else if κ = 1 then 0 else 214

theorem number0 (n i : Int) (p : Nat) (w : World) (hT : Wave.Tab w) (hc : w.cell? ⟨p, 0, none⟩ = some (.int .i64 n)) (n0 : 1 ≤ n) (n1 : n ≤ 1024) (i0 : 0 ≤ i) (i1 : i ≤ 1024) :
    Calls Tryz.prog 217 #[.int .i64 i, .pointer (some ⟨p, 0, none⟩)] w fun e w' => e = .returned (.int .i16 (M.cosine i n)) ∧ ∃ m, w' = w.drewN m := by
  go_enter Tryz.func217, Tryz.ntmps217
  go_wp2_with (go_at_call 218; refine (cosine_b _ _ _ hT (by omega) (by omega) (by omega) (by omega)).mono ?_; rintro e w' ⟨rfl, m, rfl⟩)
  go_ret
  exact ⟨rfl, _, rfl⟩

theorem number2 (n i : Int) (p : Nat) (w : World) (hT : Wave.Tab w) (hc : w.cell? ⟨p, 0, none⟩ = some (.int .i64 n)) (hn : n = 4 ∨ n = 8) (i0 : 0 ≤ i) (i1 : i < 10 * n) :
    Calls Tryz.prog 214 #[.int .i64 i, .pointer (some ⟨p, 0, none⟩)] w fun e w' => e = .returned (.int .i16 (M.fil i n)) ∧ ∃ m, w' = w.drewN m := by
  go_enter Tryz.func214, Tryz.ntmps214
  go_wp2_with (go_at_call 215; refine (filter_b _ _ _ hT hn (by omega) (by omega)).mono ?_; rintro e w' ⟨rfl, m, rfl⟩)
  go_ret
  exact ⟨rfl, _, rfl⟩

theorem number_any (κ n i p : Nat) (w : World) (hok : M.okT κ n) (hT : Wave.Tab w) (hc : w.cell? ⟨p, 0, none⟩ = some (.int .i64 n)) (hi : i < M.ts κ n) :
    Calls Tryz.prog (fn κ) #[.int .i64 (i : Int), .pointer (some ⟨p, 0, none⟩)] w fun e w' => e = .returned (.int .i16 (M.tv κ n i)) ∧ ∃ m, w' = w.drewN m := by
  have hb := M.ts_bd hok
  rcases hok with ⟨rfl, h⟩ | ⟨rfl, h⟩ | ⟨rfl, h⟩
  · have e : M.ts 0 n = n := rfl
    exact number0 n i p w hT hc (by omega) (by omega) (by omega) (by omega)
  · have e : M.ts 1 n = n := rfl
    first | (exfalso; omega) | exact number1 n i p w hT hc (by omega) (by omega) (by omega) (by omega)
  · have e : M.ts 2 n = 10 * n := rfl
    first | (exfalso; omega) | exact number2 n i p w hT hc (by omega) (by omega) (by omega)

end Bank
end Go.Proofs.YtcaifpjbjghhaaaGreatDoor

/-
  Layer 8 in plain arithmetic: the numbers that a splitter and a joiner reckon. No walk.
-/
namespace Go.Proofs.YtcaifpjbjghhaaaGreatDoor
namespace M

def wv (m a b : Int) : Int := cosine (a * b) (8 * m)
theorem wv_bd {m a b : Int} (hm : 1 ≤ m) : -32767 ≤ wv m a b ∧ wv m a b ≤ 32767 := cosine_bd _ (by omega)
theorem cosine_emod (n : Int) (d : Int) : cosine (n % d) d = cosine n d := by unfold cosine; rw [Int.emod_emod_of_dvd n (Int.dvd_refl d)]

def sgn (odd : Bool) (k : Nat) (p : Int) : Int := if (k % 2 == 1) = odd then -p else p
theorem sgn_bd {odd : Bool} {k : Nat} {p B : Int} (h0 : -B ≤ p) (h1 : p ≤ B) : -B ≤ sgn odd k p ∧ sgn odd k p ≤ B := by
  unfold sgn; split <;> omega
theorem sgn_even {k : Nat} {p : Int} (h : k % 2 = 0) : sgn false k p = -p ∧ sgn true k p = p := by simp [sgn, h]
theorem sgn_odd {k : Nat} {p : Int} (h : k % 2 = 1) : sgn false k p = p ∧ sgn true k p = -p := by simp [sgn, h]
def fo (m : Nat) (xs : List Int) (j : Nat) : Nat → Int
  | 0 => 0
  | k + 1 => fo m xs j k + sgn false k (xs.getD (j + 2 * m * k) 0 * fil ((j + 2 * m * k : Nat) : Int) m)
def ys (m : Nat) (xs : List Int) : List Int := (List.range (2 * m)).map fun j => sat32 (rnd (fo m xs j 5) 14)
def sh (m : Nat) : Int := if m = 4 then 17 else 18
def ws (m i : Nat) : List Int := (List.range (2 * m)).map fun j : Nat => wv m (2 * (i : Int) + 1) (2 * (j : Int) - m)
def spl (m : Nat) (xs : List Int) : List Int := (List.range m).map fun i => sat32 (rnd (Dot.dotTo (ys m xs) (ws m i) (2 * m)) (sh m))
def nx (m : Nat) (x xs : List Int) : List Int := (x.reverse ++ xs).take (10 * m)

def wj (m k : Nat) : List Int := (List.range m).map fun i : Nat => wv m (2 * (i : Int) + 1) (2 * (k : Int) + m)
def vs (m : Nat) (s : List Int) : List Int := (List.range (2 * m)).map fun k => sat32 (rnd (Dot.dotTo s (wj m k) m) 15)
def nj (m : Nat) (s l : List Int) : List Int := (vs m s ++ l).take (20 * m)
def fj (m : Nat) (l : List Int) (j : Nat) : Nat → Int
  | 0 => 0
  | i + 1 => fj m l j i + sgn true i (l.getD (4 * m * i + j) 0 * fil ((2 * m * i + j : Nat) : Int) m + l.getD (4 * m * i + 3 * m + j) 0 * fil ((2 * m * i + m + j : Nat) : Int) m)
def jn (m : Nat) (l : List Int) : List Int := (List.range m).map fun j => sat16 (rnd (fj m l j 5) 14)

theorem fil_bd (i m : Int) : -32768 ≤ fil i m ∧ fil i m ≤ 32767 := sat16_bd _

theorem get_bd {B C : Int} {zs : List Int} (h : ∀ z ∈ zs, B ≤ z ∧ z ≤ C) (hB : B ≤ 0) (hC : 0 ≤ C) (i : Nat) : B ≤ zs.getD i 0 ∧ zs.getD i 0 ≤ C := by
  rcases Nat.lt_or_ge i zs.length with hi | hi
  · have e : zs.getD i 0 = zs[i] := by simp [List.getD, hi]
    rw [e]; exact h _ (List.getElem_mem hi)
  · have e : zs.getD i 0 = 0 := by simp [List.getD, hi]
    rw [e]; exact ⟨hB, hC⟩

theorem fo_bd {m : Nat} {xs : List Int} (hx : fits16 xs) (j k : Nat) : -(1073741824 * (k : Int)) ≤ fo m xs j k ∧ fo m xs j k ≤ 1073741824 * (k : Int) := by
  induction k with
  | zero => simp [fo]
  | succ k ih =>
    have a := get_bd hx (by decide) (by decide) (j + 2 * m * k)
    have b := fil_bd ((j + 2 * m * k : Nat) : Int) m
    have p := mul_bd (xs.getD (j + 2 * m * k) 0) (fil ((j + 2 * m * k : Nat) : Int) m) 32768 32768 (by omega) (by omega) (by omega) (by omega)
    have q := sgn_bd (odd := false) (k := k) p.1 p.2
    simp only [fo]
    omega

theorem pair_bd {m : Nat} {l : List Int} (hl : fits32 l) (p q r s : Nat) : -140737488355328 ≤ l.getD p 0 * fil (q : Int) m + l.getD r 0 * fil (s : Int) m ∧ l.getD p 0 * fil (q : Int) m + l.getD r 0 * fil (s : Int) m ≤ 140737488355328 := by
  have a := get_bd hl (by decide) (by decide) p
  have a' := get_bd hl (by decide) (by decide) r
  have b := fil_bd (q : Int) m
  have b' := fil_bd (s : Int) m
  have p1 := mul_bd (l.getD p 0) (fil (q : Int) m) 2147483648 32768 (by omega) (by omega) (by omega) (by omega)
  have p2 := mul_bd (l.getD r 0) (fil (s : Int) m) 2147483648 32768 (by omega) (by omega) (by omega) (by omega)
  omega

theorem fj_bd {m : Nat} {l : List Int} (hl : fits32 l) (j k : Nat) : -(140737488355328 * (k : Int)) ≤ fj m l j k ∧ fj m l j k ≤ 140737488355328 * (k : Int) := by
  induction k with
  | zero => simp [fj]
  | succ k ih =>
    have p := pair_bd (m := m) hl (4 * m * k + j) (2 * m * k + j) (4 * m * k + 3 * m + j) (2 * m * k + m + j)
    have q := sgn_bd (odd := true) (k := k) p.1 p.2
    simp only [fj]
    omega

theorem ys_fits (m : Nat) (xs : List Int) : fits32 (ys m xs) := by
  intro z hz
  unfold ys at hz
  obtain ⟨j, _, rfl⟩ := List.mem_map.1 hz
  exact sat32_bd _
theorem spl_fits (m : Nat) (xs : List Int) : fits32 (spl m xs) := by
  intro z hz
  unfold spl at hz
  obtain ⟨j, _, rfl⟩ := List.mem_map.1 hz
  exact sat32_bd _
theorem vs_fits (m : Nat) (s : List Int) : fits32 (vs m s) := by
  intro z hz
  unfold vs at hz
  obtain ⟨j, _, rfl⟩ := List.mem_map.1 hz
  exact sat32_bd _
theorem jn_fits (m : Nat) (s : List Int) : fits16 (jn m s) := by
  intro z hz
  unfold jn at hz
  obtain ⟨j, _, rfl⟩ := List.mem_map.1 hz
  exact sat16_bd _
theorem wj_fits {m : Nat} (hm : 1 ≤ m) (k : Nat) : fits16 (wj m k) := by
  intro z hz
  unfold wj at hz
  obtain ⟨j, _, rfl⟩ := List.mem_map.1 hz
  have := wv_bd (m := m) (a := 2 * (j : Int) + 1) (b := 2 * (k : Int) + m) (by omega)
  omega
theorem ys_length (m : Nat) (xs : List Int) : (ys m xs).length = 2 * m := by simp [ys]
theorem spl_length (m : Nat) (xs : List Int) : (spl m xs).length = m := by simp [spl]
theorem vs_length (m : Nat) (xs : List Int) : (vs m xs).length = 2 * m := by simp [vs]
theorem jn_length (m : Nat) (xs : List Int) : (jn m xs).length = m := by simp [jn]
theorem ws_length (m i : Nat) : (ws m i).length = 2 * m := by simp [ws]
theorem wj_length (m i : Nat) : (wj m i).length = m := by simp [wj]
theorem nx_fits {m : Nat} {x xs : List Int} (hx : fits16 x) (hs : fits16 xs) : fits16 (nx m x xs) := by
  intro z hz
  have hz := List.mem_of_mem_take hz
  rcases List.mem_append.1 hz with h | h
  · exact hx z (List.mem_reverse.1 h)
  · exact hs z h
theorem nj_fits {m : Nat} {s l : List Int} (hl : fits32 l) : fits32 (nj m s l) := by
  intro z hz
  have hz := List.mem_of_mem_take hz
  rcases List.mem_append.1 hz with h | h
  · exact vs_fits m s z h
  · exact hl z h
theorem nx_length {m : Nat} {x xs : List Int} (hs : xs.length = 10 * m) : (nx m x xs).length = 10 * m := by unfold nx; simp; omega
theorem nj_length {m : Nat} {s l : List Int} (hs : l.length = 20 * m) : (nj m s l).length = 20 * m := by unfold nj; simp [vs_length]; omega

theorem fj_congr {m : Nat} {xs zs : List Int} (h : ∀ i, i < 20 * m → xs.getD i 0 = zs.getD i 0) {j k : Nat} (hj : j < m) (hk : k ≤ 5) : fj m xs j k = fj m zs j k := by
  induction k with
  | zero => rfl
  | succ k ih =>
    have : 4 * m * k ≤ 4 * m * 4 := Nat.mul_le_mul_left _ (by omega)
    simp only [fj]
    rw [ih (by omega), h (4 * m * k + j) (by omega), h (4 * m * k + 3 * m + j) (by omega)]
theorem jn_congr {m : Nat} {xs zs : List Int} (h : ∀ i, i < 20 * m → xs.getD i 0 = zs.getD i 0) : jn m xs = jn m zs := by
  unfold jn
  apply List.map_congr_left
  intro j hj
  rw [fj_congr h (List.mem_range.1 hj) (Nat.le_refl _)]

end M
end Go.Proofs.YtcaifpjbjghhaaaGreatDoor

/-
  Memory of layer 8: lists that are read, rows of lists, lists that were made. Plain facts, no walk.
-/
namespace Go.Proofs.YtcaifpjbjghhaaaGreatDoor
set_option linter.unusedVariables false
open Go.RowKit
namespace Poly
open Bank (Blk But)

theorem Reads.row {k : IntKind} {lo hi : Nat} {w : World} {a : Option Addr} {l c : Nat} {zs : List Int} (h : Reads k lo hi w (.slice a l c) zs) : l = zs.length ∧ l ≤ c ∧ Dot.Row k w a l zs := by
  obtain ⟨a', c', he, hl, hw, h⟩ := h
  cases he
  refine ⟨rfl, hl, rfl, ?_, hw⟩
  rcases h with rfl | ⟨b, off, rfl, _, _, hx⟩
  · exact .inl rfl
  · exact .inr ⟨b, off, rfl, hx⟩

end Poly
end Go.Proofs.YtcaifpjbjghhaaaGreatDoor

/-
  Contracts of package poly's small functions: a line that moves on, waves, sums. Conditions: as told at each.
-/
namespace Go.Proofs.YtcaifpjbjghhaaaGreatDoor
set_option linter.unusedVariables false
open Go.RowKit
namespace Poly
open Bank (Blk But)

theorem moved (k : IntKind) (zs : List Int) (n : Nat) (hn : n < zs.length) :
    (enc k zs).toArray.toList.take n ++ (enc k zs).take (zs.length - n) ++ (enc k zs).toArray.toList.drop (n + ((enc k zs).take (zs.length - n)).length) = enc k (zs.take n ++ zs.take (zs.length - n)) := by
  have e : ((enc k zs).take (zs.length - n)).length = zs.length - n := by simp [enc_length]
  rw [e, List.drop_eq_nil_of_le (by simp [enc_length]; omega)]
  simp [enc, List.map_take]

set_option maxRecDepth 100000 in
theorem moveOn16 (g n : Nat) (zs : List Int) (w : World) (hb : Blk w g (enc .i16 zs).toArray 182) (hn : n < zs.length) (hl : zs.length ≤ 65536) :
    Calls Tryz.prog 190 #[.slice (some ⟨g, 0, none⟩) zs.length zs.length, .int .i64 n] w fun e w' => e = .returned (.tuple #[]) ∧ w' = w.setRow g (enc .i16 (zs.take n ++ zs.take (zs.length - n))).toArray := by
  have hX := moved .i16 zs n hn
  have hsl := rest16 g zs.length n hn w
  have hlen : ((enc .i16 zs).take (zs.length - n)).length = zs.length - n := by simp [enc_length]
  have hsrc : ∀ j v, ((enc .i16 zs).take (zs.length - n))[j]? = some v → w.cell? ((⟨g, 0, none⟩ : Addr).add j) = some v := fun j v hv => by
    rw [add_at]
    refine hb.cell ?_
    rw [List.getElem?_take] at hv
    split at hv
    · simpa using hv
    · cases hv
  have hone : ∀ v ∈ (enc .i16 zs).take (zs.length - n), v.oneCell' = true := fun v hv => enc_one _ _ v (List.mem_of_mem_take hv)
  have hfit : n + ((enc .i16 zs).take (zs.length - n)).length ≤ (enc .i16 zs).toArray.size := by rw [hlen]; simp [enc_length]; omega
  have hcp := run_copy_row (P := Tryz.prog) w 55 55 3 182 g n (zs.length - n) (zs.length - n) ⟨g, 0, none⟩ zs.length zs.length _ 182 _ Tryz.underlying55 (by kernel_rfl) hb (by rw [hlen]; exact (Nat.min_eq_right (by omega)).symm) hsrc hfit hone
  rw [hX, hlen] at hcp
  clear hX hsrc hfit hone hlen hb
  generalize enc .i16 (zs.take n ++ zs.take (zs.length - n)) = X at *
  generalize zs.length = L at *
  go_enter Tryz.func190, Tryz.ntmps190
  go_wp2
  go_end0
  exact ⟨rfl, rfl⟩

set_option maxRecDepth 100000 in
theorem moveOn32 (g n : Nat) (zs : List Int) (w : World) (hb : Blk w g (enc .i32 zs).toArray 21) (hn : n < zs.length) (hl : zs.length ≤ 65536) :
    Calls Tryz.prog 195 #[.slice (some ⟨g, 0, none⟩) zs.length zs.length, .int .i64 n] w fun e w' => e = .returned (.tuple #[]) ∧ w' = w.setRow g (enc .i32 (zs.take n ++ zs.take (zs.length - n))).toArray := by
  have hX := moved .i32 zs n hn
  have hsl := rest32 g zs.length n hn w
  have hlen : ((enc .i32 zs).take (zs.length - n)).length = zs.length - n := by simp [enc_length]
  have hsrc : ∀ j v, ((enc .i32 zs).take (zs.length - n))[j]? = some v → w.cell? ((⟨g, 0, none⟩ : Addr).add j) = some v := fun j v hv => by
    rw [add_at]
    refine hb.cell ?_
    rw [List.getElem?_take] at hv
    split at hv
    · simpa using hv
    · cases hv
  have hone : ∀ v ∈ (enc .i32 zs).take (zs.length - n), v.oneCell' = true := fun v hv => enc_one _ _ v (List.mem_of_mem_take hv)
  have hfit : n + ((enc .i32 zs).take (zs.length - n)).length ≤ (enc .i32 zs).toArray.size := by rw [hlen]; simp [enc_length]; omega
  have hcp := run_copy_row (P := Tryz.prog) w 97 97 3 21 g n (zs.length - n) (zs.length - n) ⟨g, 0, none⟩ zs.length zs.length _ 21 _ Tryz.underlying97 (by kernel_rfl) hb (by rw [hlen]; exact (Nat.min_eq_right (by omega)).symm) hsrc hfit hone
  rw [hX, hlen] at hcp
  clear hX hsrc hfit hone hlen hb
  generalize enc .i32 (zs.take n ++ zs.take (zs.length - n)) = X at *
  generalize zs.length = L at *
  go_enter Tryz.func195, Tryz.ntmps195
  go_wp2
  go_end0
  exact ⟨rfl, rfl⟩

set_option maxRecDepth 100000 in
set_option maxHeartbeats 1000000 in
theorem sums_any (p lo hi lo' hi' : Nat) (vw vn : Value) (zs : List Int) (wss : List (List Int)) (s : Int) (n : Nat) (w : World) (hp : w.cell? ⟨p, 2, none⟩ = some vw) (hw : Rows .i16 lo hi w vw wss) (hn : Reads .i32 lo' hi' w vn zs)
    (hrow : ∀ i, i < wss.length → (wss.getD i []).length = zs.length) (s0 : 0 ≤ s) (s1 : s ≤ 62) (z1 : zs.length ≤ 65536) (c0 : 0 < wss.length) (c1 : wss.length ≤ 65536) (h1 : hi ≤ w.heap.size) (h2 : hi' ≤ w.heap.size) (hl : wss.length = n) :
    Calls Tryz.prog 191 #[.pointer (some ⟨p, 0, none⟩), vn, .int .i64 s] w fun e w' => e = .returned (.slice (some ⟨w.heap.size, 0, none⟩) n n) ∧
      Blk w' w.heap.size (enc .i32 ((List.range n).map fun i => M.sat32 (M.rnd (Dot.dotTo zs (wss.getD i []) zs.length) s))).toArray 21 ∧ Below w.heap.size w w' ∧ w'.heap.size = w.heap.size + 1 := by
  have hmk := make32 w n (by omega)
  have hst : Fill .i32 21 w.heap.size n 0 (fun i => M.sat32 (M.rnd (Dot.dotTo zs (wss.getD i []) zs.length) s)) (w.alloc (.cells (enc .i32 (List.replicate n 0)).toArray 21)) := Fill.start (Blk.new w _ _)
  generalize (enc .i32 (List.replicate n 0)).toArray = cs at hmk hst
  obtain ⟨a, c, rfl, hac⟩ := hw.form
  obtain ⟨b, off, rfl, hb0, hb1, hcell⟩ := hw.cell c0
  rw [hl] at hac hcell hrow hp
  obtain ⟨an, cn, rfl⟩ := hn.form
  have hp2 : (w.alloc (.cells cs 21)).cell? ⟨p, 2, none⟩ = some (.slice (some ⟨b, off, none⟩) n c) := Lib.cell?_alloc_some _ hp
  have bel : Below w.heap.size w (w.alloc (.cells cs 21)) := (Below.refl _ _).alloc (Nat.le_refl _) _
  have hsz : (w.alloc (.cells cs 21)).heap.size = w.heap.size + 1 := by simp
  have n1 : (n : Int) ≤ 65536 := by omega
  have HC : Hid _ := hcell
  have HR : Hid _ := hrow
  have HN : Hid (Reads .i32 lo' hi' w (.slice an zs.length cn) zs) := hn
  generalize hF : (fun i => M.sat32 (M.rnd (Dot.dotTo zs (wss.getD i []) zs.length) s)) = F at *
  have HF : Hid _ := hF
  clear hcell hrow hn hw hF hl c1
  go_enter Tryz.func191, Tryz.ntmps191
  go_wp2
  go_loopw [21] (fun i wr => ∃ k : Nat, k ≤ n ∧ i = .int .i64 k ∧ Fill .i32 21 w.heap.size n k F wr ∧ Below w.heap.size w wr ∧ wr.heap.size = w.heap.size + 1) (fun i _ => n - (intOf i).toNat)
  case atStart => exact ⟨0, by omega, rfl, hst, bel, hsz⟩
  case round =>
    obtain ⟨k, hk, rfl, hf, hbw, hsw⟩ := hrel
    clear hst bel hsz hmk hp2
    by_cases hlt : k < n
    · obtain ⟨u, hu, hr⟩ := HC.out k hlt
      have hu2 : wr.cell? ⟨b, off + k, none⟩ = some u := (cell_keep (hbw.block b (by omega))).trans hu
      have hr2 := hr.below hbw h1
      have hn2 := Reads.below HN.out hbw h2
      obtain ⟨ar, cr, rfl⟩ := hr.form
      rw [HR.out k hlt] at hu2 hu hr hr2
      have hd := Dot.Dot_ok an ar zs.length cn cr s zs (wss.getD k []) wr hn2.row.2.2 hr2.row.2.2 s0 s1 z1
      obtain ⟨⟨u0, hu0⟩, hfz⟩ := hf.cell hlt
      have hlt' : (k : Int) < n := by omega
      clear hr hr2 hn2 hu
      have HFk : Hid (M.sat32 (M.rnd (Dot.dotTo zs (wss.getD k []) zs.length) s) = F k) := congrFun HF.out k
      generalize M.sat32 (M.rnd (Dot.dotTo zs (wss.getD k []) zs.length) s) = y at hd HFk
      generalize zs.length = lz at *
      go_wp2_with (go_at_call 219; refine hd.mono ?_; rintro e w' ⟨rfl, m, rfl⟩)
      go_roundw
      case rel => exact ⟨k + 1, by omega, by go_num, (hf.drewN _).step hlt HFk.out, (below_drewN hbw _).setCell (Nat.le_refl _) _, by simpa [World.setCell] using hsw⟩
      case measure => simp [intOf]; omega
    · obtain rfl : k = n := by omega
      go_wp2
      go_ret
      exact ⟨rfl, hf.whole, hbw, hsw⟩

end Poly
end Go.Proofs.YtcaifpjbjghhaaaGreatDoor

/-
  Contracts of the splitter's fold and the joiner's sample. Conditions: as told at each.
-/
namespace Go.Proofs.YtcaifpjbjghhaaaGreatDoor
set_option linter.unusedVariables false
open Go.RowKit
namespace M
def hsl (m : Nat) : List Int := (List.range (10 * m)).map fun i : Nat => fil i m
theorem hsl_length (m : Nat) : (hsl m).length = 10 * m := by simp [hsl]
theorem hsl_get {m i : Nat} (h : i < 10 * m) : (hsl m).getD i 0 = fil i m := by simp [hsl, List.getD, h]
end M
namespace Poly
open Bank (Blk But)

theorem tmod2 {k : Nat} : (k : Int).tmod 2 = ((k % 2 : Nat) : Int) := by rw [Int.tmod_eq_emod]; split <;> omega

def Seen (m p lo hi : Nat) (vl : Value) (w : World) : Prop :=
  p < w.heap.size ∧ hi ≤ w.heap.size ∧ w.cell? ⟨p, 0, none⟩ = some (.int .i64 m) ∧ w.cell? ⟨p, 3, none⟩ = some vl ∧ ∃ vf, w.cell? ⟨p, 1, none⟩ = some vf ∧ Reads .i16 lo hi w vf (M.hsl m)
theorem Seen.below {m p lo hi : Nat} {vl : Value} {w w' : World} (h : Seen m p lo hi vl w) (hb : Below w.heap.size w w') : Seen m p lo hi vl w' := by
  obtain ⟨h0, h1, h2, h3, vf, h4, h5⟩ := h
  have hs := hb.size
  exact ⟨by omega, by omega, (cell_keep (hb.block p h0)).trans h2, (cell_keep (hb.block p h0)).trans h3, vf, (cell_keep (hb.block p h0)).trans h4, h5.below hb h1⟩
theorem Seen.drewN {m p lo hi : Nat} {vl : Value} {w : World} (h : Seen m p lo hi vl w) (n : Nat) : Seen m p lo hi vl (w.drewN n) := h
theorem Seen.filter {m p lo hi : Nat} {vl : Value} {w : World} (h : Seen m p lo hi vl w) (hm : 1 ≤ m) : ∃ b off c, w.cell? ⟨p, 1, none⟩ = some (.slice (some ⟨b, off, none⟩) (10 * m) c) ∧ ∀ i, i < 10 * m → w.cell? ⟨b, off + i, none⟩ = some (.int .i16 (M.fil i m)) := by
  obtain ⟨h0, h1, h2, h3, vf, h4, h5⟩ := h
  obtain ⟨a, c, rfl⟩ := h5.form
  obtain ⟨b, off, rfl, _, _, hx⟩ := h5.cell (by rw [M.hsl_length]; omega)
  rw [M.hsl_length] at h4 hx
  exact ⟨b, off, c, h4, fun i hi => by rw [hx i hi, M.hsl_get hi]⟩

set_option maxRecDepth 100000 in
set_option maxHeartbeats 2000000 in
theorem folded_4 (p gl lo hi : Nat) (xs : List Int) (w : World) (hS : Seen 4 p lo hi (.slice (some ⟨gl, 0, none⟩) 40 40) w)
    (hx : Blk w gl (enc .i16 xs).toArray 182) (hl : xs.length = 40) (hfit : M.fits16 xs) :
    Calls Tryz.prog 192 #[.pointer (some ⟨p, 0, none⟩)] w fun e w' => e = .returned (.slice (some ⟨w.heap.size, 0, none⟩) 8 8) ∧
      Blk w' w.heap.size (enc .i32 (M.ys 4 xs)).toArray 21 ∧ Below w.heap.size w w' ∧ w'.heap.size = w.heap.size + 1 := by
  have hmk : (Instr.makeSlice 97 (.int .i64 8) (.int .i64 8)).run Tryz.prog w = .ok (.slice (some ⟨w.heap.size, 0, none⟩) 8 8) (w.alloc (.cells (enc .i32 (List.replicate 8 0)).toArray 21)) := make32 w 8 (by omega)
  have hst : Fill .i32 21 w.heap.size 8 0 (fun j => M.sat32 (M.rnd (M.fo 4 xs j 5) 14)) (w.alloc (.cells (enc .i32 (List.replicate 8 0)).toArray 21)) := Fill.start (Blk.new w _ _)
  generalize (enc .i32 (List.replicate 8 0)).toArray = cs at hmk hst
  have c0 : w.cell? ⟨p, 0, none⟩ = some (.int .i64 4) := hS.2.2.1
  have HS : Hid (Seen _ _ _ _ _ _) := hS
  have HX : Hid (Blk _ _ _ _) := hx
  have HF : Hid (M.fits16 xs) := hfit
  have hlg := hx.lt
  clear hS hx hfit
  go_enter Tryz.func192, Tryz.ntmps192
  go_wp2
  go_loopw [18] (fun i wr => ∃ j : Nat, j ≤ 8 ∧ i = .int .i64 j ∧ Fill .i32 21 w.heap.size 8 j (fun j => M.sat32 (M.rnd (M.fo 4 xs j 5) 14)) wr ∧ Below w.heap.size w wr ∧ wr.heap.size = w.heap.size + 1) (fun i _ => 8 - (intOf i).toNat)
  case atStart => exact ⟨0, by omega, rfl, hst, (Below.refl _ _).alloc (Nat.le_refl _) _, by simp⟩
  case round =>
    obtain ⟨j, hj, rfl, hf, hbw, hsw⟩ := hrel
    clear hst hmk c0
    by_cases hlt : j < 8
    · have hlt' : (j : Int) < 8 := by omega
      have hS2 := Seen.below HS.out hbw
      have hx2 : Blk wr gl (enc .i16 xs).toArray 182 := (hbw.block gl hlg).trans HX.out
      obtain ⟨bf, of, cf, c1, hfil⟩ := hS2.filter (by omega)
      rw [show 10 * 4 = 40 from rfl] at c1 hfil
      have c0 : wr.cell? ⟨p, 0, none⟩ = some (.int .i64 4) := hS2.2.2.1
      have c3 := hS2.2.2.2.1
      have HFil : Hid (∀ i, i < 40 → wr.cell? ⟨bf, of + i, none⟩ = some (.int .i16 (M.fil i (4 : Nat)))) := hfil
      have HX2 : Hid (Blk _ _ _ _) := hx2
      obtain ⟨⟨u0, hu0⟩, hfz⟩ := hf.cell hlt
      clear hS2 hx2 hfil
      go_wp2
      go_loopw [21, 5] (fun i s w2 => ∃ k : Nat, k ≤ 5 ∧ i = .int .i64 k ∧ s = .int .i64 (M.fo 4 xs j k) ∧ ∃ mm, w2 = wr.drewN mm) (fun i _ _ => 5 - (intOf i).toNat)
      case atStart => exact ⟨0, by omega, rfl, rfl, 0, rfl⟩
      case round =>
        obtain ⟨k, hk, rfl, rfl, mm, rfl⟩ := hrel
        by_cases hk5 : k < 5
        · have hk5' : (k : Int) < 5 := by omega
          obtain ⟨ix, hix⟩ : ∃ ix, ix = j + 2 * 4 * k := ⟨_, rfl⟩
          have hix' : (j : Int) + (k : Int) * 8 = (ix : Int) := by omega
          have hb1 : (0 : Int) ≤ ix ∧ (ix : Int) < 40 := by omega
          have q1 : wr.cell? ⟨gl, ix, none⟩ = some (.int .i16 (xs.getD ix 0)) := Blk.cell HX2.out (by rw [List.getElem?_toArray]; exact enc_get (by omega))
          have q2 := HFil.out ix (by omega)
          have e0 := M.get_bd HF.out (by decide) (by decide) ix
          have e1 := M.fil_bd ix (4 : Nat)
          have e2 := M.mul_bd (xs.getD ix 0) (M.fil ix (4 : Nat)) 32768 32768 (by omega) (by omega) (by omega) (by omega)
          have d := M.fo_bd (m := 4) HF.out j k
          have S : Hid (M.fo 4 xs j (k + 1) = M.fo 4 xs j k + M.sgn false k (xs.getD ix 0 * M.fil ix (4 : Nat))) := by rw [hix]; exact rfl
          have d2 : -5368709120 ≤ M.fo 4 xs j k ∧ M.fo 4 xs j k ≤ 5368709120 := by omega
          clear d
          generalize M.fo 4 xs j k = cu at *
          generalize xs.getD ix 0 = x0 at *
          generalize M.fil ix (4 : Nat) = x1 at *
          rcases Nat.mod_two_eq_zero_or_one k with hp | hp
          · have ht : (k : Int).tmod 2 = 0 := by rw [tmod2, hp]; rfl
            have S2 : Hid (cu + -(x0 * x1) = M.fo 4 xs j (k + 1)) := by show _ = _; rw [S.out, (M.sgn_even hp).1]
            clear S hp hix
            go_wp2
            go_quiet (fail)
            go_wp2
            go_roundw
            case rel => exact ⟨k + 1, by omega, by go_num, by rw [← S2.out], _, rfl⟩
            case measure => simp [intOf]; omega
          · have ht : (k : Int).tmod 2 = 1 := by rw [tmod2, hp]; rfl
            have S2 : Hid (cu + x0 * x1 = M.fo 4 xs j (k + 1)) := by show _ = _; rw [S.out, (M.sgn_odd hp).1]
            clear S hp hix
            go_wp2
            go_quiet (fail)
            go_wp2
            go_roundw
            case rel => exact ⟨k + 1, by omega, by go_num, by rw [← S2.out], _, rfl⟩
            case measure => simp [intOf]; omega
        · obtain rfl : k = 5 := by omega
          have d := M.fo_bd (m := 4) HF.out j 5
          have hr := M.rnd_bd (M.fo 4 xs j 5) 14 (by omega) (by omega)
          go_wp2_with (first
            | (go_at_call 220; refine (Round_any _ _ _ (by omega) (by omega)).mono ?_; rintro e w' ⟨rfl, m, rfl⟩)
            | (go_at_call 208; refine (Sat32_any _ _ (by omega) (by omega)).mono ?_; rintro e w' ⟨rfl, rfl⟩))
          go_roundw
          case rel => exact ⟨j + 1, by omega, by go_num, (hf.drewN _).step hlt rfl, (below_drewN hbw _).setCell (Nat.le_refl _) _, by simpa [World.setCell] using hsw⟩
          case measure => simp [intOf]; omega
    · obtain rfl : j = 8 := by omega
      go_wp2
      go_ret
      exact ⟨rfl, hf.whole, hbw, hsw⟩

set_option maxRecDepth 100000 in
set_option maxHeartbeats 2000000 in
theorem folded_8 (p gl lo hi : Nat) (xs : List Int) (w : World) (hS : Seen 8 p lo hi (.slice (some ⟨gl, 0, none⟩) 80 80) w)
    (hx : Blk w gl (enc .i16 xs).toArray 182) (hl : xs.length = 80) (hfit : M.fits16 xs) :
    Calls Tryz.prog 192 #[.pointer (some ⟨p, 0, none⟩)] w fun e w' => e = .returned (.slice (some ⟨w.heap.size, 0, none⟩) 16 16) ∧
      Blk w' w.heap.size (enc .i32 (M.ys 8 xs)).toArray 21 ∧ Below w.heap.size w w' ∧ w'.heap.size = w.heap.size + 1 := by
  have hmk : (Instr.makeSlice 97 (.int .i64 16) (.int .i64 16)).run Tryz.prog w = .ok (.slice (some ⟨w.heap.size, 0, none⟩) 16 16) (w.alloc (.cells (enc .i32 (List.replicate 16 0)).toArray 21)) := make32 w 16 (by omega)
  have hst : Fill .i32 21 w.heap.size 16 0 (fun j => M.sat32 (M.rnd (M.fo 8 xs j 5) 14)) (w.alloc (.cells (enc .i32 (List.replicate 16 0)).toArray 21)) := Fill.start (Blk.new w _ _)
  generalize (enc .i32 (List.replicate 16 0)).toArray = cs at hmk hst
  have c0 : w.cell? ⟨p, 0, none⟩ = some (.int .i64 8) := hS.2.2.1
  have HS : Hid (Seen _ _ _ _ _ _) := hS
  have HX : Hid (Blk _ _ _ _) := hx
  have HF : Hid (M.fits16 xs) := hfit
  have hlg := hx.lt
  clear hS hx hfit
  go_enter Tryz.func192, Tryz.ntmps192
  go_wp2
  go_loopw [18] (fun i wr => ∃ j : Nat, j ≤ 16 ∧ i = .int .i64 j ∧ Fill .i32 21 w.heap.size 16 j (fun j => M.sat32 (M.rnd (M.fo 8 xs j 5) 14)) wr ∧ Below w.heap.size w wr ∧ wr.heap.size = w.heap.size + 1) (fun i _ => 16 - (intOf i).toNat)
  case atStart => exact ⟨0, by omega, rfl, hst, (Below.refl _ _).alloc (Nat.le_refl _) _, by simp⟩
  case round =>
    obtain ⟨j, hj, rfl, hf, hbw, hsw⟩ := hrel
    clear hst hmk c0
    by_cases hlt : j < 16
    · have hlt' : (j : Int) < 16 := by omega
      have hS2 := Seen.below HS.out hbw
      have hx2 : Blk wr gl (enc .i16 xs).toArray 182 := (hbw.block gl hlg).trans HX.out
      obtain ⟨bf, of, cf, c1, hfil⟩ := hS2.filter (by omega)
      rw [show 10 * 8 = 80 from rfl] at c1 hfil
      have c0 : wr.cell? ⟨p, 0, none⟩ = some (.int .i64 8) := hS2.2.2.1
      have c3 := hS2.2.2.2.1
      have HFil : Hid (∀ i, i < 80 → wr.cell? ⟨bf, of + i, none⟩ = some (.int .i16 (M.fil i (8 : Nat)))) := hfil
      have HX2 : Hid (Blk _ _ _ _) := hx2
      obtain ⟨⟨u0, hu0⟩, hfz⟩ := hf.cell hlt
      clear hS2 hx2 hfil
      go_wp2
      go_loopw [21, 5] (fun i s w2 => ∃ k : Nat, k ≤ 5 ∧ i = .int .i64 k ∧ s = .int .i64 (M.fo 8 xs j k) ∧ ∃ mm, w2 = wr.drewN mm) (fun i _ _ => 5 - (intOf i).toNat)
      case atStart => exact ⟨0, by omega, rfl, rfl, 0, rfl⟩
      case round =>
        obtain ⟨k, hk, rfl, rfl, mm, rfl⟩ := hrel
        by_cases hk5 : k < 5
        · have hk5' : (k : Int) < 5 := by omega
          obtain ⟨ix, hix⟩ : ∃ ix, ix = j + 2 * 8 * k := ⟨_, rfl⟩
          have hix' : (j : Int) + (k : Int) * 16 = (ix : Int) := by omega
          have hb1 : (0 : Int) ≤ ix ∧ (ix : Int) < 80 := by omega
          have q1 : wr.cell? ⟨gl, ix, none⟩ = some (.int .i16 (xs.getD ix 0)) := Blk.cell HX2.out (by rw [List.getElem?_toArray]; exact enc_get (by omega))
          have q2 := HFil.out ix (by omega)
          have e0 := M.get_bd HF.out (by decide) (by decide) ix
          have e1 := M.fil_bd ix (8 : Nat)
          have e2 := M.mul_bd (xs.getD ix 0) (M.fil ix (8 : Nat)) 32768 32768 (by omega) (by omega) (by omega) (by omega)
          have d := M.fo_bd (m := 8) HF.out j k
          have S : Hid (M.fo 8 xs j (k + 1) = M.fo 8 xs j k + M.sgn false k (xs.getD ix 0 * M.fil ix (8 : Nat))) := by rw [hix]; exact rfl
          have d2 : -5368709120 ≤ M.fo 8 xs j k ∧ M.fo 8 xs j k ≤ 5368709120 := by omega
          clear d
          generalize M.fo 8 xs j k = cu at *
          generalize xs.getD ix 0 = x0 at *
          generalize M.fil ix (8 : Nat) = x1 at *
          rcases Nat.mod_two_eq_zero_or_one k with hp | hp
          · have ht : (k : Int).tmod 2 = 0 := by rw [tmod2, hp]; rfl
            have S2 : Hid (cu + -(x0 * x1) = M.fo 8 xs j (k + 1)) := by show _ = _; rw [S.out, (M.sgn_even hp).1]
            clear S hp hix
            go_wp2
            go_quiet (fail)
            go_wp2
            go_roundw
            case rel => exact ⟨k + 1, by omega, by go_num, by rw [← S2.out], _, rfl⟩
            case measure => simp [intOf]; omega
          · have ht : (k : Int).tmod 2 = 1 := by rw [tmod2, hp]; rfl
            have S2 : Hid (cu + x0 * x1 = M.fo 8 xs j (k + 1)) := by show _ = _; rw [S.out, (M.sgn_odd hp).1]
            clear S hp hix
            go_wp2
            go_quiet (fail)
            go_wp2
            go_roundw
            case rel => exact ⟨k + 1, by omega, by go_num, by rw [← S2.out], _, rfl⟩
            case measure => simp [intOf]; omega
        · obtain rfl : k = 5 := by omega
          have d := M.fo_bd (m := 8) HF.out j 5
          have hr := M.rnd_bd (M.fo 8 xs j 5) 14 (by omega) (by omega)
          go_wp2_with (first
            | (go_at_call 220; refine (Round_any _ _ _ (by omega) (by omega)).mono ?_; rintro e w' ⟨rfl, m, rfl⟩)
            | (go_at_call 208; refine (Sat32_any _ _ (by omega) (by omega)).mono ?_; rintro e w' ⟨rfl, rfl⟩))
          go_roundw
          case rel => exact ⟨j + 1, by omega, by go_num, (hf.drewN _).step hlt rfl, (below_drewN hbw _).setCell (Nat.le_refl _) _, by simpa [World.setCell] using hsw⟩
          case measure => simp [intOf]; omega
    · obtain rfl : j = 16 := by omega
      go_wp2
      go_ret
      exact ⟨rfl, hf.whole, hbw, hsw⟩

set_option maxRecDepth 100000 in
set_option maxHeartbeats 2000000 in
theorem sample_4 (p gl lo hi j : Nat) (l : List Int) (w : World) (hS : Seen 4 p lo hi (.slice (some ⟨gl, 0, none⟩) 80 80) w)
    (hx : Blk w gl (enc .i32 l).toArray 21) (hl : l.length = 80) (hfit : M.fits32 l) (hj : j < 4) :
    Calls Tryz.prog 196 #[.pointer (some ⟨p, 0, none⟩), .int .i64 j] w fun e w' => e = .returned (.int .i16 (M.sat16 (M.rnd (M.fj 4 l j 5) 14))) ∧ ∃ m, w' = w.drewN m := by
  obtain ⟨bf, of, cf, c1, hfil⟩ := hS.filter (by omega)
  rw [show 10 * 4 = 40 from rfl] at c1 hfil
  have c0 : w.cell? ⟨p, 0, none⟩ = some (.int .i64 4) := hS.2.2.1
  have c3 := hS.2.2.2.1
  have HFil : Hid (∀ i, i < 40 → w.cell? ⟨bf, of + i, none⟩ = some (.int .i16 (M.fil i (4 : Nat)))) := hfil
  have HX : Hid (Blk _ _ _ _) := hx
  have HF : Hid (M.fits32 l) := hfit
  have hj' : (j : Int) < 4 := by omega
  clear hS hx hfit hfil
  go_enter Tryz.func196, Tryz.ntmps196
  go_wp2
  go_loopw [16, 6] (fun i s w2 => ∃ k : Nat, k ≤ 5 ∧ i = .int .i64 k ∧ s = .int .i64 (M.fj 4 l j k) ∧ ∃ mm, w2 = w.drewN mm) (fun i _ _ => 5 - (intOf i).toNat)
  case atStart => exact ⟨0, by omega, rfl, rfl, 0, rfl⟩
  case round =>
    obtain ⟨k, hk, rfl, rfl, mm, rfl⟩ := hrel
    by_cases hk5 : k < 5
    · have hk5' : (k : Int) < 5 := by omega
      obtain ⟨iv, hiv⟩ : ∃ iv, iv = 4 * 4 * k + j := ⟨_, rfl⟩
      obtain ⟨ih, hih⟩ : ∃ ih, ih = 2 * 4 * k + j := ⟨_, rfl⟩
      obtain ⟨iu, hiu⟩ : ∃ iu, iu = 4 * 4 * k + 3 * 4 + j := ⟨_, rfl⟩
      obtain ⟨ig, hig⟩ : ∃ ig, ig = 2 * 4 * k + 4 + j := ⟨_, rfl⟩
      have hiv' : 16 * (k : Int) + (j : Int) = (iv : Int) := by omega
      have hih' : 8 * (k : Int) + (j : Int) = (ih : Int) := by omega
      have hiu' : (iv : Int) + 12 = (iu : Int) := by omega
      have hig' : (ih : Int) + 4 = (ig : Int) := by omega
      have b1 : (0 : Int) ≤ iv ∧ (iv : Int) < 80 := by omega
      have b2 : (0 : Int) ≤ ih ∧ (ih : Int) < 40 := by omega
      have b3 : (0 : Int) ≤ iu ∧ (iu : Int) < 80 := by omega
      have b4 : (0 : Int) ≤ ig ∧ (ig : Int) < 40 := by omega
      have q1 : w.cell? ⟨gl, iv, none⟩ = some (.int .i32 (l.getD iv 0)) := Blk.cell HX.out (by rw [List.getElem?_toArray]; exact enc_get (by omega))
      have q3 : w.cell? ⟨gl, iu, none⟩ = some (.int .i32 (l.getD iu 0)) := Blk.cell HX.out (by rw [List.getElem?_toArray]; exact enc_get (by omega))
      have q2 := HFil.out ih (by omega)
      have q4 := HFil.out ig (by omega)
      have e0 := M.get_bd HF.out (by decide) (by decide) iv
      have e3 := M.get_bd HF.out (by decide) (by decide) iu
      have e1 := M.fil_bd ih (4 : Nat)
      have e4 := M.fil_bd ig (4 : Nat)
      have e2 := M.mul_bd (l.getD iv 0) (M.fil ih (4 : Nat)) 2147483648 32768 (by omega) (by omega) (by omega) (by omega)
      have e5 := M.mul_bd (l.getD iu 0) (M.fil ig (4 : Nat)) 2147483648 32768 (by omega) (by omega) (by omega) (by omega)
      have d := M.fj_bd (m := 4) HF.out j k
      have S : Hid (M.fj 4 l j (k + 1) = M.fj 4 l j k + M.sgn true k (l.getD iv 0 * M.fil ih (4 : Nat) + l.getD iu 0 * M.fil ig (4 : Nat))) := by rw [hiv, hih, hiu, hig]; exact rfl
      have d2 : -703687441776640 ≤ M.fj 4 l j k ∧ M.fj 4 l j k ≤ 703687441776640 := by omega
      clear d
      generalize M.fj 4 l j k = cu at *
      generalize l.getD iv 0 = x0 at *
      generalize l.getD iu 0 = x2 at *
      generalize M.fil ih (4 : Nat) = x1 at *
      generalize M.fil ig (4 : Nat) = x3 at *
      rcases Nat.mod_two_eq_zero_or_one k with hp | hp
      · have ht : (k : Int).tmod 2 = 0 := by rw [tmod2, hp]; rfl
        have S2 : Hid (cu + (x0 * x1 + x2 * x3) = M.fj 4 l j (k + 1)) := by show _ = _; rw [S.out, (M.sgn_even hp).2]
        clear S hp hiv hih hiu hig
        go_wp2
        go_quiet (fail)
        go_wp2
        go_roundw
        case rel => exact ⟨k + 1, by omega, by go_num, by rw [← S2.out], _, rfl⟩
        case measure => simp [intOf]; omega
      · have ht : (k : Int).tmod 2 = 1 := by rw [tmod2, hp]; rfl
        have S2 : Hid (cu + -(x0 * x1 + x2 * x3) = M.fj 4 l j (k + 1)) := by show _ = _; rw [S.out, (M.sgn_odd hp).2]
        clear S hp hiv hih hiu hig
        go_wp2
        go_quiet (fail)
        go_wp2
        go_roundw
        case rel => exact ⟨k + 1, by omega, by go_num, by rw [← S2.out], _, rfl⟩
        case measure => simp [intOf]; omega
    · obtain rfl : k = 5 := by omega
      have d := M.fj_bd (m := 4) HF.out j 5
      have hr := M.rnd_bd (M.fj 4 l j 5) 14 (by omega) (by omega)
      go_wp2_with (first
        | (go_at_call 220; refine (Round_any _ _ _ (by omega) (by omega)).mono ?_; rintro e w' ⟨rfl, m, rfl⟩)
        | (go_at_call 223; refine (Sat16_any _ _ (by omega) (by omega)).mono ?_; rintro e w' ⟨rfl, rfl⟩))
      go_ret
      exact ⟨rfl, _, rfl⟩

set_option maxRecDepth 100000 in
set_option maxHeartbeats 2000000 in
theorem sample_8 (p gl lo hi j : Nat) (l : List Int) (w : World) (hS : Seen 8 p lo hi (.slice (some ⟨gl, 0, none⟩) 160 160) w)
    (hx : Blk w gl (enc .i32 l).toArray 21) (hl : l.length = 160) (hfit : M.fits32 l) (hj : j < 8) :
    Calls Tryz.prog 196 #[.pointer (some ⟨p, 0, none⟩), .int .i64 j] w fun e w' => e = .returned (.int .i16 (M.sat16 (M.rnd (M.fj 8 l j 5) 14))) ∧ ∃ m, w' = w.drewN m := by
  obtain ⟨bf, of, cf, c1, hfil⟩ := hS.filter (by omega)
  rw [show 10 * 8 = 80 from rfl] at c1 hfil
  have c0 : w.cell? ⟨p, 0, none⟩ = some (.int .i64 8) := hS.2.2.1
  have c3 := hS.2.2.2.1
  have HFil : Hid (∀ i, i < 80 → w.cell? ⟨bf, of + i, none⟩ = some (.int .i16 (M.fil i (8 : Nat)))) := hfil
  have HX : Hid (Blk _ _ _ _) := hx
  have HF : Hid (M.fits32 l) := hfit
  have hj' : (j : Int) < 8 := by omega
  clear hS hx hfit hfil
  go_enter Tryz.func196, Tryz.ntmps196
  go_wp2
  go_loopw [16, 6] (fun i s w2 => ∃ k : Nat, k ≤ 5 ∧ i = .int .i64 k ∧ s = .int .i64 (M.fj 8 l j k) ∧ ∃ mm, w2 = w.drewN mm) (fun i _ _ => 5 - (intOf i).toNat)
  case atStart => exact ⟨0, by omega, rfl, rfl, 0, rfl⟩
  case round =>
    obtain ⟨k, hk, rfl, rfl, mm, rfl⟩ := hrel
    by_cases hk5 : k < 5
    · have hk5' : (k : Int) < 5 := by omega
      obtain ⟨iv, hiv⟩ : ∃ iv, iv = 4 * 8 * k + j := ⟨_, rfl⟩
      obtain ⟨ih, hih⟩ : ∃ ih, ih = 2 * 8 * k + j := ⟨_, rfl⟩
      obtain ⟨iu, hiu⟩ : ∃ iu, iu = 4 * 8 * k + 3 * 8 + j := ⟨_, rfl⟩
      obtain ⟨ig, hig⟩ : ∃ ig, ig = 2 * 8 * k + 8 + j := ⟨_, rfl⟩
      have hiv' : 32 * (k : Int) + (j : Int) = (iv : Int) := by omega
      have hih' : 16 * (k : Int) + (j : Int) = (ih : Int) := by omega
      have hiu' : (iv : Int) + 24 = (iu : Int) := by omega
      have hig' : (ih : Int) + 8 = (ig : Int) := by omega
      have b1 : (0 : Int) ≤ iv ∧ (iv : Int) < 160 := by omega
      have b2 : (0 : Int) ≤ ih ∧ (ih : Int) < 80 := by omega
      have b3 : (0 : Int) ≤ iu ∧ (iu : Int) < 160 := by omega
      have b4 : (0 : Int) ≤ ig ∧ (ig : Int) < 80 := by omega
      have q1 : w.cell? ⟨gl, iv, none⟩ = some (.int .i32 (l.getD iv 0)) := Blk.cell HX.out (by rw [List.getElem?_toArray]; exact enc_get (by omega))
      have q3 : w.cell? ⟨gl, iu, none⟩ = some (.int .i32 (l.getD iu 0)) := Blk.cell HX.out (by rw [List.getElem?_toArray]; exact enc_get (by omega))
      have q2 := HFil.out ih (by omega)
      have q4 := HFil.out ig (by omega)
      have e0 := M.get_bd HF.out (by decide) (by decide) iv
      have e3 := M.get_bd HF.out (by decide) (by decide) iu
      have e1 := M.fil_bd ih (8 : Nat)
      have e4 := M.fil_bd ig (8 : Nat)
      have e2 := M.mul_bd (l.getD iv 0) (M.fil ih (8 : Nat)) 2147483648 32768 (by omega) (by omega) (by omega) (by omega)
      have e5 := M.mul_bd (l.getD iu 0) (M.fil ig (8 : Nat)) 2147483648 32768 (by omega) (by omega) (by omega) (by omega)
      have d := M.fj_bd (m := 8) HF.out j k
      have S : Hid (M.fj 8 l j (k + 1) = M.fj 8 l j k + M.sgn true k (l.getD iv 0 * M.fil ih (8 : Nat) + l.getD iu 0 * M.fil ig (8 : Nat))) := by rw [hiv, hih, hiu, hig]; exact rfl
      have d2 : -703687441776640 ≤ M.fj 8 l j k ∧ M.fj 8 l j k ≤ 703687441776640 := by omega
      clear d
      generalize M.fj 8 l j k = cu at *
      generalize l.getD iv 0 = x0 at *
      generalize l.getD iu 0 = x2 at *
      generalize M.fil ih (8 : Nat) = x1 at *
      generalize M.fil ig (8 : Nat) = x3 at *
      rcases Nat.mod_two_eq_zero_or_one k with hp | hp
      · have ht : (k : Int).tmod 2 = 0 := by rw [tmod2, hp]; rfl
        have S2 : Hid (cu + (x0 * x1 + x2 * x3) = M.fj 8 l j (k + 1)) := by show _ = _; rw [S.out, (M.sgn_even hp).2]
        clear S hp hiv hih hiu hig
        go_wp2
        go_quiet (fail)
        go_wp2
        go_roundw
        case rel => exact ⟨k + 1, by omega, by go_num, by rw [← S2.out], _, rfl⟩
        case measure => simp [intOf]; omega
      · have ht : (k : Int).tmod 2 = 1 := by rw [tmod2, hp]; rfl
        have S2 : Hid (cu + -(x0 * x1 + x2 * x3) = M.fj 8 l j (k + 1)) := by show _ = _; rw [S.out, (M.sgn_odd hp).2]
        clear S hp hiv hih hiu hig
        go_wp2
        go_quiet (fail)
        go_wp2
        go_roundw
        case rel => exact ⟨k + 1, by omega, by go_num, by rw [← S2.out], _, rfl⟩
        case measure => simp [intOf]; omega
    · obtain rfl : k = 5 := by omega
      have d := M.fj_bd (m := 8) HF.out j 5
      have hr := M.rnd_bd (M.fj 8 l j 5) 14 (by omega) (by omega)
      go_wp2_with (first
        | (go_at_call 220; refine (Round_any _ _ _ (by omega) (by omega)).mono ?_; rintro e w' ⟨rfl, m, rfl⟩)
        | (go_at_call 223; refine (Sat16_any _ _ (by omega) (by omega)).mono ?_; rintro e w' ⟨rfl, rfl⟩))
      go_ret
      exact ⟨rfl, _, rfl⟩

end Poly
end Go.Proofs.YtcaifpjbjghhaaaGreatDoor

/-
  Plain facts on lists that are made, cleared, gathered, given: what the layers 8 and 9 share; no function of theirs is in it. Conditions: as told at each.
-/
namespace Go.Proofs.YtcaifpjbjghhaaaGreatDoor
set_option linter.unusedVariables false
open Go.RowKit
namespace Poly
open Bank (Blk But)

theorem rsat16 (n : Int) (w : World) (hn : -9223372036854775808 ≤ n) (hm : n ≤ 9223372036854775807) :
    Calls Tryz.prog 127 #[.int .i64 n, .int .i64 16] w fun e w' => e = .returned (.int .i64 (M.sat16 n)) ∧ w' = w := by
  unfold M.sat16 M.clip
  rcases Int.lt_or_le n (-32768) with h | h
  · rw [if_pos h]
    go_enter Tryz.func127, Tryz.ntmps127
    go_wp2
    all_goals first | (go_ret; exact ⟨rfl, rfl⟩) | (exfalso; omega)
  · rw [if_neg (by omega)]
    rcases Int.lt_or_le 32767 n with h2 | h2
    · rw [if_pos h2]
      have h' : ¬ n < -32768 := by omega
      go_enter Tryz.func127, Tryz.ntmps127
      go_wp2
      all_goals first | (go_ret; exact ⟨rfl, rfl⟩) | (exfalso; omega)
    · rw [if_neg (by omega)]
      have h' : ¬ n < -32768 := by omega
      have h3 : ¬ 32767 < n := by omega
      go_enter Tryz.func127, Tryz.ntmps127
      go_wp2
      all_goals first | (go_ret; exact ⟨rfl, rfl⟩) | (exfalso; omega)

end Poly
end Go.Proofs.YtcaifpjbjghhaaaGreatDoor

/-
  Numbers in blocks; when two lists are the same. Conditions: as told at each.
-/
namespace Go.Proofs.YtcaifpjbjghhaaaGreatDoor
set_option linter.unusedVariables false
open Go.RowKit
namespace M
def blk (m : Nat) (l : List Int) (i : Nat) : List Int := (l.drop (i * m)).take m
end M
namespace Poly
open Bank (Blk But)

end Poly
end Go.Proofs.YtcaifpjbjghhaaaGreatDoor

