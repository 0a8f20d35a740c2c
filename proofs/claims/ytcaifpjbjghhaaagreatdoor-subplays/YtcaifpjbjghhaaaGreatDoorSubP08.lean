import Derived.OwnWalk
import Derived.Below
import Derived.Test.YtcaifpjbjghhaaaGreatDoorSubP04
/-
  Contract of wave.Sines, and the walk of the law of whole turns. Conditions: each number fits its kind; the polynomial's numbers stand as their initialiser lays them.
-/
namespace Go.Proofs.YtcaifpjbjghhaaaGreatDoor
open Go.RowKit
namespace Wave

def Made (w wr : World) (n k : Nat) : Prop :=
  (∃ cur : Array Value, wr.heap[w.heap.size]? = some (.cells cur 182 (0, 0)) ∧ cur.size = n ∧ ∀ j, j < k → cur[j]? = some (.int .i16 (M.sine (j : Int) (n : Int)))) ∧ Grown w wr ∧ Tab wr
theorem Made.drewN {w wr : World} {n k : Nat} (h : Made w wr n k) (m : Nat) : Made w (wr.drewN m) n k := h
theorem Made.cell {w wr : World} {n k : Nat} (h : Made w wr n k) {j : Nat} (hj : j < n) : ∃ v, wr.cell? ⟨w.heap.size, j, none⟩ = some v := by
  obtain ⟨⟨cur, h1, h2, _⟩, _⟩ := h
  refine ⟨cur[j]'(by omega), ?_⟩
  simp [World.cell?, h1, h2, hj]
theorem Made.told {w wr : World} {n k : Nat} (h : Made w wr n k) {j : Nat} (hj : j < k) : wr.cell? ⟨w.heap.size, j, none⟩ = some (.int .i16 (M.sine (j : Int) (n : Int))) := by
  obtain ⟨⟨cur, h1, h2, h3⟩, _⟩ := h
  simp [World.cell?, h1, h3 j hj]
theorem Made.free {w wr : World} {n k : Nat} (h : Made w wr n k) (j : Nat) : wr.frozen? ⟨w.heap.size, j, none⟩ = false := by
  obtain ⟨⟨cur, h1, _⟩, _⟩ := h
  simp [World.frozen?, h1]
theorem info16 : (Tryz.prog.info? 182).map (fun i => (i.zero, i.size, i.bytes)) = some (some (.int .i16 0), 1, 2) := by kernel_rfl

theorem run_made (w : World) (n : Nat) (hn : n ≤ 65536) :
    ∃ cs : Array Value, cs.size = n ∧ (Instr.makeSlice 55 (.int .i64 n) (.int .i64 n)).run Tryz.prog w = .ok (.slice (some ⟨w.heap.size, 0, none⟩) n n) (w.alloc (.cells cs 182)) := by
  obtain ⟨i0, hi, hz0, hz1, hz2⟩ := info_parts info16
  have := run_make (P := Tryz.prog) w 55 182 i0 (.int .i16 0) Tryz.underlying55 hi hz0 .i64 .i64 n n (by omega) (by omega) (by rw [hz2]; omega) (by omega)
  refine ⟨_, ?_, by simpa using this⟩
  rw [size_madeCells, hz1]; simp

end Wave
end Go.Proofs.YtcaifpjbjghhaaaGreatDoor

/-
  The numbers of the bank's tables: contracts of the functions that reckon them. Conditions: the polynomial's numbers stand as their initialiser lays them.
-/
namespace Go.Proofs.YtcaifpjbjghhaaaGreatDoor
open Go.RowKit
namespace M

def fade (d m : Int) : Int := if d = 0 then 32768 else (sine (3 * d) (10 * m) * 565 * m).tdiv (1065 * d)
def win (i t : Int) : Int := (1376256 - 50 * cosine i t + 8 * cosine (2 * i) t).tdiv 100
def fil (i m : Int) : Int := sat16 (rnd (rnd (fade (i - 5 * m) m * win i (10 * m)) 15 * 19708) 15)

theorem tdiv_bd {a A b : Int} (a0 : -A ≤ a) (a1 : a ≤ A) : -A ≤ a.tdiv b ∧ a.tdiv b ≤ A := by
  have h : (a.tdiv b).natAbs ≤ a.natAbs := by
    rw [Int.natAbs_tdiv]
    exact Nat.div_le_self _ _
  omega
theorem fade_bd {d m : Int} (hm : m = 4 ∨ m = 8) : -200000000 ≤ fade d m ∧ fade d m ≤ 200000000 := by
  unfold fade
  split
  · omega
  · have hs := sine_bd (3 * d) (d := 10 * m) (by omega)
    apply tdiv_bd
    · rcases hm with rfl | rfl <;> omega
    · rcases hm with rfl | rfl <;> omega
theorem win_bd {i t : Int} (ht : 1 ≤ t) : -40000 ≤ win i t ∧ win i t ≤ 40000 := by
  unfold win
  have h1 := cosine_bd i ht
  have h2 := cosine_bd (2 * i) ht
  generalize hx : 1376256 - 50 * cosine i t + 8 * cosine (2 * i) t = x
  have b0 : -4000000 ≤ x := by omega
  have b1 : x ≤ 4000000 := by omega
  rw [Int.tdiv_eq_ediv, show Int.sign 100 = 1 from rfl]
  split <;> omega
theorem fw_bd {d m i t : Int} (hm : m = 4 ∨ m = 8) (ht : 1 ≤ t) : -8000000000000 ≤ fade d m * win i t ∧ fade d m * win i t ≤ 8000000000000 := by
  have h1 := fade_bd (d := d) hm
  have h2 := win_bd (i := i) ht
  have := M.mul_bd (fade d m) (win i t) 200000000 40000 (by omega) (by omega) (by omega) (by omega)
  omega
theorem rnd15_bd {n A : Int} (h0 : -A ≤ n) (h1 : n ≤ A) (hA : 1 ≤ A) : -A ≤ rnd n 15 ∧ rnd n 15 ≤ A := by
  have h := rnd_near n 15 (by decide) (by decide)
  have e1 : (2 : Int) ^ (15 - 1 : Int).toNat = 16384 := by decide
  have e2 : (2 : Int) ^ (15 : Int).toNat = 32768 := by decide
  rw [e1, e2] at h
  omega

end M
namespace Bank

theorem cosine_b (n d : Int) (w : World) (hT : Wave.Tab w) (n0 : -9223372036854775808 ≤ n) (n1 : n ≤ 9223372036854775807) (d0 : 1 ≤ d) (d1 : d ≤ 1048576) :
    Calls Tryz.prog 218 #[.int .i64 n, .int .i64 d] w fun e w' => e = .returned (.int .i16 (M.cosine n d)) ∧ ∃ m, w' = w.drewN m := by
  have e1 : M.cosineI n d = M.cosine n d := if_pos ⟨d0, d1⟩
  go_enter Tryz.func218, Tryz.ntmps218
  go_wp2_with (go_at_call 251; refine (Wave.Cosine_all _ _ _ hT n0 n1).mono ?_; rintro e w' ⟨rfl, m, rfl⟩)
  go_ret
  exact ⟨rfl, _, rfl⟩

theorem sine_b (n d : Int) (w : World) (hT : Wave.Tab w) (n0 : -9223372036854775808 ≤ n) (n1 : n ≤ 9223372036854775807) (d0 : 1 ≤ d) (d1 : d ≤ 1048576) :
    Calls Tryz.prog 255 #[.int .i64 n, .int .i64 d] w fun e w' => e = .returned (.int .i16 (M.sine n d)) ∧ ∃ m, w' = w.drewN m := by
  have e1 : M.sineI n d = M.sine n d := if_pos ⟨d0, d1⟩
  go_enter Tryz.func255, Tryz.ntmps255
  go_wp2_with (go_at_call 261; refine (Wave.Sine_all _ _ _ hT n0 n1).mono ?_; rintro e w' ⟨rfl, m, rfl⟩)
  go_ret
  exact ⟨rfl, _, rfl⟩

theorem fading_b (d m : Int) (w : World) (hT : Wave.Tab w) (hm : m = 4 ∨ m = 8) (d0 : -40 ≤ d) (d1 : d ≤ 40) :
    Calls Tryz.prog 245 #[.int .i64 d, .int .i64 m] w fun e w' => e = .returned (.int .i64 (M.fade d m)) ∧ ∃ k, w' = w.drewN k := by
  by_cases hd : d = 0
  · subst hd
    have e : M.fade 0 m = 32768 := rfl
    rw [e]
    go_enter Tryz.func245, Tryz.ntmps245
    go_wp2
    go_ret
    exact ⟨rfl, 0, rfl⟩
  · have hz : ¬ 1065 * d = 0 := by omega
    have hz2 : (d == 0) = false := by simpa using hd
    rcases hm with rfl | rfl
    · have e : M.fade d 4 = (M.sine (3 * d) 40 * 565 * 4).tdiv (1065 * d) := if_neg hd
      have hb := M.sine_bd (3 * d) (d := 40) (by omega)
      have hq := M.tdiv_bd (a := M.sine (3 * d) 40 * 565 * 4) (A := 200000000) (b := 1065 * d) (by omega) (by omega)
      obtain ⟨hb0, hb1⟩ := hb
      obtain ⟨hq0, hq1⟩ := hq
      go_enter Tryz.func245, Tryz.ntmps245
      go_wp2_with (go_at_call 255; refine (sine_b _ _ _ hT (by omega) (by omega) (by omega) (by omega)).mono ?_; rintro e w' ⟨rfl, m, rfl⟩)
      go_ret
      exact ⟨ret_int (by rw [e]), _, rfl⟩
    · have e : M.fade d 8 = (M.sine (3 * d) 80 * 565 * 8).tdiv (1065 * d) := if_neg hd
      have hb := M.sine_bd (3 * d) (d := 80) (by omega)
      have hq := M.tdiv_bd (a := M.sine (3 * d) 80 * 565 * 8) (A := 200000000) (b := 1065 * d) (by omega) (by omega)
      obtain ⟨hb0, hb1⟩ := hb
      obtain ⟨hq0, hq1⟩ := hq
      go_enter Tryz.func245, Tryz.ntmps245
      go_wp2_with (go_at_call 255; refine (sine_b _ _ _ hT (by omega) (by omega) (by omega) (by omega)).mono ?_; rintro e w' ⟨rfl, m, rfl⟩)
      go_ret
      exact ⟨ret_int (by rw [e]), _, rfl⟩

theorem window_b (i t : Int) (w : World) (hT : Wave.Tab w) (ht : t = 40 ∨ t = 80) (i0 : 0 ≤ i) (i1 : i ≤ 80) :
    Calls Tryz.prog 246 #[.int .i64 i, .int .i64 t] w fun e w' => e = .returned (.int .i64 (M.win i t)) ∧ ∃ k, w' = w.drewN k := by
  have e : M.win i t = (1376256 - 50 * M.cosine i t + 8 * M.cosine (2 * i) t).tdiv 100 := rfl
  obtain ⟨a0, a1⟩ := M.cosine_bd i (d := t) (by omega)
  obtain ⟨b0, b1⟩ := M.cosine_bd (2 * i) (d := t) (by omega)
  obtain ⟨q0, q1⟩ := M.win_bd (i := i) (t := t) (by omega)
  rw [e] at q0 q1
  go_enter Tryz.func246, Tryz.ntmps246
  go_wp2_with (go_at_call 218; refine (cosine_b _ _ _ (by first | exact hT | exact Wave.Tab.drewN hT _) (by omega) (by omega) (by omega) (by omega)).mono ?_; rintro e w' ⟨rfl, m, rfl⟩)
  go_ret
  exact ⟨ret_int (by rw [e]), _, rfl⟩

theorem filter_b (i m : Int) (w : World) (hT : Wave.Tab w) (hm : m = 4 ∨ m = 8) (i0 : 0 ≤ i) (i1 : i < 10 * m) :
    Calls Tryz.prog 215 #[.int .i64 i, .int .i64 m] w fun e w' => e = .returned (.int .i16 (M.fil i m)) ∧ ∃ k, w' = w.drewN k := by
  obtain ⟨p0, p1⟩ := M.fw_bd (d := i - 5 * m) (i := i) (t := 10 * m) hm (by omega)
  obtain ⟨r0, r1⟩ := M.rnd15_bd p0 p1 (by omega)
  obtain ⟨s0, s1⟩ := M.rnd15_bd (n := M.rnd (M.fade (i - 5 * m) m * M.win i (10 * m)) 15 * 19708) (A := 200000000000000000) (by omega) (by omega) (by omega)
  have hm' := hm
  obtain ⟨f0, f1⟩ := M.fade_bd (d := i - 5 * m) hm
  obtain ⟨g0, g1⟩ := M.win_bd (i := i) (t := 10 * m) (by omega)
  have e : M.fil i m = M.sat16 (M.rnd (M.rnd (M.fade (i - 5 * m) m * M.win i (10 * m)) 15 * 19708) 15) := rfl
  rcases hm with rfl | rfl
  all_goals
    simp only [show (5 * 4 : Int) = 20 from rfl, show (10 * 4 : Int) = 40 from rfl, show (5 * 8 : Int) = 40 from rfl, show (10 * 8 : Int) = 80 from rfl] at p0 p1 r0 r1 s0 s1 f0 f1 g0 g1 e
    go_enter Tryz.func215, Tryz.ntmps215
    go_wp2_with (first
      | (go_at_call 245; refine (fading_b _ _ _ (by first | exact hT | exact Wave.Tab.drewN hT _) hm' (by omega) (by omega)).mono ?_; rintro e w' ⟨rfl, m, rfl⟩)
      | (go_at_call 246; refine (window_b _ _ _ (by first | exact hT | exact Wave.Tab.drewN hT _) (by omega) (by omega) (by omega)).mono ?_; rintro e w' ⟨rfl, m, rfl⟩)
      | (go_at_call 220; refine (Round_any _ _ _ (by omega) (by omega)).mono ?_; rintro e w' ⟨rfl, m, rfl⟩)
      | (go_at_call 223; refine (Sat16_any _ _ (by omega) (by omega)).mono ?_; rintro e w' ⟨rfl, rfl⟩))
    go_ret
    exact ⟨by rw [e]; rfl, _, rfl⟩

end Bank
end Go.Proofs.YtcaifpjbjghhaaaGreatDoor

