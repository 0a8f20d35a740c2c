/-
  The numbers of the bank's tables: contracts of the functions that reckon them. Conditions: the polynomial's numbers stand as their initialiser lays them.
-/
import Derived.Test.YtjfhlaahgfdmnaaDoorWaveTab
namespace Go.Proofs.YtjfhlaahgfdmnaaDoor
open Go.RowKit
namespace M

/-- the filter's wave, d numbers from its middle -/
def fade (d m : Int) : Int := if d = 0 then 32768 else (sine (3 * d) (10 * m) * 565 * m).tdiv (1065 * d)
def win (i t : Int) : Int := (1376256 - 50 * cosine i t + 8 * cosine (2 * i) t).tdiv 100
def fil (i m : Int) : Int := sat16 (rnd (rnd (fade (i - 5 * m) m * win i (10 * m)) 15 * 19708) 15)

theorem tdiv_bd {a A b : Int} (a0 : -A ≤ a) (a1 : a ≤ A) : -A ≤ a.tdiv b ∧ a.tdiv b ≤ A := by
  have h : (a.tdiv b).natAbs ≤ a.natAbs := by
    rw [Int.natAbs_tdiv]
    exact Nat.div_le_self _ _
  omega
theorem fade_bd {d m : Int} (hm : m = 4 ∨ m = 8) : -200000000 ≤ fade d m ∧ fade d m ≤ 200000000 := by
  unfold fade
  split
  · omega
  · have hs := sine_bd (3 * d) (d := 10 * m) (by omega)
    apply tdiv_bd
    · rcases hm with rfl | rfl <;> omega
    · rcases hm with rfl | rfl <;> omega
theorem win_bd {i t : Int} (ht : 1 ≤ t) : -40000 ≤ win i t ∧ win i t ≤ 40000 := by
  unfold win
  have h1 := cosine_bd i ht
  have h2 := cosine_bd (2 * i) ht
  generalize hx : 1376256 - 50 * cosine i t + 8 * cosine (2 * i) t = x
  have b0 : -4000000 ≤ x := by omega
  have b1 : x ≤ 4000000 := by omega
  rw [Int.tdiv_eq_ediv, show Int.sign 100 = 1 from rfl]
  split <;> omega
theorem fw_bd {d m i t : Int} (hm : m = 4 ∨ m = 8) (ht : 1 ≤ t) : -8000000000000 ≤ fade d m * win i t ∧ fade d m * win i t ≤ 8000000000000 := by
  have h1 := fade_bd (d := d) hm
  have h2 := win_bd (i := i) ht
  have := M.mul_bd (fade d m) (win i t) 200000000 40000 (by omega) (by omega) (by omega) (by omega)
  omega
theorem rnd15_bd {n A : Int} (h0 : -A ≤ n) (h1 : n ≤ A) (hA : 1 ≤ A) : -A ≤ rnd n 15 ∧ rnd n 15 ≤ A := by
  have h := rnd_near n 15 (by decide) (by decide)
  have e1 : (2 : Int) ^ (15 - 1 : Int).toNat = 16384 := by decide
  have e2 : (2 : Int) ^ (15 : Int).toNat = 32768 := by decide
  rw [e1, e2] at h
  omega

end M
namespace Bank

theorem cosine_b (n d : Int) (w : World) (hT : Wave.Tab w) (n0 : -9223372036854775808 ≤ n) (n1 : n ≤ 9223372036854775807) (d0 : 1 ≤ d) (d1 : d ≤ 1048576) :
    Calls Tryd.prog 58 #[.int .i64 n, .int .i64 d] w fun e w' => e = .returned (.int .i16 (M.cosine n d)) ∧ ∃ m, w' = w.drewN m := by
  have e1 : M.cosineI n d = M.cosine n d := if_pos ⟨d0, d1⟩
  go_enter Tryd.func58, Tryd.ntmps58
  go_wp2_with (go_at_call 67; refine (Wave.Cosine_all _ _ _ hT n0 n1).mono ?_; rintro e w' ⟨rfl, m, rfl⟩)
  go_ret
  exact ⟨rfl, _, rfl⟩

theorem sine_b (n d : Int) (w : World) (hT : Wave.Tab w) (n0 : -9223372036854775808 ≤ n) (n1 : n ≤ 9223372036854775807) (d0 : 1 ≤ d) (d1 : d ≤ 1048576) :
    Calls Tryd.prog 41 #[.int .i64 n, .int .i64 d] w fun e w' => e = .returned (.int .i16 (M.sine n d)) ∧ ∃ m, w' = w.drewN m := by
  have e1 : M.sineI n d = M.sine n d := if_pos ⟨d0, d1⟩
  go_enter Tryd.func41, Tryd.ntmps41
  go_wp2_with (go_at_call 52; refine (Wave.Sine_all _ _ _ hT n0 n1).mono ?_; rintro e w' ⟨rfl, m, rfl⟩)
  go_ret
  exact ⟨rfl, _, rfl⟩

end Bank
end Go.Proofs.YtjfhlaahgfdmnaaDoor
