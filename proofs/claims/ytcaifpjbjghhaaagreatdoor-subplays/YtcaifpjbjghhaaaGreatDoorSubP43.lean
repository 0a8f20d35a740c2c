import Derived.Test.YtcaifpjbjghhaaaGreatDoorSubP42
import Derived.Test.YtcaifpjbjghhaaaGreatDoorSubP33
/-
  Lines behind the same planes, several times; the newest ten blocks tell all. No walk. Conditions: as told at each.
-/
namespace Go.Proofs.YtcaifpjbjghhaaaGreatDoor
set_option linter.unusedVariables false
namespace M
theorem allv_drop (m : Nat) (zss : List (List Int)) (d : Nat) (hd : d ≤ zss.length) : allv m (zss.drop d) = allvK m zss (zss.length - d) := by
  unfold allv allvK
  rw [List.reverse_drop]
theorem jn_newest (m : Nat) (zss : List (List Int)) (d : Nat) (hd : d = 0 ∨ d + 10 = zss.length) : jn m (lineJ m zss (List.replicate (20 * m) 0)) = jn m (allv m (zss.drop d)) := by
  refine jn_congr fun i hi => ?_
  have h := lineJ_allv m zss zss.length i hi
  rw [List.take_length] at h
  rw [h]
  rcases hd with rfl | hd
  · rfl
  · rw [allv_drop m zss d (by omega), show zss.length - d = 10 by omega]
    exact allvK_get (by rw [allvK_length (by omega)]; omega)
def rep (N B : Nat) (F : Nat → Nat → Int) (n : Nat) : List (List Int) := (List.range n).map fun i => Sub.rl B (F (i % N))
theorem rep_length (N B : Nat) (F : Nat → Nat → Int) (n : Nat) : (rep N B F n).length = n := by simp [rep]
theorem rep_succ (N B : Nat) (F : Nat → Nat → Int) (n : Nat) : rep N B F (n + 1) = rep N B F n ++ [Sub.rl B (F (n % N))] := by unfold rep; rw [List.range_succ, List.map_append]; rfl
theorem rep_drop (N B : Nat) (F : Nat → Nat → Int) (n d : Nat) (h : d ≤ n) : (rep N B F n).drop d = (List.range (n - d)).map fun i => Sub.rl B (F ((d + i) % N)) := by
  apply List.ext_getElem
  · simp [rep]
  · intro i h1 h2
    simp [rep]
def lnR (N B : Nat) (F : Nat → Nat → Int) (r : Nat) : List Int := lineJ B (rep N B F (r * N)) (List.replicate (20 * B) 0)
theorem lnR_zero (N B : Nat) (F : Nat → Nat → Int) : lnR N B F 0 = List.replicate (20 * B) 0 := by unfold lnR; rw [Nat.zero_mul]; rfl
theorem jst_rep (N B : Nat) (F : Nat → Nat → Int) (r : Nat) : ∀ q, q ≤ N → jst B F (lnR N B F r) q = lineJ B (rep N B F (r * N + q)) (List.replicate (20 * B) 0)
  | 0, _ => rfl
  | q + 1, hq => by
    have e : (r * N + q) % N = q := by rw [Nat.mul_comm, Nat.mul_add_mod, Nat.mod_eq_of_lt (by omega)]
    show nj B (Sub.rl B (F q)) (jst B F (lnR N B F r) q) = _
    rw [jst_rep N B F r q (by omega), show r * N + (q + 1) = (r * N + q) + 1 from rfl, rep_succ, lineJ_snoc, e]
theorem jst_all (N B : Nat) (F : Nat → Nat → Int) (r : Nat) : jst B F (lnR N B F r) N = lnR N B F (r + 1) := by
  rw [jst_rep N B F r N (Nat.le_refl _)]
  unfold lnR
  rw [Nat.succ_mul r N]
theorem jsm_rep (N B : Nat) (F : Nat → Nat → Int) (r q d : Nat) (hq : q < N) (hd : d = 0 ∨ d + 10 = r * N + q + 1) :
    jsm B F (lnR N B F r) (q + 1) = jsm B F (lnR N B F r) q ++ jn B (allv B ((List.range (r * N + q + 1 - d)).map fun i => Sub.rl B (F ((d + i) % N)))) := by
  show jsm B F (lnR N B F r) q ++ jn B (jst B F (lnR N B F r) (q + 1)) = _
  rw [jst_rep N B F r (q + 1) (by omega), show r * N + (q + 1) = r * N + q + 1 from rfl, jn_newest B _ d (by rw [rep_length]; exact hd), rep_drop _ _ _ _ _ (by omega)]
end M
end Go.Proofs.YtcaifpjbjghhaaaGreatDoor

