/-
  Contract of the document's Bytes for layer 7 (psalteryref07). Conditions: the coder stands in memory as told.
-/
import Derived.Test.YtknolfpjhfpfaaaArithRefP
import Derived.Test.YtknolfpjhfpfaaaArithStored
import Derived.Test.YtknolfpjhfpfaaaBitsBytes
namespace Go.Proofs.Ytknolfpjhfpfaaa
set_option linter.unusedVariables false
open Go.RowKit
namespace Ari
open Bits (Blk But add_at wrap_id bytesL)
open Num (Ints)

/-- how long a slice is -/
def slLen : Value → Nat
  | .slice _ n _ => n
  | _ => 0
theorem bitF_more (l : List Bool) (k : Nat) : bitF (l ++ List.replicate k false) = bitF l := by
  funext i
  unfold bitF List.getD
  rcases Nat.lt_or_ge i l.length with h | h
  · rw [List.getElem?_append_left h]
  · rw [List.getElem?_append_right h, List.getElem?_eq_none h]
    rcases Nat.lt_or_ge (i - l.length) k with h' | h'
    · simp [h']
    · rw [List.getElem?_eq_none (by simpa using h')]
theorem bitC_length (l : List Bool) : (bitC l).length = l.length := by simp [bitC]
theorem row_data {w : World} {v : Value} {N : Nat} {l : List Bool} (hown : w.ownsRow N 3 1 v l.length (bitC l)) : ∃ d, Bits.RData w v d l.length (bitF l) := by
  obtain ⟨_, ⟨rfl, h0⟩ | ⟨g, cap, cur, rfl, hg, hh, h1, h2, h3, h4⟩⟩ := hown
  · exact ⟨0, none, 0, by rw [h0], fun h => by omega⟩
  · refine ⟨g, _, cap, rfl, fun _ => ⟨rfl, cur, hh, fun i hi => ?_⟩⟩
    have : (cur.toList.take (l.length * 1))[i]? = (bitC l)[i]? := by rw [h4]
    rw [List.getElem?_take_of_lt (by omega), Array.getElem?_toList] at this
    rw [this]
    simp [bitC, bitF, List.getD, List.getElem?_eq_getElem hi]
theorem rdata_alloc {w : World} {v : Value} {d L : Nat} {B : Nat → Bool} (h : Bits.RData w v d L B) (o : Obj) : Bits.RData (w.alloc o) v d L B := by
  obtain ⟨a, cap, hs, hx⟩ := h
  refine ⟨a, cap, hs, fun h0 => ?_⟩
  obtain ⟨ha, cur, hb, hc⟩ := hx h0
  exact ⟨ha, cur, hb.alloc o, hc⟩
/-- a row of bits as it lies: what an append of it copies -/
theorem row_news {w : World} {s : Value} {N : Nat} {l : List Bool} (hown : w.ownsRow N 3 1 s l.length (bitC l)) : ∃ ao c, s = .slice ao l.length c ∧ (ao = none → l.length = 0 ∧ c = 0) ∧ ∀ ad, ao = some ad → ad.block < w.heap.size ∧ ∀ j u, (bitC l)[j]? = some u → w.cell? (ad.add j) = some u := by
  have h := hown
  obtain ⟨_, ⟨rfl, h0⟩ | ⟨g, cap, cur, rfl, hg, hh, h1, h2, h3, h4⟩⟩ := h
  · exact ⟨none, 0, by rw [h0], fun _ => ⟨h0, rfl⟩, fun ad had => by cases had⟩
  · refine ⟨_, cap, rfl, (fun h => by cases h), fun ad had => ?_⟩
    cases had
    refine ⟨(Array.getElem?_eq_some_iff.1 hh).1, fun j u hj => ?_⟩
    exact hown.cells rfl j u hj

set_option maxRecDepth 100000 in
set_option maxHeartbeats 2000000 in
theorem rBytes_any (m N : Nat) (L W : Int) (o : Nat) (l : List Bool) (en : Bool) (w : World) (h : RCdr w m N L W o l en) (hl : l.length ≤ 4000) :
    Calls Try.prog 20 #[.pointer (some ⟨m, 0, none⟩)] w fun e w' => e = .returned (.string (Byt.str (bytL l))) ∧ Below w.heap.size w w' := by
  obtain ⟨i0, hi0, hz0, hz1, hz2⟩ := info_parts Num.info64
  obtain ⟨s, hb, hown, hmN, hNs⟩ := h
  have c4 : w.cell? ⟨m, 4, none⟩ = some s := hb.cell rfl
  have lb := hb.lt
  obtain ⟨ao, c, rfl, hnone, hsome⟩ := row_news hown
  have hemp : (w.alloc (.cells #[] 3)).ownsRow w.heap.size 3 1 (.slice (some ⟨w.heap.size, 0, none⟩) 0 0) 0 [] := World.ownsRow_made w #[] 0 (Nat.le_refl _) (by unfold maxLen; omega) rfl
  have hcs : ∀ ad, ao = some ad → ∀ j u, (bitC l)[j]? = some u → (w.alloc (.cells #[] 3)).cell? (ad.add j) = some u := fun ad had j u hj => by
    obtain ⟨k1, k2⟩ := hsome ad had
    exact (((Below.refl w.heap.size w).alloc (Nat.le_refl _) (.cells #[] 3)).cell (p := ad.add j) (by unfold Addr.add; split <;> exact k1)).trans (k2 j u hj)
  have one : ∀ u ∈ bitC l, u.oneCell' = true := fun u hu => by
    obtain ⟨x, _, rfl⟩ := List.mem_map.1 hu; rfl
  go_enter Try.func20, Try.ntmps20
  go_wp2_with (at_builtin; refine wpList_append_opt _ rfl (.tmp 5) (.tmp 9) 29 rfl w.heap.size 3 i0 (.int .i64 0) 1 8 Try.underlying29 hi0 hz0 hz1 hz2 rfl (by decide) _ 0 _ rfl hemp ao l.length c (bitC l) rfl (by rw [bitC_length]; omega) hnone hcs one (by unfold maxLen; omega) (by omega) (by simp) ?_; intro v8 w8 own8 gr8)
  have bel8 : Below w.heap.size w w8 := ((Below.refl w.heap.size w).alloc (Nat.le_refl _) (.cells #[] 3)).grown gr8 (by simp) (fun k hk => (hemp.lt k hk).1)
  have s8 := bel8.size
  go_loopw [3] (fun v wr => ∃ k : Nat, k ≤ 8 ∧ (∀ i, i < k → (l.length + i) % 8 ≠ 0) ∧ wr.ownsRow w.heap.size 3 1 v (l.length + k) (bitC (l ++ List.replicate k false)) ∧ Below w.heap.size w wr) (fun v _ => (8 - slLen v % 8) % 8)
  case atStart => exact ⟨0, by omega, fun i hi => absurd hi (by omega), by simpa using own8, bel8⟩
  case round =>
    clear own8 gr8 bel8 s8 hemp hcs
    obtain ⟨k, hk, hkk, hownr, belr⟩ := hrel
    have sr := belr.size
    obtain ⟨va, vc, rfl⟩ := own_form hownr
    by_cases hz : (l.length + k) % 8 = 0
    · have hlr : (l ++ List.replicate k false).length = l.length + k := by simp
      have hown' : wr.ownsRow w.heap.size 3 1 (.slice va (l.length + k) vc) (l ++ List.replicate k false).length (bitC (l ++ List.replicate k false)) := by rw [hlr]; exact hownr
      obtain ⟨d, hd⟩ := row_data hown'
      rw [bitF_more, hlr] at hd
      have hk8 : k ≤ 7 := by
        rcases Nat.lt_or_ge k 8 with h | h
        · omega
        · have : k = 8 := by omega
          subst this
          have q0 := hkk 0 (by omega); have q1 := hkk 1 (by omega); have q2 := hkk 2 (by omega); have q3 := hkk 3 (by omega); have q4 := hkk 4 (by omega); have q5 := hkk 5 (by omega); have q6 := hkk 6 (by omega); have q7 := hkk 7 (by omega)
          omega
      obtain ⟨n, hn⟩ : ∃ n, l.length + k = 8 * n := ⟨(l.length + k) / 8, by omega⟩
      have hn7 : (l.length + 7) / 8 = n := by omega
      have hd' : Bits.RData wr (.slice va (l.length + k) vc) d (8 * n) (bitF l) := by rw [← hn]; exact hd
      have hRef : Bits.Ref (wr.alloc (.cells #[.slice va (l.length + k) vc, .int .i64 0, .int .i64 0] 53)) wr.heap.size d n (bitF l) 0 0 := ⟨_, Blk.new _ _ _, rdata_alloc hd' _⟩
      have hB := Bits.RBytes wr.heap.size d n 0 0 (bitF l) _ hRef (by omega)
      have hby : bytesL n (bitF l) = bytL l := by unfold bytL; rw [hn7]
      rw [hby] at hB
      have hbl : (bytL l).length = n := by rw [bytL_length, hn7]
      have i1 : (((l.length + k : Nat) : Int)) % 8 = 0 := by omega
      obtain ⟨Z, hZ⟩ : ∃ Z, Z = l.length + k := ⟨_, rfl⟩
      rw [← hZ] at hB i1 ⊢
      have i0' : (0 : Int) ≤ Z := by omega
      have hst : ∀ a' cap' w', w'.ownsRow (wr.alloc (.cells #[.slice va Z vc, .int .i64 0, .int .i64 0] 53)).heap.size 5 1 (.slice a' n cap') n ((bytL l).map fun x : Nat => Value.int .u8 x) → (convert 41 9 (.slice a' n cap')).run Try.prog w' = .ok (.string (Byt.str (bytL l))) w' := fun a' cap' w' ho => Byt.run_str (Byt.given_own (base := _) (by rw [hbl]; exact ho) (bytL_lt l))
      clear hZ hn hn7 hz hkk hownr hown' hd hd' hRef hby hlr
      go_wp2_with (go_at_call 36; refine hB.mono ?_; clear hB; rintro e w9 ⟨a', cap', rfl, own9, bel9⟩; have hcv := hst _ _ _ own9)
      go_ret
      exact ⟨rfl, (belr.alloc sr _).trans (Bits.Below.less bel9 (by simp; omega))⟩
    · have i1 : ¬ (((l.length + k : Nat) : Int)) % 8 = 0 := by omega
      have hlk : l.length + k ≤ 5000 := by omega
      obtain ⟨Z, hZ⟩ : ∃ Z, Z = l.length + k := ⟨_, rfl⟩
      rw [← hZ] at hownr i1 hlk ⊢
      have i0' : (0 : Int) ≤ Z := by omega
      have hZ' : Hid (Z = l.length + k) := hZ
      clear hZ
      go_wp2_with (at_builtin; refine wpList_append_own _ rfl (.tmp 15) (.tmp 16) 29 rfl w.heap.size 3 i0 (.int .i64 0) 1 8 Try.underlying29 hi0 hz0 hz1 hz2 rfl (by decide) _ _ _ rfl (hownr.alloc _) ⟨wr.heap.size, 0, none⟩ 1 1 [.int .i64 0] rfl rfl (World.news_of_block (cs := #[.int .i64 0]) (t := 3) (fr := (0, 0)) (heap_alloc_new wr _)) (by simp [Value.oneCell']) (by unfold maxLen; omega) (by omega) (by simp; omega) ?_; intro v' w3 hown3 hgrow _)
      go_roundw
      case rel =>
        have hZ : Z = l.length + k := hZ'
        refine ⟨k + 1, ?_, fun i hi => ?_, ?_, (belr.alloc sr _).grown hgrow (by simp; omega) (fun k hk => (hownr.lt k hk).1)⟩
        · rcases Nat.lt_or_ge k 8 with h | h
          · omega
          · have : k = 8 := by omega
            subst this
            have q0 := hkk 0 (by omega); have q1 := hkk 1 (by omega); have q2 := hkk 2 (by omega); have q3 := hkk 3 (by omega); have q4 := hkk 4 (by omega); have q5 := hkk 5 (by omega); have q6 := hkk 6 (by omega); have q7 := hkk 7 (by omega)
            omega
        · rcases Nat.lt_or_ge i k with h | h
          · exact hkk i h
          · obtain rfl : i = k := by omega
            exact hz
        · rw [List.replicate_succ', ← List.append_assoc, bitC_snoc, show l.length + (k + 1) = Z + 1 by omega]
          exact hown3
      case measure =>
        obtain ⟨g3, cap3, rfl, _, _⟩ := hown3.form (by omega)
        have hZ : Z = l.length + k := hZ'
        show (8 - (Z + 1) % 8) % 8 < (8 - Z % 8) % 8
        omega

end Ari
end Go.Proofs.Ytknolfpjhfpfaaa
