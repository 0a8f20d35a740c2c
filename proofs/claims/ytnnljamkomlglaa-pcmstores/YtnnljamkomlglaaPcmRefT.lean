/-
  The contract of Take of the document's store. Conditions: as told.
-/
import Derived.Test.YtnnljamkomlglaaPcmRef
import Derived.Test.YtnnljamkomlglaaPcmChan
namespace Go.Proofs.Ytnnljamkomlglaa
set_option linter.unusedVariables false
open Go.RowKit
namespace Pcm
open Bank (Blk But)
open Poly

/-- how the document's Take ends: a cut of what waits goes into a new row -/
def TakeEnd (b : Nat) (most : Int) (q : List Int) (N : Nat) (w : World) (v : Value) (w' : World) : Prop := Reads .i16 w.heap.size w'.heap.size w' v (M.tk N q) ∧ (∃ r', RSto w' b r' most (q.drop N) ∧ (r' = b ∨ (w.heap.size ≤ r' ∧ r' < w'.heap.size))) ∧ But b w w'
theorem drop_min (q : List Int) (N k : Nat) (hk : k = min q.length N) : q.drop k = q.drop N := by
  rcases Nat.le_total q.length N with h | h
  · rw [List.drop_eq_nil_of_le (by omega), List.drop_eq_nil_of_le h]
  · rw [show k = N by omega]
theorem takeEnd {b r0 : Nat} {most : Int} {q : List Int} {N B : Nat} {w wr w2 : World} {v va vb : Value} {zs : List Int} (hB : w.heap.size = B) (hb : Blk w b #[.int .i64 most, vb] 43) (hm : 0 ≤ most ∧ most ≤ 4096 ∧ (q.length : Int) ≤ most) (hG : Gat .i16 51 B v (M.tk N q) w wr) (hf : M.fits16 q)
    (hq : Que w2 r0 va zs) (hz : zs = q.drop N) (hb2 : But wr.heap.size (wr.alloc (.cells #[] 51)).drew w2) (hr : r0 = wr.heap.size ∨ r0 = wr.heap.size + 1) : TakeEnd b most q N w v (w2.setCell ⟨b, 1, none⟩ va) := by
  subst hz
  have hs := hG.size
  have hlt := hb.lt
  have hbel := hG.2.1
  have s2 : wr.heap.size + 1 ≤ w2.heap.size := by have := hb2.size; simpa using this
  have kk : ∀ k, k < wr.heap.size → w2.heap[k]? = wr.heap[k]? := fun k hk => (hb2.block k (by simp; omega) (by omega)).trans (Below.heap_alloc wr _ k hk)
  have hbk : Blk w2 b #[.int .i64 most, vb] 43 := (kk b (by omega)).trans ((hbel.block b (by omega)).trans hb)
  have hr' := hG.reads (fit16.2 (M.tk_fits hf))
  obtain ⟨r5, hq5, hr5⟩ : ∃ r5, Que (w2.setCell ⟨b, 1, none⟩ va) r5 va (q.drop N) ∧ (r5 = b ∨ (w.heap.size ≤ r5 ∧ r5 < w2.heap.size)) := by
    rcases id hq.2 with h' | ⟨o, cap, cur, _, hbk, _⟩
    · exact ⟨b, ⟨hq.1, .inl h'⟩, .inl rfl⟩
    · exact ⟨r0, hq.set (by simp; omega) _, by have := hbk.lt; omega⟩
  refine ⟨?_, ⟨r5, ⟨va, by simpa using hbk.set 1 va, hq5, hm.1, hm.2.1, by simp; omega⟩, by simpa [World.setCell] using hr5⟩, ?_⟩
  · rw [hB]
    refine (hr'.keep fun k h1 h2 => ?_).mono (Nat.le_refl _) (by simp [World.setCell]; omega)
    rw [Below.heap_setCell _ _ _ _ (by simp; omega)]
    exact kk k h2
  · refine But.set (b := b) (a := ⟨b, 1, none⟩) ⟨hb2.os.trans hbel.os, hb2.tape.trans hbel.tape, hb2.output.trans hbel.output, by have := hbel.size; omega, fun k hk _ => (kk k (by omega)).trans (hbel.block k (by omega))⟩ (.inl rfl) va

set_option maxRecDepth 100000 in
set_option maxHeartbeats 4000000 in
theorem rTake_all (b r : Nat) (most n : Int) (N : Nat) (q : List Int) (w : World) (h : RSto w b r most q) (hN : (n ≤ 0 ∧ N = 0) ∨ (0 < n ∧ n ≤ 4096 ∧ n = N) ∨ (4096 < n ∧ N = 4096)) :
    Calls Try.prog 20 #[.pointer (some ⟨b, 0, none⟩), .int .i64 n] w fun e w' => ∃ v, e = .returned v ∧ TakeEnd b most q N w v w' := by
  obtain ⟨u, hb, hq, m0, m1, hlen⟩ := h
  obtain ⟨a1, c1, rfl, hc1⟩ := hq.form
  obtain ⟨i0, hi0, hz0, hz1, hz2⟩ := info_parts info16
  have hfq := hq.1
  have hlt := hb.lt
  have y1 := hb.cell (o := 1) rfl
  have f1 := hb.free 1
  have H0 := Gat.nil .i16 51 w
  have hXL : (M.tk N q).length = N := M.tk_length _ _
  have hget : ∀ j, j < N → (M.tk N q).getD j 0 = q.getD j 0 := fun j hj => M.tk_get hj
  obtain ⟨X, hX⟩ : ∃ X, M.tk N q = X := ⟨_, rfl⟩
  rw [hX] at hXL hget
  obtain ⟨B, hB⟩ : ∃ B, w.heap.size = B := ⟨_, rfl⟩
  have HB : Hid (w.heap.size = B) := hB
  rw [hB] at H0 hlt
  have hcell : ∀ i, i < q.length → ∃ rb ro, a1 = some ⟨rb, ro, none⟩ ∧ rb < B ∧ w.cell? ⟨rb, ro + i, none⟩ = some (.int .i16 (q.getD i 0)) := fun i hi => by
    obtain ⟨rb, ro, ha, _, _, hc⟩ := hq.reads.cell (by omega)
    exact ⟨rb, ro, ha, by rw [← hB]; exact World.block_lt_of_cell? w _ (hc i hi), hc i hi⟩
  have q1 : (q.length : Int) ≤ 4096 := by omega
  have q2 : (q.length : Int) ≤ c1 := by omega
  have HA : Hid _ := hcell
  have Hg : Hid _ := hget
  have HX : Hid _ := hXL
  have HXX : Hid _ := hX
  have HQ : Hid (Que _ _ _ _) := hq
  have Hfq : Hid _ := hfq
  have Hb : Hid (Blk _ _ _ _) := hb
  have Hlt : Hid (b < B) := hlt
  have Hc1 : Hid _ := hc1
  have Hm : Hid (0 ≤ most ∧ most ≤ 4096 ∧ (q.length : Int) ≤ most) := ⟨m0, m1, hlen⟩
  have Hf1 : Hid (w.frozen? ⟨b, 1, none⟩ = false) := f1
  have Hy1 : Hid (w.cell? ⟨b, 1, none⟩ = some (.slice a1 q.length c1)) := y1
  clear hcell hget hXL hq hb hlt hlen hB f1 y1 hX hc1 hfq
  obtain ⟨m1', e1, e2⟩ : ∃ m : Int, (if 4096 < n then 4096 else n) = m ∧ (if m < 0 then 0 else m) = (N : Int) := ⟨if 4096 < n then 4096 else n, rfl, by split <;> split <;> omega⟩
  have N1 : (N : Int) ≤ 4096 := by omega
  have N2 : N ≤ 4096 := by omega
  clear hN
  go_enter Try.func20, Try.ntmps20
  go_wp2
  go_loopw [5, 6] (fun v i wr => ∃ k : Nat, k ≤ N ∧ i = .int .i64 k ∧ Gat .i16 51 B v (X.take k) w wr) (fun _ i _ => N - (intOf i).toNat)
  case atStart => exact ⟨0, by omega, rfl, by simpa using H0⟩
  case round =>
    clear H0
    obtain ⟨k, hk, rfl, hG⟩ := hrel
    by_cases hlt : k < N
    · have i1 : (k : Int) < N := by omega
      have i0' : (0 : Int) ≤ k := by omega
      have hown := hG.1
      have hsz := hG.size
      have hln : (X.take k).length ≤ 1000000 := by rw [List.length_take]; omega
      have hstep : Hid (X.take (k + 1) = X.take k ++ [X.getD k 0]) := M.take_one (by rw [HX.out]; exact hlt)
      rw [Hg.out k hlt] at hstep
      have y1 : wr.cell? ⟨b, 1, none⟩ = some (.slice a1 q.length c1) := (hG.2.1.cell Hlt.out).trans Hy1.out
      rcases Nat.lt_or_ge k q.length with hkq | hkq
      · obtain ⟨rb, ro, rfl, hrb, hc⟩ := HA.out k hkq
        have hc2 : wr.cell? ⟨rb, ro + k, none⟩ = some (.int .i16 (q.getD k 0)) := (hG.2.1.cell hrb).trans hc
        have j1 : (k : Int) < q.length := by omega
        generalize q.getD k 0 = y at hstep hc2
        generalize X.take k = Y at *
        clear hc HA
        go_wp2_with (at_builtin; refine wpList_append_own _ rfl (.tmp 30) (.tmp 32) 22 rfl B 51 i0 (.int .i16 0) 1 2 Try.underlying22 hi0 hz0 hz1 hz2 rfl (by decide) _ _ _ rfl (hown.alloc _) ⟨wr.heap.size, 0, none⟩ 1 1 [.int .i16 y] rfl rfl (World.news_of_block (cs := #[.int .i16 y]) (t := 51) (fr := (0, 0)) (heap_alloc_new wr _)) (by simp [Value.oneCell']) (by unfold maxLen; omega) (by omega) (by simp; omega) ?_; intro v' w1 hown' hgrow _; have R := hG.step hown' hgrow; clear hown' hgrow hown hG)
        go_roundw
        case rel => exact ⟨k + 1, by omega, by go_num, by rw [hstep.out]; exact R⟩
        case measure => simp [intOf]; omega
      · have j1 : ¬ (k : Int) < q.length := by omega
        rw [M.getD_out hkq] at hstep
        generalize X.take k = Y at *
        clear HA
        go_wp2_with (at_builtin; refine wpList_append_own _ rfl (.tmp 30) (.tmp 32) 22 rfl B 51 i0 (.int .i16 0) 1 2 Try.underlying22 hi0 hz0 hz1 hz2 rfl (by decide) _ _ _ rfl (hown.alloc _) ⟨wr.heap.size, 0, none⟩ 1 1 [.int .i16 0] rfl rfl (World.news_of_block (cs := #[.int .i16 0]) (t := 51) (fr := (0, 0)) (heap_alloc_new wr _)) (by simp [Value.oneCell']) (by unfold maxLen; omega) (by omega) (by simp; omega) ?_; intro v' w1 hown' hgrow _; have R := hG.step hown' hgrow; clear hown' hgrow hown hG)
        go_roundw
        case rel => exact ⟨k + 1, by omega, by go_num, by rw [hstep.out]; exact R⟩
        case measure => simp [intOf]; omega
    · obtain rfl : N = k := by omega
      rw [List.take_of_length_le (by rw [HX.out]; omega)] at hG
      obtain ⟨K, hK⟩ : ∃ K, K = min q.length N := ⟨_, rfl⟩
      have hKq : K ≤ q.length := by omega
      have g4 : (if q.length < N then (q.length : Int) else N) = (K : Int) := by split <;> omega
      have k1 : (K : Int) ≤ q.length := by omega
      have k0 : (0 : Int) ≤ K := by omega
      have hsl := cutAny a1 q.length c1 K Hc1.out (by omega)
      have hcut := HQ.out.cut K (by omega)
      obtain ⟨va, vl, vc, hV⟩ : ∃ va vl vc, Value.slice (if c1 - K = 0 then a1 else a1.map (·.add K)) (q.length - K) (c1 - K) = .slice va vl vc := ⟨_, _, _, rfl⟩
      obtain ⟨Z, hZ⟩ : ∃ Z, q.drop K = Z := ⟨_, rfl⟩
      rw [hV] at hsl hcut
      rw [hZ] at hcut
      have Hdr : Hid (Z = q.drop N) := by rw [← hZ]; exact drop_min q N K hK
      have Hln : Hid (([] : List Int).length + Z.length ≤ 1000000) := by show _ ≤ _; rw [← hZ]; simp only [List.length_nil, List.length_drop]; omega
      clear hZ hK
      have hbel := hG.2.1
      have y1 : wr.cell? ⟨b, 1, none⟩ = some (.slice a1 q.length c1) := (hbel.cell Hlt.out).trans Hy1.out
      have y1A : (wr.alloc (.cells #[] 51)).cell? ⟨b, 1, none⟩ = some (.slice a1 q.length c1) := Lib.cell?_alloc_some _ y1
      have hsB : B ≤ wr.heap.size := hG.size
      have hcr : Que (wr.alloc (.cells #[] 51)).drew r (.slice va vl vc) Z := by
        have h1 : Que wr r (.slice va vl vc) Z := hcut.keep fun hl => hbel.block r (by have := HB.out; omega)
        exact h1.alloc _
      have hnA : Que (wr.alloc (.cells #[] 51)).drew wr.heap.size (.slice (some ⟨wr.heap.size, 0, none⟩) 0 0) [] := ⟨fun z hz => absurd hz (by simp), .inr ⟨0, 0, #[], rfl, Blk.new wr _ _, Nat.le_refl _, by decide, by simp, fun i hi => absurd hi (by simp)⟩⟩
      have HG : Hid (Gat _ _ _ _ _ _ _) := hG
      have Hcr : Hid (Que _ r _ _) := hcr
      have HnA : Hid (Que _ wr.heap.size _ _) := hnA
      have HV : Hid _ := hV
      have HsB : Hid (B ≤ wr.heap.size) := hsB
      have fA : ∀ w2, But wr.heap.size (wr.alloc (.cells #[] 51)).drew w2 → w2.cell? ⟨b, 1, none⟩ = some (.slice a1 q.length c1) ∧ w2.frozen? ⟨b, 1, none⟩ = false := fun w2 hb2 => by
        have hl := Hlt.out
        have hB := HB.out
        have k1 : Blk w2 b _ _ := (hb2.block b (by simp; omega) (by omega)).trans ((Below.heap_alloc wr _ b (by omega)).trans ((hbel.block b hl).trans Hb.out))
        exact ⟨k1.cell rfl, k1.free 1⟩
      have HfA : Hid _ := fA
      clear hcut hbel hsB hcr hnA hG hV fA
      go_wp2
      go_region_law (refine step_append_que rfl (.tmp 35) (.tmp 47) rfl wr.heap.size _ [] rfl HnA.out r (r + 1) _ _ _ Z rfl Hcr.out.reads Hln.out ?_; intro r2 v2 w2 hq2 hb2 hr2 hn2 hs2; rw [List.nil_append] at hq2; obtain ⟨a2, c2, rfl, _⟩ := hq2.form; obtain ⟨z1, z2⟩ := HfA.out w2 hb2; have HQ2 : Hid (Que _ _ _ _) := hq2; have HB2 : Hid (But _ _ _) := hb2; have HR2 : Hid (_ ∨ _) := hr2; clear hq2 hb2 hr2 hn2 hs2)
      all_goals (
        go_wp2
        go_ret
        have hr : r2 = wr.heap.size ∨ r2 = wr.heap.size + 1 := by
          have h : r2 = wr.heap.size ∨ r2 = (wr.alloc (.cells #[] 51)).drew.heap.size := HR2.out
          simpa using h
        have hg := HG.out
        rw [← HXX.out] at hg
        exact ⟨_, rfl, takeEnd HB.out Hb.out Hm.out hg Hfq.out HQ2.out Hdr.out HB2.out hr⟩)

end Pcm
end Go.Proofs.Ytnnljamkomlglaa
