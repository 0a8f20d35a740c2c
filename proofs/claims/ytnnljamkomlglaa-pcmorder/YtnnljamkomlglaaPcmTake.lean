/-
  The contract of a store's Take. Conditions: as told.
-/
import Derived.Test.YtnnljamkomlglaaPcmStore
namespace Go.Proofs.Ytnnljamkomlglaa
set_option linter.unusedVariables false
open Go.RowKit
namespace Pcm
open Bank (Blk But)
open Poly

theorem cutAny (a : Option Addr) (l c n : Nat) (hl : l ≤ c) (hn : n ≤ l) (w : World) : (Instr.slice 22 (.slice a l c) (some (.int .i64 (n : Int))) none none).run Try.prog w = .ok (.slice (if c - n = 0 then a else a.map (·.add n)) (l - n) (c - n)) w := by
  rw [run_slice_l (P := Try.prog) w 22 a l c (by rw [elem16]; exact Try.underlying22) .i64 n (by omega) (by omega), elem16, size16]
  show Result.ok (Go.sliced a (n : Int).toNat l c 1) w = _
  unfold Go.sliced
  simp
  split <;> split <;> first | rfl | omega

theorem splice_tk (N k : Nat) (q : List Int) (hk : k = min q.length N) : splice (enc .i16 (List.replicate N 0)) 0 (enc .i16 (q.take k)) = enc .i16 (M.tk N q) := by
  unfold splice
  have e : enc .i16 (q.take k) ++ (enc .i16 (List.replicate N 0)).drop (0 + (enc .i16 (q.take k)).length) = enc .i16 (q.take k ++ (List.replicate N 0).drop k) := by
    rw [enc_length, List.length_take, show min k q.length = k by omega]
    simp [enc]
  rw [e, List.take_zero, List.nil_append]
  congr 1
  refine M.eq_of_getD (by rw [M.tk_length]; simp; omega) fun i hi => ?_
  simp at hi
  rw [M.getD_append, M.tk_get (by omega)]
  split
  · rename_i h; simp at h; rw [M.getD_take (by omega)]
  · rename_i h
    simp at h
    rw [List.drop_replicate, M.getD_rep, M.getD_out (by omega)]

theorem Que.set_obj {w : World} {r b o : Nat} {v x : Value} {zs : List Int} {cur : Array Value} {t : TypeId} (h : Que w r v zs) (hb : Blk w b cur t) (ht : t ≠ 51) : Que (w.setCell ⟨b, o, none⟩ x) r v zs := by
  rcases h.2 with h' | ⟨o', cap, cur', hv, hb', hx⟩
  · exact ⟨h.1, .inl h'⟩
  · exact h.set (hb'.ne hb (Ne.symm ht)) x

set_option maxRecDepth 100000 in
set_option maxHeartbeats 2000000 in
theorem Take_some (b r : Nat) (most n : Int) (N : Nat) (q : List Int) (w : World) (h : Sto w b r most q) (hN : (n ≤ 4096 ∧ n = N) ∨ (4096 < n ∧ N = 4096)) (h0 : 0 < N) :
    Calls Try.prog 19 #[.pointer (some ⟨b, 0, none⟩), .int .i64 n] w fun e w' => e = .returned (.slice (some ⟨w.heap.size, 0, none⟩) N N) ∧ Blk w' w.heap.size (enc .i16 (M.tk N q)).toArray 51 ∧ Sto w' b r most (q.drop N) ∧ But b w w' := by
  obtain ⟨u, hb, hq, m0, m1, hlen⟩ := h
  obtain ⟨r0, hq0, hr0, hr⟩ := hq.pick hb (by decide)
  obtain ⟨a1, c1, rfl, hc1⟩ := hq.form
  have hlt := hb.lt
  obtain ⟨k, hk⟩ : ∃ k, k = min q.length N := ⟨_, rfl⟩
  have hmk := makeZ w N (by omega)
  have hsp := splice_tk N k q hk
  have hone : ∀ v ∈ enc .i16 (q.take k), v.oneCell' = true := enc_one _ _
  have hel : (enc .i16 (q.take k)).length = k := by rw [enc_length, List.length_take]; omega
  have hel2 : (enc .i16 (List.replicate N 0)).length = N := by rw [enc_length, List.length_replicate]
  have hcut := hq.cut k (by omega)
  have hsl := cutAny a1 q.length c1 k hc1 (by omega)
  obtain ⟨V, hV⟩ : ∃ V, V = Value.slice (if c1 - k = 0 then a1 else a1.map (·.add k)) (q.length - k) (c1 - k) := ⟨_, rfl⟩
  rw [← hV] at hcut hsl
  have hdrop : q.drop k = q.drop N := by
    rcases Nat.le_total q.length N with h | h
    · rw [List.drop_eq_nil_of_le (by omega), List.drop_eq_nil_of_le h]
    · rw [show k = N by omega]
  rw [hdrop] at hcut
  have hpos : 0 < (enc .i16 (q.take k)).length → ∃ ad, a1 = some ad ∧ ∀ j v, (enc .i16 (q.take k))[j]? = some v → w.cell? (ad.add j) = some v := fun hp => by
    rw [hel] at hp
    obtain ⟨ad, ha, hn⟩ := reads_news hq.reads (by omega)
    refine ⟨ad, ha, fun j v hv => hn j v ?_⟩
    have hj : j < k := by have := (List.getElem?_eq_some_iff.1 hv).1; omega
    rw [enc_get (by rw [List.length_take]; omega)] at hv
    rw [enc_get (by omega), ← hv, M.getD_take hj]
  generalize hX : enc .i16 (q.take k) = X at *
  have b0 : Blk (w.alloc (.cells (zs16 N) 51)) w.heap.size (enc .i16 (List.replicate N 0)).toArray 51 := Blk.new w _ _
  have bb := hb.alloc (.cells (zs16 N) 51)
  obtain ⟨W, hW⟩ : ∃ W, W = w.alloc (.cells (zs16 N) 51) := ⟨_, rfl⟩
  rw [← hW] at hmk b0 bb
  have hbel : Below w.heap.size w W := by rw [hW]; exact (Below.refl _ _).alloc (Nat.le_refl _) _
  have y0 := bb.cell (o := 0) rfl
  have y1 := bb.cell (o := 1) rfl
  have f1 := bb.free 1
  have hsz : W.heap.size = w.heap.size + 1 := by rw [hW]; simp
  have hn' : X.length = Nat.min q.length N := by rw [hel]; exact hk
  have q1 : (q.length : Int) ≤ 4096 := by omega
  have k0 : k ≤ q.length := by omega
  rw [← hel] at hsl k0
  have HQ : Hid (Que _ _ V _) := hcut
  have HB : Hid (Blk w _ _ _) := hb
  have HBl : Hid (Below _ _ _) := hbel
  have HP : Hid _ := hpos
  have H0 : Hid (Blk W _ _ _) := b0
  have HN : Hid _ := hn'
  have HS : Hid _ := hsp
  have HO : Hid _ := hone
  have Hsz : Hid _ := hsz
  have Hlt : Hid (b < w.heap.size) := hlt
  have Hf : Hid (0 + X.length ≤ (enc .i16 (List.replicate N 0)).length) := by show _ ≤ _; rw [hel2]; omega
  have x1 : (X.length : Int) ≤ q.length := by omega
  have x2 : (q.length : Int) ≤ c1 := by omega
  have Hr0 : Hid _ := hr0
  have Hhr : Hid _ := hr
  have HX : Hid _ := hX
  generalize hE : enc .i16 (List.replicate N 0) = E at *
  clear hcut hb hbel hpos b0 bb hn' hsp hone hsz hlt hel hel2 hk hV hW hX hdrop hq hq0 hr0 hr hE
  have HV : Hid (∃ va vl vc, V = .slice va vl vc) := by
    obtain ⟨va, vc, h, _⟩ := HQ.out.form
    exact ⟨va, _, vc, h⟩
  obtain ⟨va, vl, vc, rfl⟩ := HV.out
  clear HV
  rcases hN with ⟨hn4, rfl⟩ | ⟨hn4, rfl⟩
  · have g0 : ¬ (N : Int) ≤ 0 := by omega
    have g1 : ¬ (4096 : Int) < N := by omega
    go_enter Try.func19, Try.ntmps19
    go_wp2
    go_region_law (refine step_copy_splice rfl (.tmp 20) (.tmp 24) 22 22 rfl 51 Try.underlying22 (by kernel_rfl) _ _ _ _ _ _ rfl rfl w.heap.size 0 E 51 H0.out X HN.out (fun hp => ⟨rfl, by obtain ⟨ad, e, hh⟩ := HP.out hp; exact ⟨ad, e, fun j v hv => (World.cell?_of_block (HBl.out.block _ (World.block_lt_of_cell? w _ (hh j v hv)))).trans (hh j v hv)⟩⟩) Hf.out HO.out w.heap.size w (below_drew HBl.out) (Nat.le_refl _) ?_; intro w2 hg2 hb2; have z1 : w2.cell? ⟨b, 1, none⟩ = some (.slice a1 q.length c1) := (hb2.cell Hlt.out).trans (HB.out.cell rfl); have z2 : w2.frozen? ⟨b, 1, none⟩ = false := (World.frozen?_of_block (hb2.block b Hlt.out)).trans (HB.out.free 1))
    all_goals (
      go_wp2
      go_ret
      have hbb : Blk w2 b _ _ := (hb2.block b Hlt.out).trans HB.out
      have hg := hg2.out
      rw [HS.out] at hg
      exact ⟨rfl, Blk.set_ne hg (by have := Hlt.out; simp; omega) _, ⟨_, by simpa using hbb.set 1 (.slice va vl vc), (HQ.out.below hb2 (Nat.le_refl _)).set_obj hbb (by decide), m0, m1, by simp; omega⟩, But.set (b := b) (a := ⟨b, 1, none⟩) (But.of_below hb2 (Nat.le_refl _)) (.inl rfl) _⟩)
  · have g0 : ¬ n ≤ 0 := by omega
    rw [show ((4096 : Nat) : Int) = 4096 from rfl] at hmk
    go_enter Try.func19, Try.ntmps19
    go_wp2
    go_region_law (refine step_copy_splice rfl (.tmp 20) (.tmp 24) 22 22 rfl 51 Try.underlying22 (by kernel_rfl) _ _ _ _ _ _ rfl rfl w.heap.size 0 E 51 H0.out X HN.out (fun hp => ⟨rfl, by obtain ⟨ad, e, hh⟩ := HP.out hp; exact ⟨ad, e, fun j v hv => (World.cell?_of_block (HBl.out.block _ (World.block_lt_of_cell? w _ (hh j v hv)))).trans (hh j v hv)⟩⟩) Hf.out HO.out w.heap.size w (below_drew HBl.out) (Nat.le_refl _) ?_; intro w2 hg2 hb2; have z1 : w2.cell? ⟨b, 1, none⟩ = some (.slice a1 q.length c1) := (hb2.cell Hlt.out).trans (HB.out.cell rfl); have z2 : w2.frozen? ⟨b, 1, none⟩ = false := (World.frozen?_of_block (hb2.block b Hlt.out)).trans (HB.out.free 1))
    all_goals (
      go_wp2
      go_ret
      have hbb : Blk w2 b _ _ := (hb2.block b Hlt.out).trans HB.out
      have hg := hg2.out
      rw [HS.out] at hg
      exact ⟨rfl, Blk.set_ne hg (by have := Hlt.out; simp; omega) _, ⟨_, by simpa using hbb.set 1 (.slice va vl vc), (HQ.out.below hb2 (Nat.le_refl _)).set_obj hbb (by decide), m0, m1, by simp; omega⟩, But.set (b := b) (a := ⟨b, 1, none⟩) (But.of_below hb2 (Nat.le_refl _)) (.inl rfl) _⟩)

end Pcm
end Go.Proofs.Ytnnljamkomlglaa
