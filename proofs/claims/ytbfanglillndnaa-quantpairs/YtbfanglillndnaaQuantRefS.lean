/-
  The scales of a plane by the document's answer, and the program's with its error; the law of scales. Conditions: as told at each.
-/
import Derived.Test.YtbfanglillndnaaQuantScal
import Derived.Maps.AppendAt
namespace Go.Proofs.Ytbfanglillndnaa
set_option linter.unusedVariables false
open Go.RowKit
namespace M
theorem range_snoc (F : Nat → Int) (k : Nat) {y : Int} (h : F k = y) : (List.range (k + 1)).map F = (List.range k).map F ++ [y] := by
  rw [List.range_succ, List.map_append, ← h]; rfl
end M
namespace Qnt
open Bank (Blk But)
open Poly (cell_keep alloc_size enc enc_get Gat)

theorem Scales_ok (hi : Nat) (v : Value) (n C : Nat) (F : Nat → Nat → Int) (w : World) (h : Vw hi v n C F w) (hF : F32 F) (n1 : 1 ≤ n) (n40 : n ≤ 40) (c1 : 1 ≤ C) (c8 : C ≤ 8) (hh : hi ≤ w.heap.size) :
    Calls Try.prog 16 #[v] w fun e w' => e = .returned (.tuple #[.slice (some ⟨w.heap.size + 1, 0, none⟩) C C, .int .i64 0]) ∧ Below w.heap.size w w' ∧ Tb (w.heap.size + 1) 3 .i64 C (M.scl F n) w' ∧ w'.heap.size = w.heap.size + 2 := by
  have h1 : Calls Try.prog 35 #[v] w fun e w' => e = .returned (.bool true) ∧ w' = w :=
    (isPlane_any hi v n (fun _ => C) w h.hd (not_far n40 c8)).mono fun e w' h => h.yes ⟨n1, c1, c8, fun _ _ => rfl⟩
  have h2 := scalesOf_any hi v n C F w h hF n1 n40 c1 c8 hh
  obtain ⟨b0, o0, cp, rfl⟩ := h.form
  clear h
  go_enter Try.func16, Try.ntmps16
  go_wp2_with (first
    | (go_at_call 35; refine h1.mono ?_; rintro e w' ⟨rfl, rfl⟩)
    | (go_at_call 36; refine h2.mono ?_; rintro e w2 ⟨rfl, hh2⟩; replace hh2 : Hid _ := hh2))
  go_ret2
  exact ⟨rfl, hh2.out⟩

theorem Scales_no (hi : Nat) (v : Value) (n : Nat) (l : Nat → Nat) (w : World) (h : Hd hi v n l w) (hf : ¬ FarL n l) (hp : ¬ PlL n l) :
    Calls Try.prog 16 #[v] w fun e w' => e = .returned (.tuple #[.slice none 0 0, .int .i64 1]) ∧ w' = w := by
  have h1 : Calls Try.prog 35 #[v] w fun e w' => e = .returned (.bool false) ∧ w' = w :=
    (isPlane_any hi v n l w h hf).mono fun e w' h => h.no hp
  obtain ⟨a, cp, rfl⟩ := h.form
  clear h
  go_enter Try.func16, Try.ntmps16
  go_wp2_with (first
    | (go_at_call 35; refine h1.mono ?_; rintro e w' ⟨rfl, rfl⟩))
  go_ret2
  exact ⟨rfl, rfl⟩

/-- an answer that tells G of N ints in new memory -/
def Lst (W : World) (N : Nat) (G : Nat → Int) (v : Value) (w' : World) : Prop := ∃ b off c, v = .slice (some ⟨b, off, none⟩) N c ∧ W.heap.size ≤ b ∧ b < w'.heap.size ∧ (∀ j, j < N → w'.cell? ⟨b, off + j, none⟩ = some (.int .i64 (G j)))

set_option maxHeartbeats 4000000 in
set_option maxRecDepth 100000 in
theorem rScales_any (hi : Nat) (v : Value) (n C : Nat) (F : Nat → Nat → Int) (w : World) (h : Vw hi v n C F w) (hF : F32 F) (n1 : 1 ≤ n) (n40 : n ≤ 40) (c1 : 1 ≤ C) (c8 : C ≤ 8) (hh : hi ≤ w.heap.size) :
    Calls Try.prog 18 #[v] w fun e w' => ∃ u, e = .returned u ∧ Lst w C (M.scl F n) u w' ∧ Below w.heap.size w w' := by
  obtain ⟨i0, hi0, hz0, hz1, hz2⟩ := info_parts infoQI
  obtain ⟨b0, o0, cp, rfl⟩ := h.form
  have hall := h.all hh
  have HA : Hid _ := hall
  have HF : Hid (F32 F) := hF
  obtain ⟨b1, o1, cp1, _, hu0⟩ := hall 0 (by omega)
  have HU : Hid (∀ wx, Below w.heap.size w wx → wx.cell? ⟨b0, o0, none⟩ = some (.slice (some ⟨b1, o1, none⟩) C cp1)) := fun wx hb => by have := (hu0 wx hb).1; rwa [Nat.add_zero] at this
  have n0' : (0 : Int) < n := by omega
  have n40' : (n : Int) ≤ 40 := by omega
  have c1' : (1 : Int) ≤ C := by omega
  have c8' : (C : Int) ≤ 8 := by omega
  clear h hF hall hu0
  go_enter Try.func18, Try.ntmps18
  go_wp2
  go_loopw [3, 4] (fun u i wr => ∃ k : Nat, k ≤ C ∧ i = .int .i64 k ∧ Gat .i64 3 w.heap.size u ((List.range k).map (M.scl F n)) w wr) (fun _ i _ => C - (intOf i).toNat)
  case atStart => exact ⟨0, by omega, rfl, Gat.nil _ _ _⟩
  case round =>
    obtain ⟨k, hk, rfl, hG⟩ := hrel
    have hu0 := HU.out wr hG.2.1
    by_cases hlt : k < C
    · have hlt' : (k : Int) < C := by omega
      have HG : Hid (Gat .i64 3 w.heap.size _ ((List.range k).map (M.scl F n)) w wr) := hG
      clear hG
      go_wp2
      go_loopw [5, 6] (fun m i wx => ∃ q : Nat, q ≤ n ∧ i = .int .i64 q ∧ m = .int .i64 (M.mst (fun i => F i k) q) ∧ wx = wr) (fun _ i _ => n - (intOf i).toNat)
      case atStart => exact ⟨0, by omega, rfl, rfl, rfl⟩
      case round =>
        obtain ⟨q, hq, rfl, rfl, hwx⟩ := hrel
        subst hwx
        by_cases hql : q < n
        · have hql' : (q : Int) < n := by omega
          obtain ⟨b2, o2, cp2, _, hrow⟩ := HA.out q hql
          obtain ⟨hr1, hr2⟩ := hrow wr HG.out.2.1
          have hx := hr2 k hlt
          obtain ⟨x1, x2⟩ := HF.out q k
          have hp := (M.mst_bd (f := fun i => F i k) (fun i => HF.out i k) q).1
          have hm : M.mst (fun i => F i k) (q + 1) = max (max (M.mst (fun i => F i k) q) (F q k)) (-(F q k)) := rfl
          have hcase : (F q k < 0 ∧ M.mst (fun i => F i k) q < -(F q k) ∧ M.mst (fun i => F i k) (q + 1) = -(F q k)) ∨ (F q k < 0 ∧ ¬ M.mst (fun i => F i k) q < -(F q k) ∧ M.mst (fun i => F i k) (q + 1) = M.mst (fun i => F i k) q) ∨ (¬ F q k < 0 ∧ M.mst (fun i => F i k) q < F q k ∧ M.mst (fun i => F i k) (q + 1) = F q k) ∨ (¬ F q k < 0 ∧ ¬ M.mst (fun i => F i k) q < F q k ∧ M.mst (fun i => F i k) (q + 1) = M.mst (fun i => F i k) q) := by
            generalize M.mst (fun i => F i k) (q + 1) = m at *
            generalize M.mst (fun i => F i k) q = p at *
            generalize F q k = x at *
            omega
          clear hm hr2 hrow
          have HE : Hid (∀ m, m = M.mst (fun i => F i k) (q + 1) → m = M.mst (fun i => F i k) (q + 1)) := fun m h => h
          have hne : ∃ m, M.mst (fun i => F i k) (q + 1) = m := ⟨_, rfl⟩
          obtain ⟨m, hne⟩ := hne
          have HN : Hid (M.mst (fun i => F i k) (q + 1) = m) := hne
          rw [hne] at hcase
          clear hne HE
          generalize M.mst (fun i => F i k) q = p at *
          generalize F q k = x at *
          rcases hcase with ⟨h1, h2, h3⟩ | ⟨h1, h2, h3⟩ | ⟨h1, h2, h3⟩ | ⟨h1, h2, h3⟩
          all_goals (
            subst h3
            go_wp2
            go_roundw
            case rel => exact ⟨q + 1, by omega, by go_num, by rw [HN.out], by first | rfl | trivial⟩
            case measure => simp [intOf]; omega)
        · obtain rfl : q = n := by omega
          have hsc := fun w => rScale_any (M.mst (fun i => F i k) q) w
          have HSt : Hid (∀ y, M.scl F q k = y → (List.range (k + 1)).map (M.scl F q) = (List.range k).map (M.scl F q) ++ [y]) := fun y h => M.range_snoc _ k h
          have HE : Hid (M.scl F q k = (M.sc (M.mst (fun i => F i k) q) : Int)) := rfl
          have hlen : ((List.range k).map (M.scl F q)).length ≤ 8 := by simp; omega
          have hown := HG.out.1
          have hsz := HG.out.size
          generalize (List.range k).map (M.scl F q) = Y at *
          generalize (M.sc (M.mst (fun i => F i k) q) : Int) = y at *
          generalize M.mst (fun i => F i k) q = p at *
          go_wp2_with (first
            | (go_at_call 14; refine (hsc _).mono ?_; rintro e w' ⟨rfl, rfl⟩)
            | (at_builtin; refine wpList_append_own _ rfl (.tmp 38) (.tmp 41) 36 rfl w.heap.size 3 i0 (.int .i64 0) 1 8 Try.underlying36 hi0 hz0 hz1 hz2 rfl (by decide) _ _ _ rfl (hown.alloc _) ⟨_, 0, none⟩ 1 1 [.int .i64 y] rfl rfl (cell_one_new _ _ _) ?c2 ?c3 ?c4 ?c5 ?_))
          case c2 => intro u hu; simp at hu; subst hu; rfl
          case c3 => unfold maxLen; omega
          case c4 => omega
          case c5 => simp; omega
          · intro v' w4 hown' hgrow _
            have R : Hid _ := Gat.step HG.out hown' hgrow
            have HSt3 : Hid _ := HSt.out _ HE.out
            clear hown' hgrow hown HSt
            go_wp2
            go_roundw
            case rel => exact ⟨k + 1, by omega, by go_num, by rw [HSt3.out]; exact R.out⟩
            case measure => simp [intOf]; omega
    · obtain rfl : k = C := by omega
      have hr := hG.reads (fun z hz => by
        obtain ⟨j, _, rfl⟩ := List.mem_map.1 hz
        have := M.scl_bd F n j
        exact Poly.wf64 (by omega) (by omega))
      obtain ⟨a, c, rfl⟩ := hr.form
      have hpos : 0 < ((List.range k).map (M.scl F n)).length := by simp; omega
      obtain ⟨b, off, rfl, k0, k1, hx⟩ := hr.cell hpos
      have hL : ((List.range k).map (M.scl F n)).length = k := by simp
      rw [hL] at hx ⊢
      have HX2 : Hid (∀ j, j < k → wr.cell? ⟨b, off + j, none⟩ = some (.int .i64 (M.scl F n j))) := fun j hj => by rw [hx j hj]; simp [List.getD, hj]
      have HBe : Hid (Below w.heap.size w wr) := hG.2.1
      clear hx hr hG hL hpos
      go_wp2
      go_ret
      exact ⟨_, rfl, ⟨b, off, c, rfl, by omega, k1, HX2.out⟩, HBe.out⟩

end Qnt
end Go.Proofs.Ytbfanglillndnaa
