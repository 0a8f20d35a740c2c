/-
  The walk of the law of no coder and no finder, and of a finder of no bits. Conditions: the symbols stand in memory.
-/
import Derived.Test.YtknolfpjhfpfaaaArithRefG
namespace Go.Proofs.Ytknolfpjhfpfaaa
set_option linter.unusedVariables false
open Go.RowKit
namespace Ari
open Bits (Blk But add_at wrap_id bytesL)
open Num (Ints)

theorem FndAt.but {w w' : World} {f g : Nat} {e : Value} {fr : Nat} {x : M.Fnd} (h : FndAt w f e fr x) (k : But g g w w') (hne : f ≠ g) : FndAt w' f e fr x := k.blk h hne hne
theorem RFndAt.but {w w' : World} {f g : Nat} {s : Value} {fr : Nat} {x : M.Fnd} (h : RFndAt w f s fr x) (k : But g g w w') (hne : f ≠ g) : RFndAt w' f s fr x := k.blk h hne hne
theorem RFndAt.below {w w' : World} {f N : Nat} {s : Value} {fr : Nat} {x : M.Fnd} (h : RFndAt w f s fr x) (k : Below N w w') (hf : f < N) : RFndAt w' f s fr x := Bits.Below.blk k h hf
theorem FndAt.below {w w' : World} {f N : Nat} {e : Value} {fr : Nat} {x : M.Fnd} (h : FndAt w f e fr x) (k : Below N w w') (hf : f < N) : FndAt w' f e fr x := Bits.Below.blk k h hf

set_option maxRecDepth 100000 in
set_option maxHeartbeats 4000000 in
theorem ArithNil_walk (v : Value) (zs : List One) (w : World) (hz : Ones w v zs) :
    Calls Try.prog 7 #[v] w fun e w' => e = .returned (.bool true) ∧ Below w.heap.size w w' := by
  have hFar := fun w h => far_any v zs w h
  obtain ⟨a, c, rfl⟩ := hz.form
  have hen := fun w => EyeAt.below (N := 0) (W := 0) (w := w) (w' := w) (B := fun _ => false) (.inl ⟨rfl, fun _ => rfl⟩) (Below.refl _ _) (Nat.le_refl _)
  have hN1 := fun w => NewFinder_any (.pointer none) 0 0 (fun _ => false) w (hen w) (Nat.zero_le _)
  have hN2 := fun w => rNewFinder_any (.slice none 0 0) 0 (fun _ => false) w (RBits.nil w)
  rw [show frOf 0 = 0 from rfl] at hN1
  rw [show rfrOf 0 = 0 from rfl] at hN2
  have hfr : from_ (fun _ => false) 0 = fun _ => false := rfl
  rw [hfr] at hN1 hN2
  have hg0 := M.Fnd.Good.new (fun _ => false)
  have hr0 : (M.Fnd.new (fun _ => false)).r = 16 := rfl
  go_enter Try.func7, Try.ntmps7
  go_wp2_with (first
    | (go_at_call 8; refine (alive_any _).mono ?_; rintro e wa ⟨rfl, bela⟩)
    | (go_at_call 22; refine (hN1 _).mono ?_; clear hN1; rintro e w1 ⟨f, rfl, lf, bel1, F1⟩)
    | (go_at_call 23; refine (hN2 _).mono ?_; clear hN2; rintro e w2 ⟨g, rfl, lg, bel2, G2⟩))
  have sA := bela.size
  have s1 := bel1.size
  have s2 := bel2.size
  have uf : f < w1.heap.size := Blk.lt F1
  have ug : g < w2.heap.size := Blk.lt G2
  have F2 := F1.below bel2 uf
  have hfg : f ≠ g := by omega
  have bel02 : Below w.heap.size w w2 := bela.trans ((Bits.Below.less bel1 sA).trans (Bits.Below.less bel2 (by omega)))
  go_loopw [7] (fun i wr => ∃ (j : Nat) (x : M.Fnd), j ≤ zs.length ∧ i = .int .i64 j ∧ (Near zs ∨ j = 0) ∧ x.Good ∧ x.r ≤ 16 + 14 * j ∧ But f g w2 wr ∧ FndAt wr f (.pointer none) 0 x ∧ RFndAt wr g (.slice none 0 0) 0 x) (fun i _ => zs.length - (intOf i).toNat)
  case atStart => exact ⟨0, _, by omega, rfl, .inr rfl, hg0, by omega, But.refl _ _ _, F2, G2⟩
  case round =>
    obtain ⟨j, x, hj, rfl, hnr, hx, hr, btr, hF, hG⟩ := hrel
    have belr : Below w.heap.size w wr := bel02.trans (btr.below (by omega) (by omega) (by omega))
    have hzr := hz.below belr (Nat.le_refl _)
    by_cases hlt : j < zs.length
    · have i1 : (j : Int) < zs.length := by omega
      by_cases hn : Near zs
      · rw [show (!nearB zs) = false by rw [nearB_pos hn]; rfl] at hFar
        obtain ⟨⟨t, s⟩, hzj⟩ : ∃ z, zs[j]? = some z := ⟨_, List.getElem?_eq_getElem hlt⟩
        have htl : t.length ≤ 100 := hn.2 (t, s) (List.mem_of_getElem? hzj)
        have hlen := hn.1
        obtain ⟨b0, off, rfl, hb0, a', c', k0, k1, hT⟩ := hz.cell hzj
        have r0 : wr.cell? ⟨b0, off + j * 2, none⟩ = some (.slice a' t.length c') := (belr.cell hb0).trans k0
        have r1 : wr.cell? ⟨b0, off + j * 2 + 1, none⟩ = some (.int .i64 s) := (belr.cell hb0).trans k1
        have hTr := hT.below belr (Nat.le_refl _)
        have hA := Get_any f 0 0 (.pointer none) (.slice a' t.length c') x t (fun _ => false) wr hF (hen wr) (Nat.zero_le _) hx (by omega) (by omega) hTr (by omega)
        rw [hfr] at hA
        have hAn := Get_nil (.slice a' t.length c') wr
        have hB := fun w' (h : RFndAt w' g (.slice none 0 0) 0 x) (b : Below w.heap.size w w') => rGet_any g 0 (.slice none 0 0) (.slice a' t.length c') x t (fun _ => false) w' h (fun w'' _ => RBits.nil w'') hx (by omega) (by omega) (hT.below b (Nat.le_refl _)) (by omega)
        rw [hfr] at hB
        obtain ⟨hx2, _, hr2⟩ := getX_good hx t (fun _ => false)
        have fst : ∀ w3, But f f wr w3 → RFndAt w3 g (.slice none 0 0) 0 x ∧ Below w.heap.size w w3 ∧ w3.cell? ⟨b0, off + j * 2, none⟩ = some (.slice a' t.length c') := fun w3 b3 => by
          have bl : Below w.heap.size wr w3 := b3.below (by omega) (by omega) belr.size
          exact ⟨hG.but b3 (Ne.symm hfg), belr.trans bl, (bl.cell hb0).trans r0⟩
        have snd : ∀ w3 w4, Below w.heap.size w w3 → But g g w3 w4 → w4.cell? ⟨b0, off + j * 2, none⟩ = some (.slice a' t.length c') ∧ w4.cell? ⟨b0, off + j * 2 + 1, none⟩ = some (.int .i64 s) := fun w3 w4 b3 b4 => by
          have bl : Below w.heap.size w w4 := b3.trans (b4.below (by omega) (by omega) b3.size)
          exact ⟨(bl.cell hb0).trans k0, (bl.cell hb0).trans k1⟩
        have hPn := fun w => Put_nil (.slice a' t.length c') s w
        obtain ⟨S, hS⟩ : ∃ S, S = getS x t := ⟨_, rfl⟩
        obtain ⟨E, hE⟩ : ∃ E, E = getE t := ⟨_, rfl⟩
        obtain ⟨y, hy⟩ : ∃ y, y = getX (fun _ => false) x t := ⟨_, rfl⟩
        rw [← hS, ← hE, ← hy] at hA hB
        rw [← hy] at hx2 hr2
        clear hS hE hy k0 k1
        have i2 : (0 : Int) ≤ j := by omega
        go_wp2_with (first
          | (go_at_call 9; refine (hFar _ hzr).mono ?_; clear hFar; rintro e w' ⟨rfl, hw⟩; rw [hw]; clear hw w')
          | (go_at_call 25; refine hAn.mono ?_; clear hAn; rintro e w' ⟨rfl, hw⟩; rw [hw]; clear hw w')
          | (go_at_call 25; refine hA.mono ?_; clear hA; rintro e w3 ⟨rfl, b3, F3⟩; obtain ⟨G3, bel3, z3⟩ := fst w3 b3)
          | (go_at_call 26; refine (hB w3 G3 bel3).mono ?_; clear hB; rintro e w4 ⟨rfl, b4, G4⟩; obtain ⟨z4, z5⟩ := snd w3 w4 bel3 b4))
        go_quiet (first | (go_at_call 14; exact Calls.quiet_of_same (hPn _)))
        go_wp2
        go_roundw
        case rel => exact ⟨j + 1, y, by omega, by go_num, .inl hn, hx2, by omega, ((btr.trans (b3.mono (.inl rfl) (.inl rfl))).trans (b4.mono (.inr rfl) (.inr rfl))).drewN _, F3.but (b4.drewN _) hfg, G4⟩
        case measure => simp [intOf]; omega
      · rw [show (!nearB zs) = true by rw [nearB_neg hn]; rfl] at hFar
        go_wp2_with (first
          | (go_at_call 9; refine (hFar _ hzr).mono ?_; clear hFar; rintro e w' ⟨rfl, hw⟩; rw [hw]; clear hw w')
          | (go_at_call 16; refine (End_nil _).mono ?_; rintro e w' ⟨rfl, hw⟩; rw [hw]; clear hw w')
          | (go_at_call 18; refine (Len_nil _).mono ?_; rintro e w' ⟨rfl, hw⟩; rw [hw]; clear hw w')
          | (go_at_call 19; refine (Bits_nil _).mono ?_; rintro e w' ⟨rfl, hw⟩; rw [hw]; clear hw w')
          | (go_at_call 27; refine (Read_nil _).mono ?_; rintro e w' ⟨rfl, hw⟩; rw [hw]; clear hw w'))
        go_ret
        exact ⟨rfl, belr⟩
    · have i1 : ¬ (j : Int) < zs.length := by omega
      have i2 : decide ((j : Int) < zs.length) = false := decide_eq_false i1
      go_wp2_with (first
        | (go_at_call 16; refine (End_nil _).mono ?_; rintro e w' ⟨rfl, hw⟩; rw [hw]; clear hw w')
        | (go_at_call 18; refine (Len_nil _).mono ?_; rintro e w' ⟨rfl, hw⟩; rw [hw]; clear hw w')
        | (go_at_call 19; refine (Bits_nil _).mono ?_; rintro e w' ⟨rfl, hw⟩; rw [hw]; clear hw w')
        | (go_at_call 27; refine (Read_nil _).mono ?_; rintro e w' ⟨rfl, hw⟩; rw [hw]; clear hw w'))
      go_ret
      exact ⟨rfl, belr⟩

end Ari
end Go.Proofs.Ytknolfpjhfpfaaa
