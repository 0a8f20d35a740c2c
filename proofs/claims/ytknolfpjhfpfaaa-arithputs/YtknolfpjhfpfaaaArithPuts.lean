/-
  The walk of the law of the bits of any symbols of any tables. Conditions: the symbols stand in memory.
-/
import Derived.Test.YtknolfpjhfpfaaaArithRefB
import Derived.Deep.CutRange
import Derived.Deep.DeepCutAuto
import Derived.Deep.RegionWith
namespace Go.Proofs.Ytknolfpjhfpfaaa
set_option linter.unusedVariables false
open Go.RowKit
namespace Ari
open Bits (Blk But add_at wrap_id bytesL)
open Num (Ints)

theorem NewCoder_at (w : World) : Calls Try.prog 10 #[] w fun e w' => ∃ b, e = .returned (.pointer (some ⟨b, 0, none⟩)) ∧ w.heap.size ≤ b ∧ Below w.heap.size w w' ∧ Blk w' b #[.int .i64 0, .int .i64 65535, .int .i64 0, .slice none 0 0, .int .i64 0, .bool false] 70 := by
  go_enter Try.func10, Try.ntmps10
  go_wp2_with (go_at_call 28; refine (widest_any _).mono ?_; rintro e w1 ⟨rfl, bel⟩)
  go_ret
  exact ⟨_, rfl, bel.size, bel.alloc bel.size _, Blk.new _ _ _⟩
theorem end_good {c : M.Cod} (h : c.Good) : c.end_.Good := ⟨⟨h.low, h.le, h.high⟩, h.done⟩
theorem endC_good {c : M.Cod} {en : Bool} (h : c.Good) : (endC c en).Good ∧ (endC c en).D ≤ c.D + 2 := by
  unfold endC
  split
  · exact ⟨h, by omega⟩
  · exact ⟨end_good h, by rw [end_D]; omega⟩
theorem rEnd_at (m N : Nat) (c : M.Cod) (en : Bool) (w : World) (h : RCodAt w m N c en) (hD : c.D ≤ 39000) :
    Calls Try.prog 17 #[.pointer (some ⟨m, 0, none⟩)] w fun e w' => e = .returned (.int .i64 (endE en)) ∧ Kept m 3 N w w' ∧ RCodAt w' m N (endC c en) true := by
  refine (rEnd_any m N c.L (c.H - c.L + 1) c.o c.l en w h (by unfold M.Cod.D at hD; omega)).mono fun e w' ⟨he, hk, hr⟩ => ⟨he, hk, ?_⟩
  cases en with
  | true => exact hr
  | false => exact hr
/-- both coders stand alike -/
structure Both (w : World) (b m : Nat) (x : M.Cod) (en : Bool) : Prop where
  cod : CodAt w b (m + 1) x en
  ref : RCodAt w m (m + 1) x en
theorem Both.below {w w' : World} {b m N : Nat} {x : M.Cod} {en : Bool} (h : Both w b m x en) (k : Below N w w') (hN : w.heap.size ≤ N) : Both w' b m x en := ⟨h.cod.below k hN, RCdr.below h.ref k hN⟩
theorem Both.drew {w : World} {b m : Nat} {x : M.Cod} {en : Bool} (h : Both w b m x en) : Both w.drew b m x en := ⟨h.cod, h.ref⟩
theorem ref_kept {w w' : World} {b m : Nat} {x : M.Cod} {en : Bool} (h : RCodAt w m (m + 1) x en) (k : Kept b 5 (m + 1) w w') (hb : b < m) : RCodAt w' m (m + 1) x en := RCdr.kept h k (by omega) (by omega) (by decide) (by decide)
theorem cod_kept {w w' : World} {b m : Nat} {x : M.Cod} {en : Bool} (h : CodAt w b (m + 1) x en) (k : Kept m 3 (m + 1) w w') (hb : b < m) : CodAt w' b (m + 1) x en := CodAt.kept h k (by omega) (by omega) (by decide) (by decide)
theorem ints_news {w : World} {a : Option Addr} {n c : Nat} {t : List Int} (h : Ints w (.slice a n c) t) : n = t.length ∧ (a = none → n = 0 ∧ c = 0) ∧ ∀ ad, a = some ad → ∀ j u, (t.map fun x : Int => Value.int .i64 x)[j]? = some u → ad.block < w.heap.size ∧ w.cell? (ad.add j) = some u := by
  obtain ⟨a', c', he, hl, hv, hnil, hx⟩ := h
  cases he
  refine ⟨rfl, fun h => ⟨by have := hnil h; omega, hnil h⟩, fun ad had j u hj => ?_⟩
  obtain ⟨x, hx', rfl⟩ : ∃ x, t[j]? = some x ∧ Value.int .i64 x = u := by simpa using hj
  rcases hx with h0 | ⟨b, off, ha, hb, hcell⟩
  · rw [h0] at hx'; simp at hx'
  · rw [ha] at had
    cases had
    exact ⟨hb, by rw [Go.WideShapes.add_plain]; exact hcell j x hx'⟩

set_option maxRecDepth 100000 in
set_option maxHeartbeats 8000000 in
theorem puts_main (v : Value) (zs : List One) (n : Int) (w : World) (hz : Ones w v zs) (hn : Near zs) (n0 : 0 ≤ n) (n1 : n ≤ 255) :
    Calls Try.prog 3 #[v, .int .u8 n] w fun e w' => e = .returned (.bool true) ∧ Below w.heap.size w w' := by
  obtain ⟨i0, hi0, hz0, hz1, hz2⟩ := info_parts Num.info64
  have hFar := fun w h => far_any v zs w h
  rw [show (!nearB zs) = false by rw [nearB_pos hn]; rfl] at hFar
  obtain ⟨a, c, rfl⟩ := hz.form
  have hlen := hn.1
  have hnear := hn.2
  have v1 : IntKind.i64.wrap n = n := wrap_id _ (by omega) (by omega)
  obtain ⟨z, hzz, z0, z1⟩ : ∃ z : Int, n % 64 = z ∧ 0 ≤ z ∧ z ≤ 63 := ⟨_, rfl, by omega, by omega⟩
  go_enter Try.func3, Try.ntmps3
  go_wp2_with (first
    | (go_at_call 8; refine (alive_any _).mono ?_; rintro e wa ⟨rfl, bela⟩; have hzA := hz.below bela (Nat.le_refl _))
    | (go_at_call 9; refine (hFar _ hzA).mono ?_; clear hFar; rintro e w' ⟨rfl, hw⟩; rw [hw]; clear hw w')
    | (go_at_call 10; refine (NewCoder_at _).mono ?_; rintro e w1 ⟨b, rfl, lb, bel1, A1⟩)
    | (go_at_call 11; refine (rNewCoder_any _).mono ?_; rintro e w2 ⟨m, rfl, lm, bel2, R2⟩))
  have sA := bela.size
  have s1 := bel1.size
  have s2 := bel2.size
  have ub := A1.lt
  have um := RCdr.lt R2
  have hbm : b < m := by omega
  have B2 : Both w2 b m M.Cod.new false := ⟨⟨_, Bits.Below.blk bel2 A1 (by omega), World.ownsRow_nil _ _ _ _, by omega, by omega⟩, R2⟩
  have bel02 : Below w.heap.size w w2 := bela.trans ((Bits.Below.less bel1 sA).trans (Bits.Below.less bel2 (by omega)))
  have hwm : w.heap.size ≤ b := by omega
  clear A1 R2
  go_loopw [7] (fun i wr => ∃ (j : Nat) (x : M.Cod) (en : Bool), j ≤ zs.length ∧ i = .int .i64 j ∧ x.Good ∧ x.D ≤ 16 * j ∧ Both wr b m x en ∧ Below w.heap.size w wr) (fun i _ => zs.length - (intOf i).toNat)
  case atStart => exact ⟨0, _, false, by omega, rfl, M.Cod.Good.new, Nat.le_refl _, B2, bel02⟩
  case round =>
    clear B2 bel02
    obtain ⟨j, x, en, hj, rfl, hx, hD, hB, belr⟩ := hrel
    have sr := belr.size
    have lm' : m < wr.heap.size := RCdr.lt hB.ref
    by_cases hlt : j < zs.length
    · obtain ⟨⟨t, s⟩, hzj⟩ : ∃ z, zs[j]? = some z := ⟨_, List.getElem?_eq_getElem hlt⟩
      have htl : t.length ≤ 100 := hnear (t, s) (List.mem_of_getElem? hzj)
      obtain ⟨b0, off, rfl, hb0, a', c', k0, k1, hT⟩ := hz.cell hzj
      have r0 : wr.cell? ⟨b0, off + j * 2, none⟩ = some (.slice a' t.length c') := (belr.cell hb0).trans k0
      have r0' : (wr.alloc (.cells #[] 3)).cell? ⟨b0, off + j * 2, none⟩ = some (.slice a' t.length c') := (((Below.refl wr.heap.size wr).alloc (Nat.le_refl _) (.cells #[] 3)).cell (p := ⟨b0, off + j * 2, none⟩) (show b0 < wr.heap.size by omega)).trans r0
      have hTr := hT.below belr (Nat.le_refl _)
      have hfit := hT.fits
      obtain ⟨_, hnone, hsome⟩ := ints_news hTr
      have i2 : (0 : Int) ≤ j := by omega
      have i3 : (j : Int) < zs.length := by omega
      have hemp : (wr.alloc (.cells #[] 3)).ownsRow wr.heap.size 3 1 (.slice (some ⟨wr.heap.size, 0, none⟩) 0 0) 0 [] := World.ownsRow_made wr #[] 0 (Nat.le_refl _) (by unfold maxLen; omega) rfl
      have hcs : ∀ ad, a' = some ad → ∀ j u, (t.map fun x : Int => Value.int .i64 x)[j]? = some u → (wr.alloc (.cells #[] 3)).cell? (ad.add j) = some u := fun ad had j u hj => by
        obtain ⟨q1, q2⟩ := hsome ad had j u hj
        exact (((Below.refl wr.heap.size wr).alloc (Nat.le_refl _) (.cells #[] 3)).cell (p := ad.add j) (by unfold Addr.add; split <;> exact q1)).trans q2
      have one : ∀ u ∈ (t.map fun x : Int => Value.int .i64 x), u.oneCell' = true := fun u hu => by
        obtain ⟨x, _, rfl⟩ := List.mem_map.1 hu; rfl
      go_upto_region 10 with (at_builtin; refine wpList_append_opt _ rfl (.tmp 21) (.tmp 26) 29 rfl wr.heap.size 3 i0 (.int .i64 0) 1 8 Try.underlying29 hi0 hz0 hz1 hz2 rfl (by decide) _ 0 _ rfl hemp a' t.length c' (t.map fun x : Int => Value.int .i64 x) rfl (by simp) hnone hcs one (by unfold maxLen; omega) (by omega) (by simp) ?_; intro v8 w8 own8 gr8)
      rw [Nat.zero_add, List.nil_append] at own8
      obtain ⟨va, vc, rfl⟩ := own_form own8
      have bel8 : Below wr.heap.size wr w8 := ((Below.refl wr.heap.size wr).alloc (Nat.le_refl _) (.cells #[] 3)).grown gr8 (by simp) (fun k hk => (hemp.lt k hk).1)
      have B8 := hB.below bel8 (Nat.le_refl _)
      have bel08 : Below w.heap.size w w8 := belr.trans (Bits.Below.less bel8 sr)
      have s8 := bel8.size
      have T8 : Ints w8 (.slice va t.length vc) t := Num.ints_own own8 hfit
      have r1 : w8.cell? ⟨b0, off + j * 2 + 1, none⟩ = some (.int .i64 s) := (bel08.cell hb0).trans k1
      have hCk := fun w h => Check_any (.slice va t.length vc) t w h (by omega)
      have hTo := fun w h => Total_any (.slice va t.length vc) t w h (by omega)
      have hP := fun w h h' => Put_any b (m + 1) x en (.slice va t.length vc) t s w h hx (by omega) h' (by omega)
      have hQ := fun w h h' => rPut_any m (m + 1) x en (.slice va t.length vc) t s w h hx (by omega) h' (by omega)
      obtain ⟨hx2, hD2⟩ := putC_good (en := en) (t := t) (s := s) hx
      obtain ⟨y, hy⟩ : ∃ y, y = putC x en t s := ⟨_, rfl⟩
      obtain ⟨E, hE⟩ : ∃ E, E = putE en t s := ⟨_, rfl⟩
      rw [← hy, ← hE] at hP hQ
      rw [← hy] at hx2 hD2
      clear hy hE hemp hcs one hnone hsome hTr r0 r0' k0 hB gr8
      go_cut [53] (fun q wx => q = .bool false ∧ Both wx b m y en ∧ Below w.heap.size w wx)
      case first =>
        have nxt : ∀ w9, Kept b 5 (m + 1) w8.drew w9 → RCodAt w9 m (m + 1) x en ∧ Ints w9 (.slice va t.length vc) t ∧ w9.cell? ⟨b0, off + j * 2 + 1, none⟩ = some (.int .i64 s) ∧ Below w.heap.size w w9 := fun w9 K => by
          have K' := Kept.of_drew K
          have bl : Below w.heap.size w8 w9 := K'.below (by omega) (by omega) bel08.size
          exact ⟨ref_kept B8.ref K' hbm, Num.ints_own (K'.owns own8 (by omega) (by decide)) hfit, (bl.cell hb0).trans r1, bel08.trans bl⟩
        have lst : ∀ w9 w10, Below w.heap.size w w9 → CodAt w9 b (m + 1) y en → Kept m 3 (m + 1) w9 w10 → CodAt w10 b (m + 1) y en ∧ w10.cell? ⟨b0, off + j * 2 + 1, none⟩ = some (.int .i64 s) ∧ Below w.heap.size w w10 := fun w9 w10 bl C K => by
          have bl' : Below w.heap.size w9 w10 := K.below (by omega) (by omega) bl.size
          exact ⟨cod_kept C K hbm, ((bl.trans bl').cell hb0).trans k1, bl.trans bl'⟩
        by_cases ht : M.Tab t
        · rw [show errT t = 0 from if_pos ht] at hCk
          rw [show totT t = t.sum from if_pos ht] at hTo
          obtain ⟨_, f1, f2, f3⟩ := ht.flo_le (s := 0) (by omega)
          have t2 := ht.1
          obtain ⟨S, hS⟩ : ∃ S, S = t.sum := ⟨_, rfl⟩
          rw [← hS] at hTo f1 f2 f3
          have S0 : 0 < S := by omega
          clear hS f1 f2 f3
          go_region_held3 (fun w' => w'.cell? ⟨b0, off + j * 2 + 1, none⟩ = some (.int .i64 s))
            (first | exact r1 | exact r2 | exact r3)
            (first
              | (go_at_call 12; refine (hCk _ (by exact T8)).mono ?_; clear hCk; rintro e w' ⟨rfl, hw⟩; rw [hw]; clear hw w')
              | (go_at_call 13; refine (hTo _ (by exact T8)).mono ?_; clear hTo; rintro e w' ⟨rfl, hw⟩; rw [hw]; clear hw w')
              | (go_at_call 14; refine (hP _ (by exact B8.cod) (by exact T8)).mono ?_; clear hP; rintro e w9 ⟨rfl, K9, C9⟩; obtain ⟨R9, T9, r2, bel9⟩ := nxt w9 K9)
              | (go_at_call 15; refine (hQ _ R9 T9).mono ?_; clear hQ; rintro e w10 ⟨rfl, K10, R10⟩; obtain ⟨C10, r3, bel10⟩ := lst w9 w10 bel9 C9 K10))
          go_wp2
          go_meet
          exact ⟨rfl, ⟨C10, R10⟩, bel10⟩
        · rw [show errT t = 1 from if_neg ht] at hCk
          rw [show totT t = 0 from if_neg ht] at hTo
          go_region_held3 (fun w' => w'.cell? ⟨b0, off + j * 2 + 1, none⟩ = some (.int .i64 s))
            (first | exact r1 | exact r2 | exact r3)
            (first
              | (go_at_call 12; refine (hCk _ (by exact T8)).mono ?_; clear hCk; rintro e w' ⟨rfl, hw⟩; rw [hw]; clear hw w')
              | (go_at_call 13; refine (hTo _ (by exact T8)).mono ?_; clear hTo; rintro e w' ⟨rfl, hw⟩; rw [hw]; clear hw w')
              | (go_at_call 14; refine (hP _ (by exact B8.cod) (by exact T8)).mono ?_; clear hP; rintro e w9 ⟨rfl, K9, C9⟩; obtain ⟨R9, T9, r2, bel9⟩ := nxt w9 K9)
              | (go_at_call 15; refine (hQ _ R9 T9).mono ?_; clear hQ; rintro e w10 ⟨rfl, K10, R10⟩; obtain ⟨C10, r3, bel10⟩ := lst w9 w10 bel9 C9 K10))
          go_wp2
          go_meet
          exact ⟨rfl, ⟨C10, R10⟩, bel10⟩
      case rest =>
        obtain ⟨rfl, Bc, belc⟩ := hcut
        clear hCk hTo hP hQ T8 own8 r1 B8 bel08 bel8 s8 hzj hT
        have hE1 := fun w h => End_any b (m + 1) y en w h (by omega)
        have hE2 := fun w h => rEnd_at m (m + 1) y en w h (by omega)
        obtain ⟨ge, De⟩ := endC_good (en := en) hx2
        go_upto_region 12 with fail
        go_cut [65] (fun q wx => q = .bool false ∧ ∃ (y' : M.Cod) (en' : Bool), y'.Good ∧ y'.D ≤ 16 * (j + 1) ∧ Both wx b m y' en' ∧ Below w.heap.size w wx)
        case first =>
          obtain ⟨E2, hE'⟩ : ∃ E2, E2 = endE en := ⟨_, rfl⟩
          rw [← hE'] at hE1 hE2
          clear hE'
          by_cases hjz : (j : Int) = z
          · subst hjz
            go_wp2_with (first
              | (go_at_call 16; refine (hE1 _ Bc.cod).mono ?_; clear hE1; rintro e w9 ⟨rfl, K9, C9⟩; have R9 := ref_kept Bc.ref K9 hbm)
              | (go_at_call 17; refine (hE2 _ R9).mono ?_; clear hE2; rintro e w10 ⟨rfl, K10, R10⟩; have C10 := cod_kept C9 K10 hbm))
            go_meet
            have bl1 := K9.below (W := w.heap.size) (by omega) (by omega) belc.size
            have bl2 := K10.below (W := w.heap.size) (by omega) (by omega) (by have := bl1.size; have := belc.size; omega)
            exact ⟨rfl, endC y en, true, ge, by omega, ⟨C10, R10⟩, (belc.trans bl1).trans bl2⟩
          · go_wp2
            go_meet
            exact ⟨rfl, y, en, hx2, by omega, Bc, belc⟩
        case rest =>
          obtain ⟨rfl, y', en', gy, Dy, Bd, beld⟩ := hcut
          clear hE1 hE2 ge De
          have hll : y'.l.length ≤ 4000 := by unfold M.Cod.D at Dy; omega
          have hLn := fun w h => Len_any b (m + 1) y' en' w h
          have hBi := fun w h => Bits_any b (m + 1) y' en' w h (by omega)
          have hBy := fun w h => rBytes_any m (m + 1) y'.L (y'.H - y'.L + 1) y'.o y'.l en' w h hll
          have hst : ∀ a' cap' N w', w'.ownsRow N 5 1 (.slice a' (bytL y'.l).length cap') (bytL y'.l).length ((bytL y'.l).map fun x : Nat => Value.int .u8 x) → (convert 41 9 (.slice a' (bytL y'.l).length cap')).run Try.prog w' = .ok (.string (Byt.str (bytL y'.l))) w' := fun a' cap' N w' ho => Byt.run_str (Byt.given_own (base := N) ho (bytL_lt y'.l))
          obtain ⟨_, _, _, _, ⟨a4, c4, r4⟩, _⟩ := RCdr.cells Bd.ref
          have sd := beld.size
          obtain ⟨LL, hLL⟩ : ∃ LL, LL = y'.l.length := ⟨_, rfl⟩
          obtain ⟨MM, hMM⟩ : ∃ MM, MM = (bytL y'.l).length := ⟨_, rfl⟩
          obtain ⟨ST, hST⟩ : ∃ ST, ST = Byt.str (bytL y'.l) := ⟨_, rfl⟩
          rw [← hLL] at hLn r4 hll
          rw [← hMM] at hBi hst
          rw [← hST] at hBy hst
          clear hLL hMM hST
          go_upto_region 14 with fail
          go_cut [81] (fun q wx => q = .bool false ∧ Both wx b m y' en' ∧ Below w.heap.size w wx)
          case first =>
            have nx1 : ∀ w11, Below wc.drew.heap.size wc.drew w11 → Both w11 b m y' en' ∧ Below w.heap.size w w11 := fun w11 bl => by
              have bl' : Below wc.heap.size wc w11 := ⟨bl.os, bl.tape, bl.output, bl.size, bl.block⟩
              exact ⟨Bd.below bl' (Nat.le_refl _), beld.trans (Bits.Below.less bl' sd)⟩
            go_region_with (first
              | (go_at_call 18; refine (hLn _ (by exact Bd.cod)).mono ?_; clear hLn; rintro e w' ⟨rfl, hw⟩; rw [hw]; clear hw w')
              | (go_at_call 19; refine (hBi _ (by exact Bd.cod)).mono ?_; clear hBi; rintro e w11 ⟨a11, c11, rfl, own11, bel11⟩; have hcv := hst _ _ _ _ own11; obtain ⟨B11, blw11⟩ := nx1 w11 bel11)
              | (go_at_call 20; refine (hBy _ (by exact B11.ref)).mono ?_; clear hBy; rintro e w12 ⟨rfl, bel12⟩; have hcv2 := hst _ _ _ _ (Byt.owns_below own11 bel12 (Nat.le_refl _)); have B12 := B11.below bel12 (Nat.le_refl _); have blw12 : Below w.heap.size w w12 := blw11.trans (Bits.Below.less bel12 blw11.size)))
            all_goals (
              go_wp2
              go_meet
              exact ⟨rfl, B12, blw12⟩)
          case rest =>
            obtain ⟨rfl, Be, bele⟩ := hcut
            go_wp2
            go_roundw
            case rel => exact ⟨j + 1, y', en', by omega, by go_num, gy, Dy, Be, bele⟩
            case measure => simp [intOf]; omega
    · obtain rfl : j = zs.length := by omega
      have hll : x.l.length + 2 ≤ 4000 := by unfold M.Cod.D at hD; omega
      have hE1 := fun w h => End_any b (m + 1) x en w h (by omega)
      have hE2 := fun w h => rEnd_at m (m + 1) x en w h (by omega)
      obtain ⟨ge, De⟩ := endC_good (en := en) hx
      obtain ⟨y', hy'⟩ : ∃ y', y' = endC x en := ⟨_, rfl⟩
      obtain ⟨E2, hE'⟩ : ∃ E2, E2 = endE en := ⟨_, rfl⟩
      rw [← hE', ← hy'] at hE1 hE2
      rw [← hy'] at De ge
      clear hE' hy'
      have hll' : y'.l.length ≤ 4000 := by unfold M.Cod.D at De hD; omega
      have hLn := fun w h => Len_any b (m + 1) y' true w h
      have hBi := fun w h => Bits_any b (m + 1) y' true w h (by omega)
      have hBy := fun w h => rBytes_any m (m + 1) y'.L (y'.H - y'.L + 1) y'.o y'.l true w h hll'
      have hst : ∀ a' cap' N w', w'.ownsRow N 5 1 (.slice a' (bytL y'.l).length cap') (bytL y'.l).length ((bytL y'.l).map fun x : Nat => Value.int .u8 x) → (convert 41 9 (.slice a' (bytL y'.l).length cap')).run Try.prog w' = .ok (.string (Byt.str (bytL y'.l))) w' := fun a' cap' N w' ho => Byt.run_str (Byt.given_own (base := N) ho (bytL_lt y'.l))
      have hce : ∀ w', RCodAt w' m (m + 1) y' true → ∃ a4 c4, w'.cell? ⟨m, 4, none⟩ = some (.slice a4 y'.l.length c4) := fun w' h => (RCdr.cells h).2.2.2.2.1
      obtain ⟨LL, hLL⟩ : ∃ LL, LL = y'.l.length := ⟨_, rfl⟩
      obtain ⟨MM, hMM⟩ : ∃ MM, MM = (bytL y'.l).length := ⟨_, rfl⟩
      obtain ⟨ST, hST⟩ : ∃ ST, ST = Byt.str (bytL y'.l) := ⟨_, rfl⟩
      rw [← hLL] at hLn hce hll'
      rw [← hMM] at hBi hst
      rw [← hST] at hBy hst
      clear hLL hMM hST
      have nx0 : ∀ w9, Kept b 5 (m + 1) wr.drew w9 → RCodAt w9 m (m + 1) x en ∧ Below w.heap.size w w9 := fun w9 K => by
        have K' := Kept.of_drew K
        exact ⟨ref_kept hB.ref K' hbm, belr.trans (K'.below (by omega) (by omega) belr.size)⟩
      go_upto_region 16 with fail
      go_region_with (first
        | (go_at_call 16; refine (hE1 _ (by exact hB.cod)).mono ?_; clear hE1; rintro e w9 ⟨rfl, K9, C9⟩; obtain ⟨R9, bel9⟩ := nx0 w9 K9)
        | (go_at_call 17; refine (hE2 _ R9).mono ?_; clear hE2; rintro e w10 ⟨rfl, K10, R10⟩; have C10 := cod_kept C9 K10 hbm; have bel10 : Below w.heap.size w w10 := bel9.trans (K10.below (by omega) (by omega) bel9.size))
        | (go_at_call 19; refine (hBi _ C10).mono ?_; clear hBi; rintro e w11 ⟨a11, c11, rfl, own11, bel11⟩; have hcv := hst _ _ _ _ own11; have R11 := RCdr.below R10 bel11 (Nat.le_refl _); have C11 := C10.below bel11 (Nat.le_refl _); have blw11 : Below w.heap.size w w11 := bel10.trans (Bits.Below.less bel11 bel10.size))
        | (go_at_call 20; refine (hBy _ R11).mono ?_; clear hBy; rintro e w12 ⟨rfl, bel12⟩; have hcv2 := hst _ _ _ _ (Byt.owns_below own11 bel12 (Nat.le_refl _)); have R12 := RCdr.below R11 bel12 (Nat.le_refl _); have C12 := C11.below bel12 (Nat.le_refl _); have blw12 : Below w.heap.size w w12 := blw11.trans (Bits.Below.less bel12 blw11.size); obtain ⟨a4, c4, r4⟩ := hce w12 R12)
        | (go_at_call 18; refine (hLn _ C12).mono ?_; clear hLn; rintro e w' ⟨rfl, hw⟩; rw [hw]; clear hw w'))
      all_goals (
        go_wp2
        go_ret
        exact ⟨rfl, blw12⟩)

theorem ArithPuts_walk (v : Value) (zs : List One) (n : Int) (w : World) (hz : Ones w v zs) (hn : (Lit.int .u8 n).wf = true) :
    Calls Try.prog 3 #[v, .int .u8 n] w fun e w' => e = .returned (.bool true) ∧ Below w.heap.size w w' := by
  have hn' : 0 ≤ n ∧ n ≤ 255 := by simpa [Lit.wf, IntKind.min, IntKind.max, IntKind.bits, IntKind.signed] using hn
  by_cases hf : Near zs
  · exact puts_main v zs n w hz hf hn'.1 hn'.2
  · have hFar := fun w h => far_any v zs w h
    rw [show (!nearB zs) = true by rw [nearB_neg hf]; rfl] at hFar
    obtain ⟨a, c, rfl⟩ := hz.form
    go_enter Try.func3, Try.ntmps3
    go_wp2_with (first
      | (go_at_call 8; refine (alive_any _).mono ?_; rintro e wa ⟨rfl, bela⟩; have hzA := hz.below bela (Nat.le_refl _))
      | (go_at_call 9; refine (hFar _ hzA).mono ?_; clear hFar; rintro e w' ⟨rfl, hw⟩; rw [hw]; clear hw w'))
    go_ret
    exact ⟨rfl, bela⟩

end Ari
end Go.Proofs.Ytknolfpjhfpfaaa
