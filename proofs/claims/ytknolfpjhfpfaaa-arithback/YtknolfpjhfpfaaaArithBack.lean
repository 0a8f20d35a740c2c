/-
  The walk of the law that what was put is found, whatever bytes stand behind, at no more than 14 bits a symbol. Conditions: the symbols and the bytes stand in memory.
-/
import Derived.Test.YtknolfpjhfpfaaaArithStored
import Derived.Deep.CutRange
import Derived.Deep.RegionWith
import Derived.Deep.DeepCutAuto
namespace Go.Proofs.Ytknolfpjhfpfaaa
set_option linter.unusedVariables false
open Go.RowKit
namespace Ari
open Bits (Blk But add_at wrap_id bytesL bitsL)
open Num (Ints)

/-- between the rounds of the putting -/
def Wrote (w : World) (N0 b : Nat) (dn : Value) (j : Nat) (wr : World) : Prop :=
  ∃ ds : List Done, Below w.heap.size w wr ∧ CodAt wr b (b + 1) (M.puts M.Cod.new (zs_ ds)) false ∧ (∀ d ∈ ds, M.Tab d.2.1 ∧ d.2.2 < d.2.1.length ∧ Ints w d.1 d.2.1) ∧ wr.ownsRow N0 31 2 dn ds.length (flat ds) ∧ ds.length ≤ j ∧ N0 ≤ wr.heap.size
theorem zs_all {ds : List Done} {w : World} (h : ∀ d ∈ ds, M.Tab d.2.1 ∧ d.2.2 < d.2.1.length ∧ Ints w d.1 d.2.1) : ∀ x ∈ zs_ ds, M.Tab x.1 ∧ x.2 < x.1.length := fun x hx => by
  obtain ⟨d, hd, rfl⟩ := List.mem_map.1 hx
  exact ⟨(h d hd).1, (h d hd).2.1⟩
theorem zs_good {ds : List Done} {w : World} (h : ∀ d ∈ ds, M.Tab d.2.1 ∧ d.2.2 < d.2.1.length ∧ Ints w d.1 d.2.1) : (M.puts M.Cod.new (zs_ ds)).Good ∧ (M.puts M.Cod.new (zs_ ds)).D ≤ 14 * ds.length := by
  obtain ⟨h1, h2⟩ := M.puts_good (zs_ ds) M.Cod.Good.new (zs_all h)
  refine ⟨h1, ?_⟩
  have e : (zs_ ds).length = ds.length := by simp [zs_]
  rw [e] at h2
  have : M.Cod.new.D = 0 := rfl
  omega

set_option maxRecDepth 100000 in
set_option maxHeartbeats 4000000 in
theorem back_main (v u : Value) (zs : List One) (tl : List Nat) (w : World) (hz : Ones w v zs) (hu : Byt.Given w u tl) (hn : Near zs) (htl : tl.length ≤ 100) :
    Calls Try.prog 5 #[v, u] w fun e w' => e = .returned (.bool true) ∧ Below w.heap.size w w' := by
  obtain ⟨i0, hi0, hz0, hz1, hz2⟩ := info_parts infoOne
  obtain ⟨i8, hi8, hy0, hy1, hy2⟩ := info_parts Bits.info8
  have hFar := fun w h => far_any v zs w h
  rw [show (!nearB zs) = false by rw [nearB_pos hn]; rfl] at hFar
  obtain ⟨a, c, rfl⟩ := hz.form
  obtain ⟨a2, c2, rfl, hc2⟩ := hu.form
  have i2 : ¬ (100 : Int) < tl.length := by omega
  have hlen := hn.1
  have hnear := hn.2
  go_enter Try.func5, Try.ntmps5
  go_wp2_with (first
    | (go_at_call 8; refine (alive_any _).mono ?_; rintro e wa ⟨rfl, bela⟩; have hzA := hz.below bela (Nat.le_refl _))
    | (go_at_call 9; refine (hFar _ hzA).mono ?_; clear hFar; rintro e w' ⟨rfl, hw⟩; rw [hw]; clear hw w')
    | (go_at_call 10; refine (NewCoder_any _).mono ?_; rintro e w1 ⟨b, rfl, lb, bel1, A0⟩))
  have sA := bela.size
  have s1 := bel1.size
  have ub := A0.lt
  have belw : Below w.heap.size w w1 := bela.trans (Bits.Below.less bel1 sA)
  obtain ⟨N0, hN0⟩ : ∃ N0, N0 = w1.heap.size := ⟨_, rfl⟩
  go_loopw [6, 7] (fun dn i wr => ∃ j : Nat, j ≤ zs.length ∧ i = .int .i64 j ∧ Wrote w N0 b dn j wr) (fun _ i _ => zs.length - (intOf i).toNat)
  case atStart => exact ⟨0, by omega, rfl, [], belw, A0, (fun d hd => absurd hd (by simp)), World.ownsRow_nil _ _ _ _, by simp, by omega⟩
  case round =>
    obtain ⟨j, hj, rfl, ds, belr, hC, hds, hown, hld, hNr⟩ := hrel
    obtain ⟨hg, hD⟩ := zs_good hds
    by_cases hlt : j < zs.length
    · obtain ⟨⟨t, s⟩, hzj⟩ : ∃ z, zs[j]? = some z := ⟨_, List.getElem?_eq_getElem hlt⟩
      have htl' : t.length ≤ 100 := hnear (t, s) (List.mem_of_getElem? hzj)
      obtain ⟨b0, off, rfl, hb0, a', c', k0, k1, hT⟩ := hz.cell hzj
      have r0 : wr.cell? ⟨b0, off + j * 2, none⟩ = some (.slice a' t.length c') := (belr.cell hb0).trans k0
      have r1 : wr.cell? ⟨b0, off + j * 2 + 1, none⟩ = some (.int .i64 s) := (belr.cell hb0).trans k1
      have hTr := hT.below belr (Nat.le_refl _)
      have i3 : (0 : Int) ≤ j := by omega
      have i4 : (j : Int) < zs.length := by omega
      have sr := belr.size
      have hP := Put_any b (b + 1) _ false (.slice a' t.length c') t s wr.drew (by exact hC) hg (by omega) (by exact hTr) (by omega)
      have fb : b0 ≠ b := by omega
      by_cases hok : M.Tab t ∧ 0 ≤ s ∧ s < t.length
      · have e0 : putE false t s = 0 := by unfold putE; rw [if_neg (by simp), if_pos hok]
        have e1 : putC (M.puts M.Cod.new (zs_ ds)) false t s = M.puts M.Cod.new (zs_ (ds ++ [(.slice a' t.length c', t, s.toNat)])) := by
          unfold putC
          rw [if_pos e0]
          unfold zs_
          rw [List.map_append, M.puts_append]; rfl
        rw [e0, e1] at hP
        obtain ⟨S, rfl⟩ := Int.eq_ofNat_of_zero_le hok.2.1
        have hS : S < t.length := by omega
        clear e0 e1 k0 k1 hD
        go_wp2
        go_region_held3 (fun w' => w'.cell? ⟨b0, off + j * 2, none⟩ = some (.slice a' t.length c') ∧ w'.cell? ⟨b0, off + j * 2 + 1, none⟩ = some (.int .i64 S))
          (first | exact ⟨r0, r1⟩ | exact ⟨q0, q1⟩)
          (first
            | (go_at_call 14; refine hP.mono ?_; clear hP; rintro e w2 ⟨rfl, K2, C2⟩
               have q0 : w2.cell? ⟨b0, off + j * 2, none⟩ = some (.slice a' t.length c') := ((K2.below (W := w.heap.size) (by omega) (by omega) (by exact sr)).cell hb0).trans r0
               have q1 : w2.cell? ⟨b0, off + j * 2 + 1, none⟩ = some (.int .i64 S) := ((K2.below (W := w.heap.size) (by omega) (by omega) (by exact sr)).cell hb0).trans r1))
        have s2 : wr.heap.size ≤ w2.heap.size := K2.size
        have hown2 := (Kept.of_drew K2).owns hown (by omega) (by decide)
        go_wp2_with (at_builtin; refine wpList_append_own _ rfl (.tmp 44) (.tmp 49) 22 rfl N0 31 i0 _ 2 32 Try.underlying22 hi0 hz0 hz1 hz2 rfl (by decide) _ _ _ rfl (hown2.alloc _) ⟨w2.heap.size, 0, none⟩ 1 1 [.slice a' t.length c', .int .i64 S] rfl rfl (World.news_of_block (cs := #[.slice a' t.length c', .int .i64 S]) (t := 31) (fr := (0, 0)) (heap_alloc_new w2 _)) (by simp [Value.oneCell']) (by unfold maxLen; omega) (by omega) (by simp; omega) ?_; intro v' w3 hown3 hgrow _)
        go_roundw
        case rel =>
          have bel3 : Below N0 w2 w3 := ((Below.refl N0 w2).alloc (by omega) _).grown hgrow (by simp; omega) (fun k hk => (hown2.lt k hk).1)
          have s3 := bel3.size
          refine ⟨j + 1, by omega, by go_num, ds ++ [(.slice a' t.length c', t, S)], (belr.trans ((Kept.of_drew K2).below (by omega) (by omega) sr)).trans (Bits.Below.less bel3 (by omega)), CodAt.grown C2 hown2 hgrow (by decide) (by decide), fun d hd => ?_, ?_, by simp; omega, by omega⟩
          · rcases List.mem_append.1 hd with hd | hd
            · exact hds d hd
            · rw [List.mem_singleton.1 hd]; exact ⟨hok.1, hS, hT⟩
          · rw [flat_append, List.length_append]; exact hown3
        case measure => simp [intOf]; omega
      · have e0 : putE false t s = 1 := by unfold putE; rw [if_neg (by simp), if_neg hok]
        have e1 : putC (M.puts M.Cod.new (zs_ ds)) false t s = M.puts M.Cod.new (zs_ ds) := by
          unfold putC
          rw [e0, if_neg (by decide)]
        rw [e0, e1] at hP
        clear e0 e1 k0 k1 hD
        go_wp2
        go_region_held3 (fun w' => w'.cell? ⟨b0, off + j * 2, none⟩ = some (.slice a' t.length c') ∧ w'.cell? ⟨b0, off + j * 2 + 1, none⟩ = some (.int .i64 s))
          (first | exact ⟨r0, r1⟩ | exact ⟨q0, q1⟩)
          (first
            | (go_at_call 14; refine hP.mono ?_; clear hP; rintro e w2 ⟨rfl, K2, C2⟩
               have q0 : w2.cell? ⟨b0, off + j * 2, none⟩ = some (.slice a' t.length c') := ((K2.below (W := w.heap.size) (by omega) (by omega) (by exact sr)).cell hb0).trans r0
               have q1 : w2.cell? ⟨b0, off + j * 2 + 1, none⟩ = some (.int .i64 s) := ((K2.below (W := w.heap.size) (by omega) (by omega) (by exact sr)).cell hb0).trans r1))
        have s2 : wr.heap.size ≤ w2.heap.size := K2.size
        go_wp2
        go_roundw
        case rel => exact ⟨j + 1, by omega, by go_num, ds, belr.trans ((Kept.of_drew K2).below (by omega) (by omega) sr), C2, hds, (Kept.of_drew K2).owns hown (by omega) (by decide), by omega, by omega⟩
        case measure => simp [intOf]; omega
    · obtain rfl : j = zs.length := by omega
      obtain ⟨da, dc, rfl⟩ := own_form hown
      have hE := End_any b (b + 1) _ false wr hC (by omega)
      rw [show endE false = 0 from rfl, show endC (M.puts M.Cod.new (zs_ ds)) false = (M.puts M.Cod.new (zs_ ds)).end_ from rfl] at hE
      have hll := (M.puts M.Cod.new (zs_ ds)).end_length
      obtain ⟨F, hF⟩ : ∃ F, F = (M.puts M.Cod.new (zs_ ds)).end_ := ⟨_, rfl⟩
      rw [← hF] at hE hll
      have hLn := fun w h => Len_any b (b + 1) F true w h
      have hBi := fun w h => Bits_any b (b + 1) F true w h (by omega)
      have hbl := bytL_length F.l
      have sr := belr.size
      obtain ⟨n, hn'⟩ : ∃ n, n = F.l.length := ⟨_, rfl⟩
      obtain ⟨m, hm⟩ : ∃ m, m = (bytL F.l).length := ⟨_, rfl⟩
      rw [← hn'] at hLn hll hbl
      rw [← hm] at hBi hbl
      have n1 : (n : Int) ≤ 14 * (ds.length : Int) + 2 := by omega
      have m1 : 1 ≤ m := by omega
      have m2 : m ≤ 400 := by omega
      have hNF : Hid (n = F.l.length) := hn'
      have hMF : Hid (m = (n + 7) / 8) := hbl
      have hFF : Hid (F = (M.puts M.Cod.new (zs_ ds)).end_) := hF
      have hMM : Hid (m = (bytL F.l).length) := hm
      have hLL : Hid (n = (M.puts M.Cod.new (zs_ ds)).D + 2) := hll
      have hDD : Hid ((M.puts M.Cod.new (zs_ ds)).D ≤ 14 * ds.length) := hD
      obtain ⟨p, hp1, hp2⟩ : ∃ p : Nat, (n : Int) % 8 = p ∧ n % 8 = p := ⟨n % 8, by omega, rfl⟩
      have n0 : (0 : Int) ≤ n := by omega
      have hPP : Hid (n % 8 = p) := hp2
      have hp8 : p ≤ 7 := by omega
      clear hn' hm hF hll hbl hD hp2
      go_upto_region 15 with (first
        | (go_at_call 16; refine hE.mono ?_; clear hE; rintro e w5 ⟨rfl, K5, C5⟩)
        | (go_at_call 19; refine (hBi w5 C5).mono ?_; clear hBi; rintro e w6 ⟨a6, c6, rfl, own6, bel6⟩; have C6 := C5.below bel6 (Nat.le_refl _); obtain ⟨g6, cp6, he6, lg6, ug6⟩ := own6.form (by omega); cases he6)
        | (go_at_call 18; refine (hLn _ C5).mono ?_; rintro e w' ⟨rfl, hw⟩; rw [hw]; clear hw w'))
      go_cut [73] from 65 to 73 (fun s73 wx => s73 = .bool (decide (p ≠ 0 ∧ 0 < tl.length)) ∧ wx = w6)
      case first =>
        by_cases hp0 : p = 0
        · have e : decide (p ≠ 0 ∧ 0 < tl.length) = false := decide_eq_false (by omega)
          subst hp0
          go_wp2_with (go_at_call 18; refine (hLn _ C6).mono ?_; rintro e w' ⟨rfl, hw⟩; rw [hw]; clear hw w')
          go_meet
          exact ⟨by rw [e], rfl⟩
        · have i5 : ¬ (p : Int) = 0 := by omega
          by_cases ht0 : 0 < tl.length
          · have e : decide (p ≠ 0 ∧ 0 < tl.length) = true := decide_eq_true ⟨hp0, ht0⟩
            have i6 : (0 : Int) < tl.length := by omega
            have i7 : ((p : Int) != 0) = true := by rw [bne_iff_ne]; exact i5
            go_wp2_with (go_at_call 18; refine (hLn _ C6).mono ?_; rintro e w' ⟨rfl, hw⟩; rw [hw]; clear hw w')
            go_meet
            exact ⟨by first | rw [e, i7] | rw [e], rfl⟩
          · have e : decide (p ≠ 0 ∧ 0 < tl.length) = false := decide_eq_false (by omega)
            have i6 : ¬ (0 : Int) < tl.length := by omega
            go_wp2_with (go_at_call 18; refine (hLn _ C6).mono ?_; rintro e w' ⟨rfl, hw⟩; rw [hw]; clear hw w')
            go_meet
            exact ⟨by rw [e], rfl⟩
      case rest =>
        obtain ⟨rfl, hwc⟩ := hcut
        rw [hwc]
        clear hwc wc
        go_upto_if 73 with fail
        go_cut [] from 73 to 93 (fun wx => wx.ownsRow w5.heap.size 5 1 (.slice (some ⟨g6, 0, none⟩) m c6) m ((lastOr F.l tl).map fun x : Nat => Value.int .u8 x) ∧ Below w5.heap.size w5 wx)
        case first =>
          by_cases hcn : p ≠ 0 ∧ 0 < tl.length
          · obtain ⟨hp0, ht0⟩ := hcn
            rw [decide_eq_true (show p ≠ 0 ∧ 0 < tl.length from ⟨hp0, ht0⟩)]
            have belr6 : Below w.heap.size w w6 := (belr.trans (K5.below (by omega) (by omega) sr)).trans (Bits.Below.less bel6 (by have := K5.size; omega))
            obtain ⟨b2, off2, rfl, hb2, k2⟩ := hu.cell (i := 0) ht0
            have t0 : w6.cell? ⟨b2, off2, none⟩ = some (.int .u8 (tl.getD 0 0 : Nat)) := (belr6.cell hb2).trans k2
            have ht1 := getD_lt hu.lt 0
            have hlo : Hid (lastOr F.l tl = (bytL F.l).set (n / 8) (M.byteOf (bitF F.l) (n / 8) ||| tl.getD 0 0 / 2 ^ p)) := by
              have e1 : n = F.l.length := hNF
              have e2 : n % 8 = p := hPP
              show lastOr F.l tl = _
              unfold lastOr
              rw [← e1, e2, if_pos ⟨hp0, ht0⟩]
            obtain ⟨J, rfl⟩ : ∃ J, m = J + 1 := ⟨m - 1, by omega⟩
            have hJ : n / 8 = J := by
              have e1 : J + 1 = (n + 7) / 8 := hMF
              have e2 : n % 8 = p := hPP
              omega
            have x0 : w6.cell? ⟨g6, J, none⟩ = some (.int .u8 (M.byteOf (bitF F.l) J : Nat)) := (own6.cellAt J (by omega)).trans (by
              rw [List.getElem?_map]
              have e3 : (bytL F.l)[J]? = some (M.byteOf (bitF F.l) J) := by
                have e4 : J < (bytL F.l).length := by have : J + 1 = (bytL F.l).length := hMM; omega
                have e5 := bytL_getD (l := F.l) (j := J) (by rw [← bytL_length]; exact e4)
                rw [← e5]; simp [List.getD, List.getElem?_eq_getElem e4]
              rw [e3]; rfl)
            have x1 := own6.frozenAt J
            have hX1 := M.byteOf_lt (bitF F.l) J
            rw [show n / 8 = J from hJ] at hlo
            obtain ⟨X, hX⟩ : ∃ X, X = M.byteOf (bitF F.l) J := ⟨_, rfl⟩
            obtain ⟨T, hT⟩ : ∃ T, T = tl.getD 0 0 := ⟨_, rfl⟩
            rw [← hX] at x0 hX1 hlo
            rw [← hT] at t0 ht1 hlo
            obtain ⟨z, hz', hzz⟩ : ∃ z : Nat, (T : Int) / 2 ^ p = z ∧ z = T / 2 ^ p := ⟨_, by simp, rfl⟩
            have z1 : z < 256 := by rw [hzz]; exact Nat.lt_of_le_of_lt (Nat.div_le_self _ _) ht1
            have hor : bits BinOp.or IntKind.u8 (X : Int) (z : Int) = ((X ||| z : Nat) : Int) := u8_or_nat _ _ hX1 z1
            rw [← hzz] at hlo
            have hO' : Hid (bits BinOp.or IntKind.u8 (X : Int) (z : Int) = ((X ||| z : Nat) : Int)) := hor
            have v3 : IntKind.u64.wrap (p : Int) = p := by rw [IntKind.wrap_u64]; omega
            have j1 : IntKind.i64.wrap ((J : Int) + 1 - 1) = J := by rw [wrap_id _ (by omega) (by omega)]; omega
            have j2 : IntKind.i64.wrap (((J + 1 : Nat) : Int) - 1) = J := by rw [wrap_id _ (by omega) (by omega)]; omega
            have j3 : IntKind.i64.wrap ((n : Int) % 8) = p := by rw [wrap_id _ (by omega) (by omega)]; exact hp1
            have j4 : IntKind.i64.wrap (J : Int) = J := wrap_id _ (by omega) (by omega)
            have j5 : IntKind.i64.wrap (p : Int) = p := wrap_id _ (by omega) (by omega)
            have j6 : IntKind.u8.wrap (z : Int) = z := by rw [IntKind.wrap_u8']; omega
            have j7 : (n : Int).tmod 8 = p := by rw [Int.tmod_eq_emod_of_nonneg n0]; exact hp1
            have v4 : (0 : Int) ≤ p := by omega
            have v5 : (p : Int) ≤ 8 := by omega
            have fg : b2 ≠ g6 := by have := K5.size; omega
            have fb : b ≠ g6 := by have := C5.lt; omega
            have C6' : CodAt w6.drew b (b + 1) F true := C6
            clear hX hT hzz hor k2 hJ
            have hfin : (w6.setCell ⟨g6, J, none⟩ (.int .u8 (bits BinOp.or IntKind.u8 (X : Int) (z : Int)))).ownsRow w5.heap.size 5 1 (.slice (some ⟨g6, 0, none⟩) (J + 1) c6) (J + 1) ((lastOr F.l tl).map fun x : Nat => Value.int .u8 x) ∧ Below w5.heap.size w5 (w6.setCell ⟨g6, J, none⟩ (.int .u8 (bits BinOp.or IntKind.u8 (X : Int) (z : Int)))) := by
              refine ⟨?_, bel6.setCell lg6 _⟩
              have st := (own6.stored J (.int .u8 (bits BinOp.or IntKind.u8 (X : Int) (z : Int)))).1
              rw [show lastOr F.l tl = _ from hlo, List.map_set, ← show bits BinOp.or IntKind.u8 (X : Int) (z : Int) = _ from hO']
              exact st
            have j8 : (0 : Int) ≤ J := by omega
            have j9 : (J : Int) < (J : Int) + 1 := by omega
            go_wp2
            go_region_with (go_at_call 18; refine (hLn _ C6').mono ?_; rintro e w' ⟨rfl, hw⟩; rw [hw]; clear hw w')
            all_goals (go_wp2; go_meet; exact ⟨hfin.1, ⟨hfin.2.os, hfin.2.tape, hfin.2.output, hfin.2.size, hfin.2.block⟩⟩)
          · rw [decide_eq_false hcn]
            have hlo : lastOr F.l tl = bytL F.l := by
              have e1 : n = F.l.length := hNF
              have e2 : n % 8 = p := hPP
              unfold lastOr
              rw [← e1, e2, if_neg hcn]
            go_wp2
            go_meet
            exact ⟨by rw [hlo]; exact own6, bel6⟩
        case rest =>
          obtain ⟨own7, bel7⟩ := hcut
          have s5 := K5.size
          have bel5 : Below w.heap.size w w5 := belr.trans (K5.below (by omega) (by omega) sr)
          have bel07 : Below w.heap.size w wc := bel5.trans (Bits.Below.less bel7 (by omega))
          have hu7 := hu.below bel07 (Nat.le_refl _)
          have sc := bel7.size
          have D5 := K5.owns hown (by omega) (by decide)
          have hcn : ∀ ad, a2 = some ad → ∀ j u, (tl.map fun x : Nat => Value.int .u8 x)[j]? = some u → wc.cell? (ad.add j) = some u := fun ad had j u hj => by
            obtain ⟨x, hx, rfl⟩ : ∃ x, tl[j]? = some x ∧ Value.int .u8 x = u := by simpa using hj
            obtain ⟨b2, off2, ha2, hb2, k2⟩ := hu7.cell (i := j) (List.getElem?_eq_some_iff.1 hx).1
            rw [ha2] at had
            cases had
            rw [Go.WideShapes.add_plain, k2]
            simp [List.getD, hx]
          have hnn : a2 = none → tl.length = 0 ∧ c2 = 0 := fun h => by
            obtain ⟨a', c', he, hl, _, hnil, _⟩ := hu7
            cases he
            have := hnil h
            omega
          have one : ∀ u ∈ (tl.map fun x : Nat => Value.int .u8 x), u.oneCell' = true := fun u hu => by
            obtain ⟨x, _, rfl⟩ := List.mem_map.1 hu; rfl
          have hagr := agree_bytes F.l tl hu.lt
          have hbl : ∀ x ∈ lastOr F.l tl ++ tl, x < 256 := fun x hx => by
            rcases List.mem_append.1 hx with h | h
            · exact lastOr_lt F.l tl hu.lt x h
            · exact hu.lt x h
          have hml : (lastOr F.l tl ++ tl).length = m + tl.length := by
            have e1 : m = (n + 7) / 8 := hMF
            have e2 : n = F.l.length := hNF
            rw [List.length_append, lastOr_length, ← e2, ← e1]
          obtain ⟨xs, hxs⟩ : ∃ xs, xs = lastOr F.l tl ++ tl := ⟨_, rfl⟩
          rw [← hxs] at hagr hbl hml
          have hmap : Hid ((lastOr F.l tl).map (fun x : Nat => Value.int .u8 x) ++ tl.map (fun x : Nat => Value.int .u8 x) = xs.map fun x : Nat => Value.int .u8 x) := by rw [hxs]; exact (List.map_append ..).symm
          clear hxs
          go_upto_if 99 with (first
            | (at_builtin; refine wpList_append_opt _ rfl (.tmp 94) (.tmp 95) 41 rfl w5.heap.size 5 i8 (.int .u8 0) 1 1 Try.underlying41 hi8 hy0 hy1 hy2 rfl (by decide) _ m _ rfl own7 a2 tl.length c2 (tl.map fun x : Nat => Value.int .u8 x) rfl (by simp) hnn hcn one (by unfold maxLen; omega) (by omega) sc ?_; intro v8 w8 own8 gr8; obtain ⟨g8, cp8, rfl, lg8, ug8⟩ := own8.form (by omega)))
          have bel8 : Below w5.heap.size w5 w8 := bel7.grown gr8 sc (fun k hk => (own7.lt k hk).1)
          rw [show (lastOr F.l tl).map (fun x : Nat => Value.int .u8 x) ++ tl.map (fun x : Nat => Value.int .u8 x) = _ from hmap] at own8
          have s8 := bel8.size
          have bel08 : Below w.heap.size w w8 := bel5.trans (Bits.Below.less bel8 (by omega))
          have h512 : m + tl.length ≤ 512 := by omega
          have i8' : ¬ (512 : Int) < (m : Int) + tl.length := by omega
          have hgv : Byt.Given w8 (.slice (some ⟨g8, 0, none⟩) (m + tl.length) cp8) xs := Byt.given_own (base := w5.heap.size) (by rw [hml]; exact own8) hbl
          have hO := open_eye _ xs w8 hgv (by omega)
          go_wp2_with (first
            | (go_at_call 21; refine hO.mono ?_; clear hO; rintro e w9 ⟨p9, rfl, bel9, hE9⟩)
            | (go_at_call 22; refine (NewFinder_any _ 0 w9.heap.size (bitsL xs) w9 hE9 (Nat.le_refl _)).mono ?_; rintro e w10 ⟨f, rfl, lf, bel10, hF10⟩))
          have s9 := bel9.size
          have s10 := bel10.size
          have hE10 := hE9.below bel10 (Nat.le_refl _)
          have bel510 : Below w5.heap.size w5 w10 := (bel8.trans (Bits.Below.less bel9 (by omega))).trans (Bits.Below.less bel10 (by omega))
          have hfr : from_ (bitsL xs) (frOf 0) = bitsL xs := by
            funext i
            show bitsL xs (0 + i) = _
            rw [Nat.zero_add]
          rw [hfr, ← M.fnd_new] at hF10
          have hag2 : M.Agree (bitsL xs) (M.puts M.Cod.new (zs_ ds)).end_.l := by rw [← show F = _ from hFF]; exact hagr
          have hfound := fun j t s hj => M.puts_found (B := bitsL xs) M.Cod.Good.new (zs_all hds) hag2 (j := j) (t := t) (s := s) hj
          have hgood0 := M.puts_in (B := bitsL xs) (zs_ ds) M.Cod.Good.new (zs_all hds) hag2
          go_loopw [12] (fun i wr => ∃ j : Nat, j ≤ ds.length ∧ i = .int .i64 j ∧ But f f w10 wr ∧ FndAt wr f (.pointer (some ⟨p9, 0, none⟩)) (frOf 0) (M.fnd (bitsL xs) (M.puts M.Cod.new ((zs_ ds).take j)))) (fun i _ => ds.length - (intOf i).toNat)
          case atStart => exact ⟨0, by omega, rfl, But.refl _ _ _, hF10⟩
          case round =>
            obtain ⟨j, hj, rfl, btr, hFr⟩ := hrel
            have belx := btr.below (B := w9.heap.size) lf lf s10
            have hEr := hE10.below belx (Nat.le_refl _)
            have bel5r : Below w5.heap.size w5 wr := bel510.trans (Bits.Below.less belx (by omega))
            have bel0r : Below w.heap.size w wr := bel5.trans (Bits.Below.less bel5r (by omega))
            by_cases hlt : j < ds.length
            · obtain ⟨⟨q, t, S⟩, hdj⟩ : ∃ d, ds[j]? = some d := ⟨_, List.getElem?_eq_getElem hlt⟩
              obtain ⟨ht, hS, hI⟩ : M.Tab t ∧ S < t.length ∧ Ints w q t := hds _ (List.mem_of_getElem? hdj)
              have hzj : (zs_ ds)[j]? = some (t, S) := by unfold zs_; rw [List.getElem?_map, hdj]; rfl
              obtain ⟨g1, g2, g3⟩ := hfound j t S hzj
              have hIr := hI.below bel0r (Nat.le_refl _)
              have D := Byt.owns_below D5 bel5r (Nat.le_refl _)
              obtain ⟨gd, cd, hde, _, _⟩ := D.form (by omega)
              cases hde
              obtain ⟨f0, f1⟩ := flat_get hdj
              have r0 : wr.cell? ⟨gd, j * 2, none⟩ = some q := (D.cellAt (j * 2) (by omega)).trans f0
              have r1 : wr.cell? ⟨gd, j * 2 + 1, none⟩ = some (.int .i64 S) := (D.cellAt (j * 2 + 1) (by omega)).trans f1
              have fgd : gd ≠ f := by
                have u5 := (D5.lt gd rfl).2
                omega
              have hr9 : (M.fnd (bitsL xs) (M.puts M.Cod.new ((zs_ ds).take j))).r ≤ 900000 := by
                have e := M.puts_good ((zs_ ds).take j) M.Cod.Good.new (fun x hx => zs_all hds x (List.mem_of_mem_take hx))
                have l1 : ((zs_ ds).take j).length ≤ 200 := by rw [List.length_take]; unfold zs_; rw [List.length_map]; omega
                have d0 : M.Cod.new.D = 0 := rfl
                show 16 + _ ≤ 900000
                omega
              have hG := Get_ok f w9.heap.size (frOf 0) _ q _ t (bitsL xs) wr hFr hEr lf g1 (by decide) hr9 hIr ht
              rw [hfr, g2, g3] at hG
              obtain ⟨qa, qc, rfl, _⟩ := hI.form
              have i11 : (0 : Int) ≤ j := by omega
              have i12 : (j : Int) < ds.length := by omega
              have hr1 : ∀ w11, But f f wr w11 → w11.cell? ⟨gd, j * 2 + 1, none⟩ = some (.int .i64 S) := fun w11 bt => by
                have sz5 := bel5r.size
                exact ((bt.below (B := w5.heap.size) (by omega) (by omega) sz5).cell (D5.lt gd rfl).2).trans r1
              clear hfound g1 g2 g3 hr9 f0 f1
              go_wp2_with (go_at_call 25; refine hG.mono ?_; clear hG; rintro e w11 ⟨rfl, bt11, hF11⟩; have r1' := hr1 _ bt11)
              go_roundw
              case rel => exact ⟨j + 1, by omega, by go_num, btr.trans bt11, hF11⟩
              case measure => simp [intOf]; omega
            · obtain rfl : j = ds.length := by omega
              go_wp2
              go_ret
              exact ⟨rfl, bel0r⟩

theorem ArithBack_walk (v u : Value) (zs : List One) (tl : List Nat) (w : World) (hz : Ones w v zs) (hu : Byt.Given w u tl) :
    Calls Try.prog 5 #[v, u] w fun e w' => e = .returned (.bool true) ∧ Below w.heap.size w w' := by
  by_cases hn : Near zs
  · by_cases ht : tl.length ≤ 100
    · exact back_main v u zs tl w hz hu hn ht
    · have hFar := fun w h => far_any v zs w h
      rw [show (!nearB zs) = false by rw [nearB_pos hn]; rfl] at hFar
      obtain ⟨a, c, rfl⟩ := hz.form
      obtain ⟨a2, c2, rfl, hc2⟩ := hu.form
      have i2 : (100 : Int) < tl.length := by omega
      go_enter Try.func5, Try.ntmps5
      go_wp2_with (first
        | (go_at_call 8; refine (alive_any _).mono ?_; rintro e wa ⟨rfl, bela⟩; have hzA := hz.below bela (Nat.le_refl _))
        | (go_at_call 9; refine (hFar _ hzA).mono ?_; clear hFar; rintro e w' ⟨rfl, hw⟩; rw [hw]; clear hw w'))
      go_ret
      exact ⟨rfl, bela⟩
  · have hFar := fun w h => far_any v zs w h
    rw [show (!nearB zs) = true by rw [nearB_neg hn]; rfl] at hFar
    obtain ⟨a, c, rfl⟩ := hz.form
    obtain ⟨a2, c2, rfl, hc2⟩ := hu.form
    go_enter Try.func5, Try.ntmps5
    go_wp2_with (first
      | (go_at_call 8; refine (alive_any _).mono ?_; rintro e wa ⟨rfl, bela⟩; have hzA := hz.below bela (Nat.le_refl _))
      | (go_at_call 9; refine (hFar _ hzA).mono ?_; clear hFar; rintro e w' ⟨rfl, hw⟩; rw [hw]; clear hw w'))
    go_ret
    exact ⟨rfl, bela⟩

end Ari
end Go.Proofs.Ytknolfpjhfpfaaa
