/-
  The law PcmOrder walked. Conditions: none.
-/
import Derived.Test.YtnnljamkomlglaaPcmOrd
import Derived.Test.YtnnljamkomlglaaBytes
namespace Go.Proofs.Ytnnljamkomlglaa
set_option linter.unusedVariables false
open Go.RowKit
namespace Pcm
open Bank (Blk But)
open Poly

set_option maxRecDepth 100000 in
theorem Order_far (v u : Value) (l : List (List Int)) (ts : List Nat) (w : World) (h : Poly.Rows .i16 0 w.heap.size w v l) (ht : Byt.Given w u ts) (hl : 40 < l.length ∨ 40 < ts.length) :
    Calls Try.prog 6 #[v, u] w fun e w' => e = .returned (.bool true) ∧ Below w.heap.size w w' := by
  obtain ⟨a, cp, rfl, _⟩ := h.form
  obtain ⟨at', ct, rfl, _⟩ := ht.form
  have hal := alive_any w
  have hN := fun wx => NewStore_ok 4096 wx (by decide) (by decide)
  rcases (by omega : 40 < l.length ∨ (¬ 40 < l.length ∧ 40 < ts.length)) with h1 | ⟨h1, h2⟩
  · have l1 : (40 : Int) < l.length := by omega
    generalize l.length = n at *
    generalize ts.length = m at *
    clear h hl h1 ht
    go_enter Try.func6, Try.ntmps6
    go_wp2_with (first
      | (go_at_call 7; refine hal.mono ?_; clear hal; rintro e w1 ⟨rfl, bel1⟩)
      | (go_at_call 16; refine (hN _).mono ?_; clear hN; rintro e w2 ⟨rfl, S2, bel2, sz2⟩; clear S2 sz2))
    go_ret
    exact ⟨rfl, bel1.trans (Bits.Below.less bel2 bel1.size)⟩
  · have l1 : ¬ (40 : Int) < l.length := by omega
    have l2 : (40 : Int) < ts.length := by omega
    generalize l.length = n at *
    generalize ts.length = m at *
    clear h hl h1 h2 ht
    go_enter Try.func6, Try.ntmps6
    go_wp2_with (first
      | (go_at_call 7; refine hal.mono ?_; clear hal; rintro e w1 ⟨rfl, bel1⟩)
      | (go_at_call 16; refine (hN _).mono ?_; clear hN; rintro e w2 ⟨rfl, S2, bel2, sz2⟩; clear S2 sz2))
    go_ret
    exact ⟨rfl, bel1.trans (Bits.Below.less bel2 bel1.size)⟩

set_option maxRecDepth 100000 in
set_option maxHeartbeats 8000000 in
theorem Order_ok (v u : Value) (l : List (List Int)) (ts : List Nat) (w : World) (h : Poly.Rows .i16 0 w.heap.size w v l) (ht : Byt.Given w u ts) (hl : l.length ≤ 40) (htl : ts.length ≤ 40) :
    Calls Try.prog 6 #[v, u] w fun e w' => e = .returned (.bool true) ∧ Below w.heap.size w w' := by
  obtain ⟨a, cp, rfl, _⟩ := h.form
  obtain ⟨at', cct, rfl, _⟩ := ht.form
  have hal := alive_any w
  have hN := fun wx => NewStore_ok 4096 wx (by decide) (by decide)
  obtain ⟨Ll, hLl⟩ : ∃ n, l.length = n := ⟨_, rfl⟩
  obtain ⟨Lt, hLt⟩ : ∃ n, ts.length = n := ⟨_, rfl⟩
  have hcell : ∀ k, k < Ll → ∃ b0 off ax cx xs, a = some ⟨b0, off, none⟩ ∧ b0 < w.heap.size ∧ w.cell? ⟨b0, off + k, none⟩ = some (.slice ax xs.length cx) ∧ Reads .i16 0 w.heap.size w (.slice ax xs.length cx) xs := fun k hk => by
    obtain ⟨b0, off, e, _, hb, hx⟩ := h.cell (by omega)
    obtain ⟨u, hu, hr⟩ := hx k (by omega)
    obtain ⟨ax, cx, rfl⟩ := hr.form
    exact ⟨b0, off, ax, cx, _, e, hb, hu, hr⟩
  have htc : ∀ k, k < Lt → ∃ bt ot, at' = some ⟨bt, ot, none⟩ ∧ bt < w.heap.size ∧ w.cell? ⟨bt, ot + k, none⟩ = some (.int .u8 (ts.getD k 0 : Nat)) := fun k hk => ht.cell (by omega)
  have ht256 : ∀ k, ts.getD k 0 < 256 := fun k => by
    rw [List.getD_eq_getElem?_getD]
    rcases Nat.lt_or_ge k ts.length with hi | hi
    · rw [List.getElem?_eq_getElem hi]; exact ht.lt _ (List.getElem_mem _)
    · rw [List.getElem?_eq_none hi]; decide
  rw [hLl] at hl ⊢
  rw [hLt] at htl ⊢
  have HC : Hid _ := hcell
  have HT : Hid _ := htc
  have HT256 : Hid _ := ht256
  have l1 : (Ll : Int) ≤ 40 := by omega
  have l2 : (Lt : Int) ≤ 40 := by omega
  clear h ht hcell htc ht256 hLl hLt
  go_enter Try.func6, Try.ntmps6
  go_wp2_with (first
    | (go_at_call 7; refine hal.mono ?_; clear hal; rintro e w1 ⟨rfl, bel1⟩; have HB1 : Hid (Below _ _ _) := bel1; clear bel1)
    | (go_at_call 16; refine (hN _).mono ?_; clear hN; rintro e w2 ⟨rfl, S2, bel2, sz2⟩; have HO2 : Hid (Ord _ _ _ _ _ _ _ _ _) := ord_new w1 w2 S2 sz2; have HB2 : Hid (Below _ _ _) := bel2; clear S2 bel2 sz2))
  go_loopw [7, 8, 9, 10] (fun va vb sh i wr => ∃ (k : Nat) (q A B : List Int), k ≤ 40 ∧ i = .int .i64 k ∧ sh = .int .i64 0 ∧ Ord wr.heap.size w1.heap.size w1.heap.size q A B va vb wr ∧ A = B ++ q ∧ A.length ≤ 4096 * k ∧ Below w1.heap.size w1 wr) (fun _ _ _ i _ => 41 - (intOf i).toNat)
  case atStart => exact ⟨0, [], [], [], by omega, rfl, rfl, HO2.out, rfl, by simp, HB2.out⟩
  case round =>
    clear HO2 HB2
    obtain ⟨k, q, A, B, hk, rfl, rfl, hO, hrl, hln, hbr⟩ := hrel
    obtain ⟨⟨aA, cA, rfl⟩, ⟨aB, cB, rfl⟩⟩ := hO.forms
    have hql := hO.len
    have HBr : Hid (Below _ _ _) := hbr
    have HO : Hid (Ord _ _ _ _ _ _ _ _ _) := hO
    have HAr : Hid (A.length ≤ 4096 * 40) := by show _ ≤ _; omega
    have i1 : (0 : Int) ≤ k := by omega
    by_cases hkl : k < Ll
    · obtain ⟨b0, off, ax, cx, xs, rfl, hb0, y0, hx0⟩ := HC.out k hkl
      have i2 : (k : Int) < Ll := by omega
      have hbN : b0 < w1.heap.size := Nat.lt_of_lt_of_le hb0 HB1.out.size
      have y1 : wr.cell? ⟨b0, off + k, none⟩ = some (.slice ax xs.length cx) := (HBr.out.cell hbN).trans ((HB1.out.cell hb0).trans y0)
      have HX1 : Hid (Reads .i16 0 w1.heap.size wr (.slice ax xs.length cx) xs) := ((hx0.below HB1.out (Nat.le_refl _)).mono (Nat.le_refl _) HB1.out.size).below HBr.out (Nat.le_refl _)
      clear y0 hx0 HC
      rcases Nat.lt_or_ge 4096 (q.length + xs.length) with hfull | hfit
      · have hPut := ord_full _ _ _ q A B _ _ _ xs wr HO.out HX1.out hfull
        have HA : Hid (A = B ++ q) := hrl
        have HAl : Hid (A.length ≤ 4096 * (k + 1)) := by show _ ≤ _; omega
        have HQl : Hid (q.length ≤ 4096) := hql
        have Hxl : Hid (A.length ≤ 163840) := by show _ ≤ _; omega
        clear hO hrl hln hbr hql hfull
        by_cases htk : k < Lt
        · have t1 : (k : Int) < Lt := by omega
          obtain ⟨bt, ot, rfl, hbt, ct⟩ := HT.out k htk
          have hT := HT256.out k
          generalize ts.getD k 0 = T at ct hT
          have T1 : (T : Int) ≤ 255 := by omega
          have T0 : (0 : Int) ≤ T := by omega
          have HT4 : Hid (T ≤ 255) := by show _ ≤ _; omega
          obtain ⟨K, hK⟩ : ∃ K, K = min q.length T := ⟨_, rfl⟩
          have g4 : (if T < q.length then (T : Int) else (q.length : Int)) = (K : Int) := by split <;> omega
          have k0 : (0 : Int) ≤ K := by omega
          have k1 : (K : Int) ≤ T := by omega
          have HK : Hid _ := hK
          obtain ⟨B2, hB2⟩ : ∃ B2, B ++ q.take T = B2 := ⟨_, rfl⟩
          have HB22 : Hid (B ++ q.take T = B2) := hB2
          clear hK hT hB2
          go_wp2_with (first
              | (go_at_call 17; refine hPut.mono ?_; clear hPut; rintro e w3 ⟨rfl, bel2, O2⟩
                 have HOz : Hid (Ord _ _ _ _ _ _ _ _ _) := O2.up
                 have HBz : Hid (Below _ _ _) := HBr.out.trans bel2
                 clear bel2 O2)
              | (go_at_call 22; refine (ord_len _ _ _ _ _ _ _ _ _ HOz.out).mono ?_; rintro e w' ⟨rfl, hw⟩; rw [hw]; clear hw w'; have ct2 : w3.cell? ⟨bt, ot + k, none⟩ = some (.int .u8 T) := (HBz.out.cell (Nat.lt_of_lt_of_le hbt HB1.out.size)).trans ((HB1.out.cell hbt).trans ct); have hTk := ord_take _ _ _ T (T : Int) _ _ _ _ _ w3 HOz.out rfl (by have := HT4.out; omega))
              | (go_at_call 19; refine hTk.mono ?_; clear hTk; rintro e w5 ⟨a5, c5, rfl, R5, bel5, O5, s5⟩
                 obtain ⟨a6, hsl, R6⟩ := head_any R5 K (by rw [M.tk_length]; have := HK.out; omega) (by have := HK.out; have := HT4.out; omega)
                 have hsl5 := hsl w5
                 obtain ⟨o0, hq0, ho0, hg⟩ := ord_out O5
                 rw [HK.out, M.take_tk, ← HK.out] at R6
                 have HR5 : Hid (Reads _ _ _ _ _ _) := R5
                 have HR5' : Hid (Reads _ _ _ _ _ _) := R6
                 have HQ0 : Hid (Que _ _ _ _) := hq0
                 have HG : Hid _ := hg
                 have Ho0 : Hid _ := ho0
                 have HB5 : Hid (Below _ _ _) := HBz.out.trans bel5
                 have Hs5 : Hid _ := s5
                 clear R5 R6 hq0 hg ho0 bel5 O5 hsl s5)
              | (at_builtin; refine wpList_append_que rfl (.tmp 83) (.tmp 86) rfl o0 _ B rfl HQ0.out _ _ _ _ _ (q.take T) rfl HR5'.out (by have h1 := HA.out; have h2 := HAl.out; have h3 := HQl.out; have h4 : A.length = (B ++ q).length := congrArg _ h1; rw [List.length_append] at h4; rw [List.length_take]; omega) ?_
                 intro r6 v6 w6 hq6 hb6 hr6 hn6 hs6
                 have HR6 : Hid (Reads _ _ _ w6 (.slice a5 T c5) (M.tk T q)) := HR5.out.keep (fun j h1 h2 => hb6.block j h2 (by have := Ho0.out; omega))
                 obtain ⟨bel6, O6⟩ := HG.out r6 v6 w6 _ (HB22.out ▸ hq6) hb6 hr6
                 obtain ⟨a7, c7, rfl⟩ := O6.forms.2
                 have HO6 : Hid (Ord _ _ _ _ _ _ _ _ _) := O6
                 have HB6 : Hid (Below _ _ _) := HB5.out.trans bel6
                 clear hq6 hb6 hr6 hn6 hs6 bel6 O6))
          have Hx5 : Hid (∀ m, K ≤ m → m < T → ∃ bx ox, a5 = some ⟨bx, ox, none⟩ ∧ w6.cell? ⟨bx, ox + m, none⟩ = some (.int .i16 0)) := fun m h1 h2 => by
            obtain ⟨bx, ox, e, _, _, hc⟩ := HR6.out.cell (by rw [M.tk_length]; omega)
            refine ⟨bx, ox, e, ?_⟩
            rw [hc m (by rw [M.tk_length]; exact h2), M.tk_get h2, M.getD_out (by have := HK.out; omega)]
          go_loopw [14, 9] (fun j sh wx => ∃ m : Nat, K ≤ m ∧ m ≤ T ∧ j = .int .i64 m ∧ sh = .int .i64 0 ∧ wx = w6) (fun j _ _ => T - (intOf j).toNat)
          case atStart => exact ⟨K, Nat.le_refl _, by have := HK.out; omega, rfl, rfl, rfl⟩
          case round =>
            obtain ⟨m, hm1, hm2, rfl, rfl, hw⟩ := hrel
            subst hw
            by_cases hmt : m < T
            · obtain ⟨bx, ox, rfl, hcx⟩ := Hx5.out m hm1 hmt
              have m0 : (0 : Int) ≤ m := by omega
              have m1 : (m : Int) < T := by omega
              go_wp2
              go_roundw
              case rel => exact ⟨m + 1, by omega, by omega, by go_num, by first | rfl | trivial, by first | rfl | trivial⟩
              case measure => simp [intOf]; omega
            · obtain rfl : T = m := by omega
              go_wp2
              go_roundw
              case rel =>
                have hA := HA.out
                exact ⟨k + 1, q.drop T, A, B2, by omega, by go_num, rfl, HO6.out, (by rw [← HB22.out, List.append_assoc, List.take_append_drop]; exact hA), HAl.out, HB6.out⟩
              case measure => simp [intOf]; omega
        · have t1 : ¬ (k : Int) < Lt := by omega
          go_wp2_with (first
              | (go_at_call 17; refine hPut.mono ?_; clear hPut; rintro e w3 ⟨rfl, bel2, O2⟩
                 have HOz : Hid (Ord _ _ _ _ _ _ _ _ _) := O2.up
                 have HBz : Hid (Below _ _ _) := HBr.out.trans bel2
                 clear bel2 O2))
          go_roundw
          case rel => exact ⟨k + 1, q, A, B, by omega, by go_num, rfl, HOz.out, HA.out, HAl.out, HBz.out⟩
          case measure => simp [intOf]; omega
      · have hPut := ord_put _ _ _ q A B _ _ _ xs wr HO.out HX1.out hfit
        obtain ⟨Q, hQ⟩ : ∃ Q, Q = q ++ xs := ⟨_, rfl⟩
        obtain ⟨A2, hA2⟩ : ∃ A2, A2 = A ++ xs := ⟨_, rfl⟩
        have HA : Hid (A2 = B ++ Q) := by show A2 = B ++ Q; rw [hA2, hrl, hQ, List.append_assoc]
        have HAl : Hid (A2.length ≤ 4096 * (k + 1)) := by show _ ≤ _; rw [hA2, List.length_append]; omega
        have HQl : Hid (Q.length ≤ 4096) := by show _ ≤ _; rw [hQ, List.length_append]; omega
        have Hxl : Hid (xs.length ≤ 4096) := by show _ ≤ _; omega
        have HE : Hid (A ++ xs = A2) := hA2.symm
        rw [← hQ] at hPut
        clear hO hrl hln hbr hql hfit hQ hA2
        by_cases htk : k < Lt
        · have t1 : (k : Int) < Lt := by omega
          obtain ⟨bt, ot, rfl, hbt, ct⟩ := HT.out k htk
          have hT := HT256.out k
          generalize ts.getD k 0 = T at ct hT
          have T1 : (T : Int) ≤ 255 := by omega
          have T0 : (0 : Int) ≤ T := by omega
          have HT4 : Hid (T ≤ 255) := by show _ ≤ _; omega
          obtain ⟨K, hK⟩ : ∃ K, K = min Q.length T := ⟨_, rfl⟩
          have g4 : (if T < Q.length then (T : Int) else (Q.length : Int)) = (K : Int) := by split <;> omega
          have k0 : (0 : Int) ≤ K := by omega
          have k1 : (K : Int) ≤ T := by omega
          have HK : Hid _ := hK
          obtain ⟨B2, hB2⟩ : ∃ B2, B ++ Q.take T = B2 := ⟨_, rfl⟩
          have HB22 : Hid (B ++ Q.take T = B2) := hB2
          clear hK hT hB2
          go_wp2_with (first
              | (go_at_call 17; refine hPut.mono ?_; clear hPut; rintro e w2' ⟨rfl, bel2, O2⟩
                 have y2 : w2'.cell? ⟨b0, off + k, none⟩ = some (.slice ax xs.length cx) := (bel2.cell hbN).trans y1
                 have HX2 : Hid (Reads .i16 0 w1.heap.size w2' (.slice ax xs.length cx) xs) := HX1.out.below bel2 (Nat.le_refl _)
                 obtain ⟨i0, hqi, hgi⟩ := ord_in O2
                 have HQi : Hid (Que _ _ _ _) := hqi
                 have HGi : Hid _ := hgi
                 have HB2 : Hid (Below _ _ _) := HBr.out.trans bel2
                 clear hqi hgi bel2 O2)
              | (at_builtin; refine wpList_append_que rfl (.tmp 60) (.tmp 64) rfl i0 _ A rfl HQi.out 0 w1.heap.size _ _ _ xs rfl HX2.out (by have h2 := HAr.out; have h3 := Hxl.out; omega) ?_
                 intro r3 v3 w3 hq3 hb3 hr3 hn3 hs3
                 obtain ⟨bel3, O3⟩ := HGi.out r3 v3 w3 _ (HE.out ▸ hq3) hb3 hr3
                 obtain ⟨a3, c3, rfl⟩ := O3.forms.1
                 have HOz : Hid (Ord _ _ _ _ _ _ _ _ _) := O3
                 have HBz : Hid (Below _ _ _) := HB2.out.trans bel3
                 clear hq3 hb3 hr3 hn3 hs3 bel3 O3 HQi HGi)
              | (go_at_call 22; refine (ord_len _ _ _ _ _ _ _ _ _ HOz.out).mono ?_; rintro e w' ⟨rfl, hw⟩; rw [hw]; clear hw w'; have ct2 : w3.cell? ⟨bt, ot + k, none⟩ = some (.int .u8 T) := (HBz.out.cell (Nat.lt_of_lt_of_le hbt HB1.out.size)).trans ((HB1.out.cell hbt).trans ct); have hTk := ord_take _ _ _ T (T : Int) _ _ _ _ _ w3 HOz.out rfl (by have := HT4.out; omega))
              | (go_at_call 19; refine hTk.mono ?_; clear hTk; rintro e w5 ⟨a5, c5, rfl, R5, bel5, O5, s5⟩
                 obtain ⟨a6, hsl, R6⟩ := head_any R5 K (by rw [M.tk_length]; have := HK.out; omega) (by have := HK.out; have := HT4.out; omega)
                 have hsl5 := hsl w5
                 obtain ⟨o0, hq0, ho0, hg⟩ := ord_out O5
                 rw [HK.out, M.take_tk, ← HK.out] at R6
                 have HR5 : Hid (Reads _ _ _ _ _ _) := R5
                 have HR5' : Hid (Reads _ _ _ _ _ _) := R6
                 have HQ0 : Hid (Que _ _ _ _) := hq0
                 have HG : Hid _ := hg
                 have Ho0 : Hid _ := ho0
                 have HB5 : Hid (Below _ _ _) := HBz.out.trans bel5
                 have Hs5 : Hid _ := s5
                 clear R5 R6 hq0 hg ho0 bel5 O5 hsl s5)
              | (at_builtin; refine wpList_append_que rfl (.tmp 83) (.tmp 86) rfl o0 _ B rfl HQ0.out _ _ _ _ _ (Q.take T) rfl HR5'.out (by have h1 := HA.out; have h2 := HAl.out; have h3 := HQl.out; have h4 : A2.length = (B ++ Q).length := congrArg _ h1; rw [List.length_append] at h4; rw [List.length_take]; omega) ?_
                 intro r6 v6 w6 hq6 hb6 hr6 hn6 hs6
                 have HR6 : Hid (Reads _ _ _ w6 (.slice a5 T c5) (M.tk T Q)) := HR5.out.keep (fun j h1 h2 => hb6.block j h2 (by have := Ho0.out; omega))
                 obtain ⟨bel6, O6⟩ := HG.out r6 v6 w6 _ (HB22.out ▸ hq6) hb6 hr6
                 obtain ⟨a7, c7, rfl⟩ := O6.forms.2
                 have HO6 : Hid (Ord _ _ _ _ _ _ _ _ _) := O6
                 have HB6 : Hid (Below _ _ _) := HB5.out.trans bel6
                 clear hq6 hb6 hr6 hn6 hs6 bel6 O6))
          have Hx5 : Hid (∀ m, K ≤ m → m < T → ∃ bx ox, a5 = some ⟨bx, ox, none⟩ ∧ w6.cell? ⟨bx, ox + m, none⟩ = some (.int .i16 0)) := fun m h1 h2 => by
            obtain ⟨bx, ox, e, _, _, hc⟩ := HR6.out.cell (by rw [M.tk_length]; omega)
            refine ⟨bx, ox, e, ?_⟩
            rw [hc m (by rw [M.tk_length]; exact h2), M.tk_get h2, M.getD_out (by have := HK.out; omega)]
          go_loopw [14, 9] (fun j sh wx => ∃ m : Nat, K ≤ m ∧ m ≤ T ∧ j = .int .i64 m ∧ sh = .int .i64 0 ∧ wx = w6) (fun j _ _ => T - (intOf j).toNat)
          case atStart => exact ⟨K, Nat.le_refl _, by have := HK.out; omega, rfl, rfl, rfl⟩
          case round =>
            obtain ⟨m, hm1, hm2, rfl, rfl, hw⟩ := hrel
            subst hw
            by_cases hmt : m < T
            · obtain ⟨bx, ox, rfl, hcx⟩ := Hx5.out m hm1 hmt
              have m0 : (0 : Int) ≤ m := by omega
              have m1 : (m : Int) < T := by omega
              go_wp2
              go_roundw
              case rel => exact ⟨m + 1, by omega, by omega, by go_num, by first | rfl | trivial, by first | rfl | trivial⟩
              case measure => simp [intOf]; omega
            · obtain rfl : T = m := by omega
              go_wp2
              go_roundw
              case rel =>
                have hA := HA.out
                exact ⟨k + 1, Q.drop T, A2, B2, by omega, by go_num, rfl, HO6.out, (by rw [← HB22.out, List.append_assoc, List.take_append_drop]; exact hA), HAl.out, HB6.out⟩
              case measure => simp [intOf]; omega
        · have t1 : ¬ (k : Int) < Lt := by omega
          go_wp2_with (first
              | (go_at_call 17; refine hPut.mono ?_; clear hPut; rintro e w2' ⟨rfl, bel2, O2⟩
                 have y2 : w2'.cell? ⟨b0, off + k, none⟩ = some (.slice ax xs.length cx) := (bel2.cell hbN).trans y1
                 have HX2 : Hid (Reads .i16 0 w1.heap.size w2' (.slice ax xs.length cx) xs) := HX1.out.below bel2 (Nat.le_refl _)
                 obtain ⟨i0, hqi, hgi⟩ := ord_in O2
                 have HQi : Hid (Que _ _ _ _) := hqi
                 have HGi : Hid _ := hgi
                 have HB2 : Hid (Below _ _ _) := HBr.out.trans bel2
                 clear hqi hgi bel2 O2)
              | (at_builtin; refine wpList_append_que rfl (.tmp 60) (.tmp 64) rfl i0 _ A rfl HQi.out 0 w1.heap.size _ _ _ xs rfl HX2.out (by have h2 := HAr.out; have h3 := Hxl.out; omega) ?_
                 intro r3 v3 w3 hq3 hb3 hr3 hn3 hs3
                 obtain ⟨bel3, O3⟩ := HGi.out r3 v3 w3 _ (HE.out ▸ hq3) hb3 hr3
                 obtain ⟨a3, c3, rfl⟩ := O3.forms.1
                 have HOz : Hid (Ord _ _ _ _ _ _ _ _ _) := O3
                 have HBz : Hid (Below _ _ _) := HB2.out.trans bel3
                 clear hq3 hb3 hr3 hn3 hs3 bel3 O3 HQi HGi))
          go_roundw
          case rel => exact ⟨k + 1, Q, A2, B, by omega, by go_num, rfl, HOz.out, HA.out, HAl.out, HBz.out⟩
          case measure => simp [intOf]; omega
    · have i2 : ¬ (k : Int) < Ll := by omega
      clear HC
      by_cases htk0 : k < Lt
      · have HA : Hid (A = B ++ q) := hrl
        have HAl : Hid (A.length ≤ 4096 * (k + 1)) := by show _ ≤ _; omega
        have HQl : Hid (q.length ≤ 4096) := hql
        have HOz : Hid (Ord _ _ _ _ _ _ _ _ wr) := HO.out
        have HBz : Hid (Below _ _ wr) := HBr.out
        clear hO hrl hln hbr hql

        have t1 : (k : Int) < Lt := by omega
        obtain ⟨bt, ot, rfl, hbt, ct⟩ := HT.out k htk0
        have hT := HT256.out k
        generalize ts.getD k 0 = T at ct hT
        have T1 : (T : Int) ≤ 255 := by omega
        have T0 : (0 : Int) ≤ T := by omega
        have HT4 : Hid (T ≤ 255) := by show _ ≤ _; omega
        obtain ⟨K, hK⟩ : ∃ K, K = min q.length T := ⟨_, rfl⟩
        have g4 : (if T < q.length then (T : Int) else (q.length : Int)) = (K : Int) := by split <;> omega
        have k0 : (0 : Int) ≤ K := by omega
        have k1 : (K : Int) ≤ T := by omega
        have HK : Hid _ := hK
        obtain ⟨B2, hB2⟩ : ∃ B2, B ++ q.take T = B2 := ⟨_, rfl⟩
        have HB22 : Hid (B ++ q.take T = B2) := hB2
        clear hK hT hB2
        go_wp2_with (first
            | (go_at_call 22; refine (ord_len _ _ _ _ _ _ _ _ _ HOz.out).mono ?_; rintro e w' ⟨rfl, hw⟩; rw [hw]; clear hw w'; have ct2 : wr.cell? ⟨bt, ot + k, none⟩ = some (.int .u8 T) := (HBz.out.cell (Nat.lt_of_lt_of_le hbt HB1.out.size)).trans ((HB1.out.cell hbt).trans ct); have hTk := ord_take _ _ _ T (T : Int) _ _ _ _ _ wr HOz.out rfl (by have := HT4.out; omega))
            | (go_at_call 19; refine hTk.mono ?_; clear hTk; rintro e w5 ⟨a5, c5, rfl, R5, bel5, O5, s5⟩
               obtain ⟨a6, hsl, R6⟩ := head_any R5 K (by rw [M.tk_length]; have := HK.out; omega) (by have := HK.out; have := HT4.out; omega)
               have hsl5 := hsl w5
               obtain ⟨o0, hq0, ho0, hg⟩ := ord_out O5
               rw [HK.out, M.take_tk, ← HK.out] at R6
               have HR5 : Hid (Reads _ _ _ _ _ _) := R5
               have HR5' : Hid (Reads _ _ _ _ _ _) := R6
               have HQ0 : Hid (Que _ _ _ _) := hq0
               have HG : Hid _ := hg
               have Ho0 : Hid _ := ho0
               have HB5 : Hid (Below _ _ _) := HBz.out.trans bel5
               have Hs5 : Hid _ := s5
               clear R5 R6 hq0 hg ho0 bel5 O5 hsl s5)
            | (at_builtin; refine wpList_append_que rfl (.tmp 83) (.tmp 86) rfl o0 _ B rfl HQ0.out _ _ _ _ _ (q.take T) rfl HR5'.out (by have h1 := HA.out; have h2 := HAl.out; have h3 := HQl.out; have h4 : A.length = (B ++ q).length := congrArg _ h1; rw [List.length_append] at h4; rw [List.length_take]; omega) ?_
               intro r6 v6 w6 hq6 hb6 hr6 hn6 hs6
               have HR6 : Hid (Reads _ _ _ w6 (.slice a5 T c5) (M.tk T q)) := HR5.out.keep (fun j h1 h2 => hb6.block j h2 (by have := Ho0.out; omega))
               obtain ⟨bel6, O6⟩ := HG.out r6 v6 w6 _ (HB22.out ▸ hq6) hb6 hr6
               obtain ⟨a7, c7, rfl⟩ := O6.forms.2
               have HO6 : Hid (Ord _ _ _ _ _ _ _ _ _) := O6
               have HB6 : Hid (Below _ _ _) := HB5.out.trans bel6
               clear hq6 hb6 hr6 hn6 hs6 bel6 O6))
        have Hx5 : Hid (∀ m, K ≤ m → m < T → ∃ bx ox, a5 = some ⟨bx, ox, none⟩ ∧ w6.cell? ⟨bx, ox + m, none⟩ = some (.int .i16 0)) := fun m h1 h2 => by
          obtain ⟨bx, ox, e, _, _, hc⟩ := HR6.out.cell (by rw [M.tk_length]; omega)
          refine ⟨bx, ox, e, ?_⟩
          rw [hc m (by rw [M.tk_length]; exact h2), M.tk_get h2, M.getD_out (by have := HK.out; omega)]
        go_loopw [14, 9] (fun j sh wx => ∃ m : Nat, K ≤ m ∧ m ≤ T ∧ j = .int .i64 m ∧ sh = .int .i64 0 ∧ wx = w6) (fun j _ _ => T - (intOf j).toNat)
        case atStart => exact ⟨K, Nat.le_refl _, by have := HK.out; omega, rfl, rfl, rfl⟩
        case round =>
          obtain ⟨m, hm1, hm2, rfl, rfl, hw⟩ := hrel
          subst hw
          by_cases hmt : m < T
          · obtain ⟨bx, ox, rfl, hcx⟩ := Hx5.out m hm1 hmt
            have m0 : (0 : Int) ≤ m := by omega
            have m1 : (m : Int) < T := by omega
            go_wp2
            go_roundw
            case rel => exact ⟨m + 1, by omega, by omega, by go_num, by first | rfl | trivial, by first | rfl | trivial⟩
            case measure => simp [intOf]; omega
          · obtain rfl : T = m := by omega
            go_wp2
            go_roundw
            case rel =>
              have hA := HA.out
              exact ⟨k + 1, q.drop T, A, B2, by omega, by go_num, rfl, HO6.out, (by rw [← HB22.out, List.append_assoc, List.take_append_drop]; exact hA), HAl.out, HB6.out⟩
            case measure => simp [intOf]; omega
      · have t2 : ¬ (k : Int) < Lt := by omega
        have HA : Hid (A = B ++ q) := hrl
        have hA1 : Hid (A.length ≤ 1000000) := by show _ ≤ _; omega
        have hTk := ord_take _ _ _ q.length (q.length : Int) q A B _ _ wr hO rfl hql
        rw [M.tk_all, List.drop_eq_nil_of_le (Nat.le_refl _)] at hTk
        clear hrl hln hO
        go_wp2_with (first
          | (go_at_call 22; refine (ord_len _ _ _ _ _ _ _ _ _ HO.out).mono ?_; rintro e w' ⟨rfl, hw⟩; rw [hw]; clear hw w')
          | (go_at_call 19; refine hTk.mono ?_; clear hTk; rintro e w5 ⟨a5, c5, rfl, R5, bel5, O5, s5⟩
             obtain ⟨o0, hq0, ho0, hg⟩ := ord_out O5
             have HR5 : Hid (Reads _ _ _ _ _ _) := R5
             have HQ0 : Hid (Que _ _ _ _) := hq0
             have HG : Hid _ := hg
             have HB5 : Hid (Below _ _ _) := HBr.out.trans bel5
             clear R5 hq0 hg ho0 bel5 O5 s5)
          | (at_builtin; refine wpList_append_que rfl (.tmp 102) (.tmp 106) rfl o0 _ B rfl HQ0.out _ _ _ _ _ q rfl HR5.out (by have h1 := HA.out; have h2 := hA1.out; have h4 : A.length = (B ++ q).length := congrArg _ h1; rw [List.length_append] at h4; omega) ?_
             intro r6 v6 w6 hq6 hb6 hr6 hn6 hs6
             obtain ⟨bel6, O6⟩ := HG.out r6 v6 w6 _ (HA.out.symm ▸ hq6) hb6 hr6
             obtain ⟨a7, c7, rfl⟩ := O6.forms.2
             obtain ⟨⟨lo1, hi1, R1⟩, ⟨lo2, hi2, R2⟩⟩ := O6.reads
             have HR1 : Hid (Reads _ _ _ _ _ _) := R1
             have HR2 : Hid (Reads _ _ _ _ _ _) := R2
             have HB6 : Hid (Below _ _ _) := HB5.out.trans bel6
             clear hq6 hb6 hr6 hn6 hs6 bel6 O6 R1 R2)
          | (go_at_call 13; refine (same16b _ _ _ _ _ _ A _ HR1.out HR2.out hA1.out).mono ?_; rintro e w7 ⟨rfl, bel7, sz7⟩; have HB7 : Hid (Below _ _ _) := bel7; clear bel7 sz7))
        go_ret
        have b6 := HB6.out
        exact ⟨rfl, (HB1.out.trans (Bits.Below.less b6 HB1.out.size)).trans (Bits.Below.less HB7.out (Nat.le_trans HB1.out.size b6.size))⟩

theorem PcmOrder_walk (v u : Value) (l : List (List Int)) (ts : List Nat) (w : World) (h : Poly.Rows .i16 0 w.heap.size w v l) (ht : Byt.Given w u ts) :
    Calls Try.prog 6 #[v, u] w fun e w' => e = .returned (.bool true) ∧ Below w.heap.size w w' := by
  rcases (by omega : (40 < l.length ∨ 40 < ts.length) ∨ (l.length ≤ 40 ∧ ts.length ≤ 40)) with hl | hl
  · exact Order_far v u l ts w h ht hl
  · exact Order_ok v u l ts w h ht hl.1 hl.2

end Pcm
end Go.Proofs.Ytnnljamkomlglaa
