/-
  The walk of LappedForgets. Conditions: as the law has them; the polynomial stands.
-/
import Derived.Test.YtjfhlaahgfdmnaaDoorLapdFour
namespace Go.Proofs.YtjfhlaahgfdmnaaDoor
set_option linter.unusedVariables false
open Go.RowKit
namespace Lapd
open Bank (Blk But)
open Poly (Reads enc enc_get enc_length enc_rep enc_one fit16 fit32 wf64 wf32 Gat reads_blk reads_own cell_keep below_but below_drewN below_drew alloc_size make16 make32 zeros16 zeros32 same16 same32 reads_new16 reads_new32)

set_option maxRecDepth 100000 in
theorem forgets_long (u : Int) (r : Bool) (hu : 0 ≤ u ∧ u ≤ 255) (a b : Option Addr) (Lp cp L c : Nat) (w : World) (hT : Wave.Tab w) (h : 300 < Lp ∨ 300 < L) :
    Calls Tryd.prog 6 #[.int .u8 u, .slice a Lp cp, .slice b L c, .bool r] w fun e w' => e = .returned (.bool true) ∧ Below w.heap.size w w' := by
  have hnot : ∀ (x : Bool) (w : World), (Op.unary .not (.bool x)).run Tryd.prog w = .ok (.bool (!x)) w := fun _ _ => rfl
  have HA := alive_any w hT
  have hlen : ∀ wa, Below w.heap.size w wa → Calls Tryd.prog 15 #[.int .u8 u] wa fun e w1 => ∃ n : Nat, e = .returned (.int .i64 n) ∧ Below w.heap.size w w1 := by
    intro wa bela
    refine (length_any u wa hu.1 hu.2).mono ?_
    rintro e w1 ⟨n, rfl, _, bel1⟩
    exact ⟨n, rfl, bela.trans (bel1.mono bela.size)⟩
  have HL : Hid _ := hlen
  clear hlen hT hu
  by_cases h1 : 300 < Lp
  · have h1' : (300 : Int) < Lp := by omega
    go_enter Tryd.func6, Tryd.ntmps6
    go_wp2_with (first
      | (go_at_call 7; refine HA.mono ?_; clear HA; rintro e wa ⟨rfl, bela⟩; have h2 := HL.out wa bela; clear HL bela)
      | (go_at_call 15; refine h2.mono ?_; clear h2; rintro e w1 ⟨n, rfl, b1⟩))
    go_ret
    exact ⟨rfl, b1⟩
  · have h1' : ¬ (300 : Int) < Lp := by omega
    have h3' : (300 : Int) < L := by omega
    go_enter Tryd.func6, Tryd.ntmps6
    go_wp2_with (first
      | (go_at_call 7; refine HA.mono ?_; clear HA; rintro e wa ⟨rfl, bela⟩; have h2 := HL.out wa bela; clear HL bela)
      | (go_at_call 15; refine h2.mono ?_; clear h2; rintro e w1 ⟨n, rfl, b1⟩))
    go_ret
    exact ⟨rfl, b1⟩

set_option maxRecDepth 100000 in
set_option maxHeartbeats 1000000 in
theorem forgets_reset (u : Int) (hu : 0 ≤ u ∧ u ≤ 255) (ps l : List Int) (vp vl : Value) (w : World) (hT : Wave.Tab w) (hps : Reads .i16 0 w.heap.size w vp ps) (hl : Reads .i16 0 w.heap.size w vl l) (h1 : ps.length ≤ 300) (h2 : l.length ≤ 300) :
    Calls Tryd.prog 6 #[.int .u8 u, vp, vl, .bool true] w fun e w' => e = .returned (.bool true) ∧ Below w.heap.size w w' := by
  have hnot : ∀ (x : Bool) (w : World), (Op.unary .not (.bool x)).run Tryd.prog w = .ok (.bool (!x)) w := fun _ _ => rfl
  have HA := alive_any w hT
  have hset : ∀ wa, Below w.heap.size w wa → Calls Tryd.prog 15 #[.int .u8 u] wa fun e w1 => ∃ n : Nat, e = .returned (.int .i64 n) ∧ M.len9 n ∧
      Calls Tryd.prog 9 #[] w1 fun e w1 => ∃ bp, e = .returned (.pointer bp) ∧ Calls Tryd.prog 10 #[.pointer bp, .int .i64 n] w1 fun e w2 => ∃ ga, e = .returned (.tuple #[.pointer (some ⟨ga + 1, 0, none⟩), .int .i64 0]) ∧
      Calls Tryd.prog 10 #[.pointer bp, .int .i64 n] w2 fun e w3 => ∃ gc, e = .returned (.tuple #[.pointer (some ⟨gc + 1, 0, none⟩), .int .i64 0]) ∧
        Calls Tryd.prog 11 #[.pointer bp, .int .i64 n] w3 fun e w4 => ∃ gu, e = .returned (.tuple #[.pointer (some ⟨gu + 1, 0, none⟩), .int .i64 0]) ∧
          Calls Tryd.prog 11 #[.pointer bp, .int .i64 n] w4 fun e w5 => ∃ gv, e = .returned (.tuple #[.pointer (some ⟨gv + 1, 0, none⟩), .int .i64 0]) ∧ Four n ga gc gu gv (List.replicate n 0) (List.replicate n 0) (List.replicate n 0) (List.replicate n 0) w w5 := by
    intro wa bela
    refine (length_any u wa hu.1 hu.2).mono ?_
    rintro e w1 ⟨n, rfl, hn, bel1⟩
    exact ⟨n, rfl, hn, made4 hn hT (bela.trans (bel1.mono bela.size))⟩
  have HSet : Hid _ := hset
  have hmk : ∀ (n : Nat) (wx : World), M.len9 n → (Instr.makeSlice 23 (.int .i64 n) (.int .i64 n)).run Tryd.prog wx = .ok (.slice (some ⟨wx.heap.size, 0, none⟩) n n) (wx.alloc (.cells (enc .i16 (List.replicate n 0)).toArray 56)) := fun n wx hn => make16 wx n (by have := len_bd hn; omega)
  have HMk : Hid _ := hmk
  have hmk2 : ∀ (n : Nat) (wx : World), M.len9 n → (Instr.makeSlice 40 (.int .i64 n) (.int .i64 n)).run Tryd.prog wx = .ok (.slice (some ⟨wx.heap.size, 0, none⟩) n n) (wx.alloc (.cells (enc .i32 (List.replicate n 0)).toArray 21)) := fun n wx hn => make32 wx n (by have := len_bd hn; omega)
  have HMk2 : Hid _ := hmk2
  have HPr : Hid (Reads _ _ _ _ _ _) := hps
  have HLr : Hid (Reads _ _ _ _ _ _) := hl
  obtain ⟨pa, pc, rfl⟩ := hps.form
  obtain ⟨a, c, rfl⟩ := hl.form
  obtain ⟨Lp, hLp⟩ : ∃ L, ps.length = L := ⟨_, rfl⟩
  obtain ⟨L, hL⟩ : ∃ L, l.length = L := ⟨_, rfl⟩
  rw [hLp] at HPr h1 ⊢
  rw [hL] at HLr h2 ⊢
  have HLe : Hid (l.length = L) := hL
  have HPe : Hid (ps.length = Lp) := hLp
  have i1 : ¬ (300 : Int) < Lp := by omega
  have i2 : ¬ (300 : Int) < L := by omega
  have i3 : (Lp : Int) ≤ 300 := by omega
  have i4 : (L : Int) ≤ 300 := by omega
  clear hset hmk hmk2 hl hps hL hLp hT hu
  go_enter Tryd.func6, Tryd.ntmps6
  go_wp2_with (first
    | (go_at_call 7; refine HA.mono ?_; clear HA; rintro e wa ⟨rfl, bela⟩; have k1 := HSet.out wa bela; clear HSet bela)
    | (go_at_call 15; refine k1.mono ?_; clear k1; rintro e w1 ⟨n, rfl, hn, k2⟩; obtain ⟨n0, n1⟩ := len_bd hn; have n0' : (40 : Int) ≤ n := (by omega); have n1' : (n : Int) ≤ 120 := (by omega); have HN : Hid (M.len9 n) := hn; clear hn n0 n1)
    | (go_at_call 9; refine k2.mono ?_; clear k2; rintro e w2 ⟨bp, rfl, k3⟩)
    | (go_at_call 10; refine k3.mono ?_; clear k3; rintro e w3 ⟨ga, rfl, k4⟩)
    | (go_at_call 10; refine k4.mono ?_; clear k4; rintro e w4 ⟨gc, rfl, k5⟩)
    | (go_at_call 11; refine k5.mono ?_; clear k5; rintro e w5 ⟨gu, rfl, k6⟩)
    | (go_at_call 11; refine k6.mono ?_; clear k6; rintro e w6 ⟨gv, rfl, hF⟩; have HF : Hid (Four _ _ _ _ _ _ _ _ _ _ _) := hF; clear hF))
  go_loopw [19] (fun i wr => ∃ (p : Nat) (oa qu : List Int), i = .int .i64 p ∧ p ≤ 420 ∧ Four n ga gc gu gv oa (List.replicate n 0) qu (List.replicate n 0) w wr) (fun i _ => 1000 - (intOf i).toNat)
  case atStart => exact ⟨0, _, _, rfl, by omega, HF.out⟩
  case round =>
    clear HF
    obtain ⟨p, oa, qu, rfl, hp, hF⟩ := hrel
    by_cases hlt : p < Lp
    · have hlt' : (p : Int) < Lp := by omega
      have hst := step1 HN.out hF HPr.out (by rw [HPe.out]; exact hlt) (by rw [HPe.out]; omega)
      clear hF
      go_wp2_with (first
        | (go_at_call 16; refine hst.mono ?_; clear hst; rintro e w4 ⟨g, rfl, h4⟩)
        | (go_at_call 17; refine h4.mono ?_; clear h4; rintro e w5 ⟨g2, rfl, h5⟩)
        | (go_at_call 20; refine h5.mono ?_; clear h5; rintro e w6 ⟨g3, rfl, oa', qu', hF⟩; have HF : Hid (Four _ _ _ _ _ _ _ _ _ _ _) := hF; clear hF))
      go_roundw
      case rel => exact ⟨p + n, _, _, by go_num, by omega, HF.out⟩
      case measure => simp [intOf]; omega
    · have hlt' : ¬ (p : Int) < Lp := by omega
      have hres := resets HN.out hF
      clear hF
      go_wp2_with (first
        | (go_at_call 23; refine hres.mono ?_; clear hres; rintro e w8 ⟨rfl, h9⟩)
        | (go_at_call 24; refine h9.mono ?_; clear h9; rintro e w9 ⟨rfl, hF9⟩; have HF9 : Hid (Four _ _ _ _ _ _ _ _ _ _ _) := hF9; clear hF9))
      go_loopw [22] (fun i wx => ∃ (p : Nat) (o q : List Int), i = .int .i64 p ∧ p ≤ 420 ∧ Four n ga gc gu gv o o q q w wx) (fun i _ => 1000 - (intOf i).toNat)
      case atStart => exact ⟨0, _, _, rfl, by omega, HF9.out⟩
      case round =>
        clear HF9
        obtain ⟨q, o, ov, rfl, hq, hF⟩ := hrel
        by_cases hq2 : q < L
        · have hq' : (q : Int) < L := by omega
          have hst := step2 HN.out hF HLr.out (by rw [HLe.out]; exact hq2) (by rw [HLe.out]; omega)
          clear hF
          go_wp2_with (first
            | (go_at_call 16; refine hst.mono ?_; clear hst; rintro e v1 ⟨g1, rfl, m2⟩)
            | (go_at_call 17; refine m2.mono ?_; clear m2; rintro e v2 ⟨g2, rfl, m3⟩)
            | (go_at_call 16; refine m3.mono ?_; clear m3; rintro e v3 ⟨g3, rfl, m4⟩)
            | (go_at_call 17; refine m4.mono ?_; clear m4; rintro e v4 ⟨g4, rfl, m5⟩)
            | (go_at_call 20; refine m5.mono ?_; clear m5; rintro e v5 ⟨g5, rfl, m6⟩)
            | (go_at_call 20; refine m6.mono ?_; clear m6; rintro e v6 ⟨g6, rfl, m7⟩)
            | (go_at_call 18; refine m7.mono ?_; clear m7; rintro e v7 ⟨rfl, m8⟩)
            | (go_at_call 18; refine m8.mono ?_; clear m8; rintro e v8 ⟨rfl, o', q', hF⟩; have HF : Hid (Four _ _ _ _ _ _ _ _ _ _ _) := hF; clear hF))
          go_roundw
          case rel => exact ⟨q + n, _, _, by go_num, by omega, HF.out⟩
          case measure => simp [intOf]; omega
        · have hq' : ¬ (q : Int) < L := by omega
          have HB : Hid (Below _ _ _) := hF.bel
          clear hF
          go_wp2_with (first
            | (go_at_call 23; refine (lapReset_nil _).mono ?_; rintro e w' ⟨rfl, hw⟩; rw [hw]; clear hw w')
            | (go_at_call 24; refine (unlReset_nil _).mono ?_; rintro e w' ⟨rfl, hw⟩; rw [hw]; clear hw w')
            | (go_at_call 17; refine (lapFeed_nil _ _).mono ?_; rintro e w' ⟨rfl, hw⟩; rw [hw]; clear hw w')
            | (go_at_call 20; refine (unlFeed_nil _ _).mono ?_; rintro e w' ⟨rfl, hw⟩; rw [hw]; clear hw w'))
          go_ret
          exact ⟨rfl, HB.out⟩

set_option maxRecDepth 100000 in
set_option maxHeartbeats 1000000 in
theorem forgets_blank (u : Int) (hu : 0 ≤ u ∧ u ≤ 255) (ps l : List Int) (vp vl : Value) (w : World) (hT : Wave.Tab w) (hps : Reads .i16 0 w.heap.size w vp ps) (hl : Reads .i16 0 w.heap.size w vl l) (h1 : ps.length ≤ 300) (h2 : l.length ≤ 300) :
    Calls Tryd.prog 6 #[.int .u8 u, vp, vl, .bool false] w fun e w' => e = .returned (.bool true) ∧ Below w.heap.size w w' := by
  have hnot : ∀ (x : Bool) (w : World), (Op.unary .not (.bool x)).run Tryd.prog w = .ok (.bool (!x)) w := fun _ _ => rfl
  have HA := alive_any w hT
  have hset : ∀ wa, Below w.heap.size w wa → Calls Tryd.prog 15 #[.int .u8 u] wa fun e w1 => ∃ n : Nat, e = .returned (.int .i64 n) ∧ M.len9 n ∧
      Calls Tryd.prog 9 #[] w1 fun e w1 => ∃ bp, e = .returned (.pointer bp) ∧ Calls Tryd.prog 10 #[.pointer bp, .int .i64 n] w1 fun e w2 => ∃ ga, e = .returned (.tuple #[.pointer (some ⟨ga + 1, 0, none⟩), .int .i64 0]) ∧
      Calls Tryd.prog 10 #[.pointer bp, .int .i64 n] w2 fun e w3 => ∃ gc, e = .returned (.tuple #[.pointer (some ⟨gc + 1, 0, none⟩), .int .i64 0]) ∧
        Calls Tryd.prog 11 #[.pointer bp, .int .i64 n] w3 fun e w4 => ∃ gu, e = .returned (.tuple #[.pointer (some ⟨gu + 1, 0, none⟩), .int .i64 0]) ∧
          Calls Tryd.prog 11 #[.pointer bp, .int .i64 n] w4 fun e w5 => ∃ gv, e = .returned (.tuple #[.pointer (some ⟨gv + 1, 0, none⟩), .int .i64 0]) ∧ Four n ga gc gu gv (List.replicate n 0) (List.replicate n 0) (List.replicate n 0) (List.replicate n 0) w w5 := by
    intro wa bela
    refine (length_any u wa hu.1 hu.2).mono ?_
    rintro e w1 ⟨n, rfl, hn, bel1⟩
    exact ⟨n, rfl, hn, made4 hn hT (bela.trans (bel1.mono bela.size))⟩
  have HSet : Hid _ := hset
  have hmk : ∀ (n : Nat) (wx : World), M.len9 n → (Instr.makeSlice 23 (.int .i64 n) (.int .i64 n)).run Tryd.prog wx = .ok (.slice (some ⟨wx.heap.size, 0, none⟩) n n) (wx.alloc (.cells (enc .i16 (List.replicate n 0)).toArray 56)) := fun n wx hn => make16 wx n (by have := len_bd hn; omega)
  have HMk : Hid _ := hmk
  have hmk2 : ∀ (n : Nat) (wx : World), M.len9 n → (Instr.makeSlice 40 (.int .i64 n) (.int .i64 n)).run Tryd.prog wx = .ok (.slice (some ⟨wx.heap.size, 0, none⟩) n n) (wx.alloc (.cells (enc .i32 (List.replicate n 0)).toArray 21)) := fun n wx hn => make32 wx n (by have := len_bd hn; omega)
  have HMk2 : Hid _ := hmk2
  have HPr : Hid (Reads _ _ _ _ _ _) := hps
  have HLr : Hid (Reads _ _ _ _ _ _) := hl
  obtain ⟨pa, pc, rfl⟩ := hps.form
  obtain ⟨a, c, rfl⟩ := hl.form
  obtain ⟨Lp, hLp⟩ : ∃ L, ps.length = L := ⟨_, rfl⟩
  obtain ⟨L, hL⟩ : ∃ L, l.length = L := ⟨_, rfl⟩
  rw [hLp] at HPr h1 ⊢
  rw [hL] at HLr h2 ⊢
  have HLe : Hid (l.length = L) := hL
  have HPe : Hid (ps.length = Lp) := hLp
  have i1 : ¬ (300 : Int) < Lp := by omega
  have i2 : ¬ (300 : Int) < L := by omega
  have i3 : (Lp : Int) ≤ 300 := by omega
  have i4 : (L : Int) ≤ 300 := by omega
  clear hset hmk hmk2 hl hps hL hLp hT hu
  go_enter Tryd.func6, Tryd.ntmps6
  go_wp2_with (first
    | (go_at_call 7; refine HA.mono ?_; clear HA; rintro e wa ⟨rfl, bela⟩; have k1 := HSet.out wa bela; clear HSet bela)
    | (go_at_call 15; refine k1.mono ?_; clear k1; rintro e w1 ⟨n, rfl, hn, k2⟩; obtain ⟨n0, n1⟩ := len_bd hn; have n0' : (40 : Int) ≤ n := (by omega); have n1' : (n : Int) ≤ 120 := (by omega); have HN : Hid (M.len9 n) := hn; clear hn n0 n1)
    | (go_at_call 9; refine k2.mono ?_; clear k2; rintro e w2 ⟨bp, rfl, k3⟩)
    | (go_at_call 10; refine k3.mono ?_; clear k3; rintro e w3 ⟨ga, rfl, k4⟩)
    | (go_at_call 10; refine k4.mono ?_; clear k4; rintro e w4 ⟨gc, rfl, k5⟩)
    | (go_at_call 11; refine k5.mono ?_; clear k5; rintro e w5 ⟨gu, rfl, k6⟩)
    | (go_at_call 11; refine k6.mono ?_; clear k6; rintro e w6 ⟨gv, rfl, hF⟩; have HF : Hid (Four _ _ _ _ _ _ _ _ _ _ _) := hF; clear hF))
  go_loopw [19] (fun i wr => ∃ (p : Nat) (oa qu : List Int), i = .int .i64 p ∧ p ≤ 420 ∧ Four n ga gc gu gv oa (List.replicate n 0) qu (List.replicate n 0) w wr) (fun i _ => 1000 - (intOf i).toNat)
  case atStart => exact ⟨0, _, _, rfl, by omega, HF.out⟩
  case round =>
    clear HF
    obtain ⟨p, oa, qu, rfl, hp, hF⟩ := hrel
    by_cases hlt : p < Lp
    · have hlt' : (p : Int) < Lp := by omega
      have hst := step1 HN.out hF HPr.out (by rw [HPe.out]; exact hlt) (by rw [HPe.out]; omega)
      clear hF
      go_wp2_with (first
        | (go_at_call 16; refine hst.mono ?_; clear hst; rintro e w4 ⟨g, rfl, h4⟩)
        | (go_at_call 17; refine h4.mono ?_; clear h4; rintro e w5 ⟨g2, rfl, h5⟩)
        | (go_at_call 20; refine h5.mono ?_; clear h5; rintro e w6 ⟨g3, rfl, oa', qu', hF⟩; have HF : Hid (Four _ _ _ _ _ _ _ _ _ _ _) := hF; clear hF))
      go_roundw
      case rel => exact ⟨p + n, _, _, by go_num, by omega, HF.out⟩
      case measure => simp [intOf]; omega
    · have hlt' : ¬ (p : Int) < Lp := by omega
      have hbl := blanks HN.out hF
      have hmkA := HMk.out n wr HN.out
      have hmkB := fun wx => HMk2.out n wx HN.out
      generalize (enc .i16 (List.replicate n 0)).toArray = c16 at hmkA hbl
      generalize (enc .i32 (List.replicate n 0)).toArray = c32 at hmkB hbl
      clear hF
      go_wp2_with (first
        | (go_at_call 17; refine hbl.mono ?_; clear hbl; rintro e w8 ⟨g8, rfl, h9⟩; have hmkC := hmkB w8; clear hmkB)
        | (go_at_call 20; refine h9.mono ?_; clear h9; rintro e w9 ⟨g9, rfl, hF9⟩; have HF9 : Hid (Four _ _ _ _ _ _ _ _ _ _ _) := hF9; clear hF9))
      go_loopw [22] (fun i wx => ∃ (p : Nat) (o q : List Int), i = .int .i64 p ∧ p ≤ 420 ∧ Four n ga gc gu gv o o q q w wx) (fun i _ => 1000 - (intOf i).toNat)
      case atStart => exact ⟨0, _, _, rfl, by omega, HF9.out⟩
      case round =>
        clear HF9
        obtain ⟨q, o, ov, rfl, hq, hF⟩ := hrel
        by_cases hq2 : q < L
        · have hq' : (q : Int) < L := by omega
          have hst := step2 HN.out hF HLr.out (by rw [HLe.out]; exact hq2) (by rw [HLe.out]; omega)
          clear hF
          go_wp2_with (first
            | (go_at_call 16; refine hst.mono ?_; clear hst; rintro e v1 ⟨g1, rfl, m2⟩)
            | (go_at_call 17; refine m2.mono ?_; clear m2; rintro e v2 ⟨g2, rfl, m3⟩)
            | (go_at_call 16; refine m3.mono ?_; clear m3; rintro e v3 ⟨g3, rfl, m4⟩)
            | (go_at_call 17; refine m4.mono ?_; clear m4; rintro e v4 ⟨g4, rfl, m5⟩)
            | (go_at_call 20; refine m5.mono ?_; clear m5; rintro e v5 ⟨g5, rfl, m6⟩)
            | (go_at_call 20; refine m6.mono ?_; clear m6; rintro e v6 ⟨g6, rfl, m7⟩)
            | (go_at_call 18; refine m7.mono ?_; clear m7; rintro e v7 ⟨rfl, m8⟩)
            | (go_at_call 18; refine m8.mono ?_; clear m8; rintro e v8 ⟨rfl, o', q', hF⟩; have HF : Hid (Four _ _ _ _ _ _ _ _ _ _ _) := hF; clear hF))
          go_roundw
          case rel => exact ⟨q + n, _, _, by go_num, by omega, HF.out⟩
          case measure => simp [intOf]; omega
        · have hq' : ¬ (q : Int) < L := by omega
          have HB : Hid (Below _ _ _) := hF.bel
          clear hF
          go_wp2_with (first
            | (go_at_call 23; refine (lapReset_nil _).mono ?_; rintro e w' ⟨rfl, hw⟩; rw [hw]; clear hw w')
            | (go_at_call 24; refine (unlReset_nil _).mono ?_; rintro e w' ⟨rfl, hw⟩; rw [hw]; clear hw w')
            | (go_at_call 17; refine (lapFeed_nil _ _).mono ?_; rintro e w' ⟨rfl, hw⟩; rw [hw]; clear hw w')
            | (go_at_call 20; refine (unlFeed_nil _ _).mono ?_; rintro e w' ⟨rfl, hw⟩; rw [hw]; clear hw w'))
          go_ret
          exact ⟨rfl, HB.out⟩

theorem LappedForgets_walk (u : Int) (u0 : (Lit.int .u8 u).wf = true) (r : Bool) (ps l : List Int) (vp vl : Value) (w : World) (hT : Wave.Tab w) (hps : Reads .i16 0 w.heap.size w vp ps) (hl : Reads .i16 0 w.heap.size w vl l) :
    Calls Tryd.prog 6 #[.int .u8 u, vp, vl, .bool r] w fun e w' => e = .returned (.bool true) ∧ Below w.heap.size w w' := by
  have hu : 0 ≤ u ∧ u ≤ 255 := by simpa [Lit.wf, IntKind.min, IntKind.max, IntKind.signed, IntKind.bits] using u0
  by_cases h : 300 < ps.length ∨ 300 < l.length
  · obtain ⟨pa, pc, rfl⟩ := hps.form
    obtain ⟨a, c, rfl⟩ := hl.form
    exact forgets_long u r hu pa a ps.length pc l.length c w hT h
  · cases r
    · exact forgets_blank u hu ps l vp vl w hT hps hl (by omega) (by omega)
    · exact forgets_reset u hu ps l vp vl w hT hps hl (by omega) (by omega)

end Lapd
end Go.Proofs.YtjfhlaahgfdmnaaDoor
