/-
  Feeding a lapper and an unlapper; resetting them. Conditions: as told at each.
-/
import Derived.Test.YtjfhlaahgfdmnaaDoorLapdSeen
import Derived.Test.YtjfhlaahgfdmnaaDoorLapdNum
namespace Go.Proofs.YtjfhlaahgfdmnaaDoor
set_option linter.unusedVariables false
open Go.RowKit
namespace Lapd
open Bank (Blk But)
open Poly (Reads enc enc_get enc_length enc_rep enc_one fit16 fit32 Fill make16 make32 reads_blk reads_own cell_keep below_but below_drewN below_drew alloc_size zeros16 zeros32 add_off run_clear_row)

theorem Ob.cells {k : IntKind} {te ty : TypeId} {lo gl n : Nat} {xs : List Int} {w : World} (h : Ob k te ty lo gl n xs w) : w.cell? ⟨gl + 1, 0, none⟩ = some (.int .i64 n) ∧ w.cell? ⟨gl + 1, 3, none⟩ = some (.slice (some ⟨gl, 0, none⟩) n n) := by
  obtain ⟨h0, h1, h2, h3, h4, wa, wc, ta, tc, h5, h6, h7⟩ := h
  exact ⟨h5.cell (o := 0) rfl, h5.cell (o := 3) rfl⟩

theorem lapReset (lo gl n : Nat) (xs : List Int) (w : World) (h : Lap lo gl n xs w) (hn : 1 ≤ n) :
    Calls Tryd.prog 23 #[.pointer (some ⟨gl + 1, 0, none⟩)] w fun e w' => e = .returned (.tuple #[]) ∧ Lap lo gl n (List.replicate n 0) w' ∧ But gl w w' := by
  obtain ⟨c0, c3⟩ := h.cells
  have hcl : ∀ ty, (Builtin.clear_ #[23] ty #[.slice (some ⟨gl, 0, none⟩) n n]).run Tryd.prog w = .ok (.tuple #[]) (w.setRow gl (List.replicate n (.int .i16 0)).toArray) := fun ty =>
    run_clear_row w 23 56 ty (.int .i16 0) Tryd.underlying23 (fun w => by kernel_rfl) rfl rfl gl n n _ _ h.2.2.1 (by simp [enc_length]; exact h.2.2.2.1) (by omega)
  have hS : Lap lo gl n (List.replicate n 0) (w.setRow gl (List.replicate n (.int .i16 0)).toArray) :=
    h.relay (Poly.But.setRow (Bank.But.refl _ _) _) (by rw [enc_rep]; exact Poly.Blk.setRow h.2.2.1 _) (by simp) (fit16.2 (zeros16 _))
  have HS : Hid (Lap _ _ _ _ _) := hS
  clear h hS
  generalize (List.replicate n (Value.int .i16 0)).toArray = cs at *
  go_enter Tryd.func23, Tryd.ntmps23
  go_wp2
  go_end0
  exact ⟨rfl, HS.out, Poly.But.setRow (Bank.But.refl _ _) _⟩

theorem unlReset (lo gl n : Nat) (xs : List Int) (w : World) (h : Unl lo gl n xs w) (hn : 1 ≤ n) :
    Calls Tryd.prog 24 #[.pointer (some ⟨gl + 1, 0, none⟩)] w fun e w' => e = .returned (.tuple #[]) ∧ Unl lo gl n (List.replicate n 0) w' ∧ But gl w w' := by
  obtain ⟨c0, c3⟩ := h.cells
  have hcl : ∀ ty, (Builtin.clear_ #[40] ty #[.slice (some ⟨gl, 0, none⟩) n n]).run Tryd.prog w = .ok (.tuple #[]) (w.setRow gl (List.replicate n (.int .i32 0)).toArray) := fun ty =>
    run_clear_row w 40 21 ty (.int .i32 0) Tryd.underlying40 (fun w => by kernel_rfl) rfl rfl gl n n _ _ h.2.2.1 (by simp [enc_length]; exact h.2.2.2.1) (by omega)
  have hS : Unl lo gl n (List.replicate n 0) (w.setRow gl (List.replicate n (.int .i32 0)).toArray) :=
    h.relay (Poly.But.setRow (Bank.But.refl _ _) _) (by rw [enc_rep]; exact Poly.Blk.setRow h.2.2.1 _) (by simp) (fit32.2 (zeros32 _))
  have HS : Hid (Unl _ _ _ _ _) := hS
  clear h hS
  generalize (List.replicate n (Value.int .i32 0)).toArray = cs at *
  go_enter Tryd.func24, Tryd.ntmps24
  go_wp2
  go_end0
  exact ⟨rfl, HS.out, Poly.But.setRow (Bank.But.refl _ _) _⟩

theorem lapReset_nil (w : World) : Calls Tryd.prog 23 #[.pointer none] w fun e w' => e = .returned (.tuple #[]) ∧ w' = w := by
  go_enter Tryd.func23, Tryd.ntmps23
  go_wp2
  go_end0
  exact ⟨rfl, rfl⟩

theorem unlReset_nil (w : World) : Calls Tryd.prog 24 #[.pointer none] w fun e w' => e = .returned (.tuple #[]) ∧ w' = w := by
  go_enter Tryd.func24, Tryd.ntmps24
  go_wp2
  go_end0
  exact ⟨rfl, rfl⟩

theorem lapFeed_nil (v : Value) (w : World) :
    Calls Tryd.prog 17 #[.pointer none, v] w fun e w' => e = .returned (.tuple #[.slice none 0 0, .int .i64 3]) ∧ w' = w := by
  go_enter Tryd.func17, Tryd.ntmps17
  go_wp2
  go_ret2
  exact ⟨rfl, rfl⟩

theorem unlFeed_nil (v : Value) (w : World) :
    Calls Tryd.prog 20 #[.pointer none, v] w fun e w' => e = .returned (.tuple #[.slice none 0 0, .int .i64 3]) ∧ w' = w := by
  go_enter Tryd.func20, Tryd.ntmps20
  go_wp2
  go_ret2
  exact ⟨rfl, rfl⟩

theorem lapFeed_err (lo gl n : Nat) (xs : List Int) (a : Option Addr) (l c : Nat) (w : World) (h : Lap lo gl n xs w) (hl : l ≠ n) :
    Calls Tryd.prog 17 #[.pointer (some ⟨gl + 1, 0, none⟩), .slice a l c] w fun e w' => e = .returned (.tuple #[.slice none 0 0, .int .i64 1]) ∧ w' = w := by
  obtain ⟨c0, c3⟩ := h.cells
  have hne : ((l : Int) != (n : Int)) = true := by rw [bne_iff_ne]; omega
  clear h
  go_enter Tryd.func17, Tryd.ntmps17
  go_wp2
  go_ret2
  exact ⟨rfl, rfl⟩

set_option maxRecDepth 100000 in
set_option maxHeartbeats 2000000 in
theorem lapFeed (n N2 N8 lo gl lo' hi' : Nat) (o x : List Int) (vx : Value) (w : World) (h : Lap lo gl n o w) (hx : Reads .i16 lo' hi' w vx x) (hxl : x.length = n) (h1 : hi' ≤ w.heap.size) (hg : gl < lo' ∨ hi' ≤ gl) (e2 : 2 * n = N2) (e8 : 8 * n = N8) (n0 : 2 ≤ n) (n1 : n ≤ 120) :
    Calls Tryd.prog 17 #[.pointer (some ⟨gl + 1, 0, none⟩), vx] w fun e w' => ∃ g, e = .returned (.tuple #[.slice (some ⟨g, 0, none⟩) n n, .int .i64 0]) ∧ Lap lo gl n x w' ∧ But gl w w' ∧ w.heap.size ≤ g ∧ w'.heap.size = g + 1 ∧ Reads .i32 g (g + 1) w' (.slice (some ⟨g, 0, none⟩) n n) (M.lp n o x) := by
  obtain ⟨c0, c3⟩ := h.cells
  have hwin := windowed_any n N2 lo gl lo' hi' o x vx w h hx hxl h1 e2 n0 n1
  have hof := fit16.1 h.2.2.2.2.1
  have hxf : M.fits16 x := by obtain ⟨_, _, _, _, hw, _⟩ := hx; exact fit16.1 hw
  have hg1 := h.2.1
  have hcells : ∀ w1 wx, Below w.heap.size w w1 → Below w1.heap.size w1 wx → Blk w1 w.heap.size (enc .i32 (M.aws n o x)).toArray 21 → w1.heap.size = w.heap.size + 1 → wx.cell? ⟨gl + 1, 0, none⟩ = some (.int .i64 n) ∧ wx.cell? ⟨gl + 1, 3, none⟩ = some (.slice (some ⟨gl, 0, none⟩) n n) ∧
      ∀ k : Nat, k < n → Calls Tryd.prog 33 #[.pointer (some ⟨gl + 1, 0, none⟩), .slice (some ⟨w.heap.size, 0, none⟩) N2 N2, .int .i64 (((n : Int) + 1) * (2 * (k : Int) + 1)), .int .i64 (2 * (2 * (k : Int) + 1))] wx.drew fun e w' => ∃ Q, e = .returned (.int .i64 Q) ∧ -9000000000000000000 ≤ Q ∧ Q ≤ 9000000000000000000 ∧ M.sat32 Q = M.lk n o x k ∧ ∃ m, w' = wx.drewN m := by
    intro w1 wx b1 b2 hB hs
    have hL1 : Lap lo gl n o w1 := h.below b1 h.2.1
    have hL2 : Lap lo gl n o wx := hL1.below b2 hL1.2.1
    refine ⟨hL2.cells.1, hL2.cells.2, fun k hk => ?_⟩
    obtain ⟨r0, r1, r2, r3, r4, wa, wc, ta, tc, r5, r6, r7⟩ := hL2
    rw [e8] at r5 r7
    have hr := reads_blk hB (fit32.2 (M.aws_fits n0 hof hxf))
    rw [M.aws_length, e2] at hr
    have hr2 := Poly.Reads.below hr b2 (by omega)
    have hfr := M.mul_bd ((n : Int) + 1) (2 * (k : Int) + 1) 121 241 (by omega) (by omega) (by omega) (by omega)
    have hfr0 : 0 ≤ ((n : Int) + 1) * (2 * (k : Int) + 1) := Int.mul_nonneg (by omega) (by omega)
    refine (sum_any n N8 (gl + 1) lo gl w.heap.size (w.heap.size + 1) tc N2 ta (((n : Int) + 1) * (2 * (k : Int) + 1)) (2 * (2 * (k : Int) + 1)) _ (M.aws n o x) wx.drew (r5.cell (o := 2) rfl) r7.drew hr2.drew e8 (by omega) n1 hfr0 (by omega) (by omega) (by omega) (by rw [M.aws_length, e2]) (by omega) (by omega)).mono ?_
    rintro e w' ⟨rfl, m, rfl⟩
    have hb := M.sm_bd (M.aws_fits n0 hof hxf) (M.wf_bd (n := n) (by omega) (((n : Int) + 1) * (2 * (k : Int) + 1)) (2 * (2 * (k : Int) + 1))) N2
    have hb2 := M.rnd15_bd (n := M.sm (M.aws n o x) (M.wf n (((n : Int) + 1) * (2 * (k : Int) + 1)) (2 * (2 * (k : Int) + 1))) N2) (A := 9000000000000000000) (by omega) (by omega) (by omega)
    refine ⟨_, rfl, hb2.1, hb2.2, ?_, 1 + m, ?_⟩
    · unfold M.lk
      rw [e2]
    · exact World.drewN_drewN wx 1 m
  have hend : ∀ wr, Below w.heap.size w wr → ∃ X : Array Value, (∀ ty, (Builtin.copy_ #[23, 23] ty #[.slice (some ⟨gl, 0, none⟩) n n, vx]).run Tryd.prog wr = .ok (goInt n) (wr.setRow gl X)) ∧ Lap lo gl n x (wr.setRow gl X) ∧ But gl w (wr.setRow gl X) := by
    intro wr hb
    have hL := h.below hb h.2.1
    obtain ⟨ax, cx, rfl⟩ := hx.form
    obtain ⟨bx, ox, rfl, q0, q1, hcx⟩ := hx.cell (by omega)
    have hlen : (enc .i16 x).length = n := by rw [enc_length]; exact hxl
    have hbn := Bank.But.of_below (b := gl) hb (Nat.le_refl _)
    refine ⟨(enc .i16 x).toArray, fun ty => ?_, ?_, Poly.But.setRow hbn _⟩
    · have hcp := run_copy_row (P := Tryd.prog) wr 23 23 ty 56 gl 0 n n ⟨bx, ox, none⟩ x.length cx _ 56 (enc .i16 x) Tryd.underlying23 (by kernel_rfl) hL.2.2.1
        (by rw [hlen, hxl]; exact (Nat.min_self n).symm) (fun j v hv => by
          rw [add_off]
          have hj : j < x.length := by have := (List.getElem?_eq_some_iff.1 hv).1; rw [enc_length] at this; exact this
          rw [enc_get hj] at hv
          rw [← Option.some.inj hv]
          exact (cell_keep (hb.block bx (by omega))).trans (hcx j hj)) (by rw [hlen]; simp [enc_length]; have := hL.2.2.2.1; omega) (enc_one _ _)
      have hX : (enc .i16 o).toArray.toList.take 0 ++ enc .i16 x ++ (enc .i16 o).toArray.toList.drop (0 + (enc .i16 x).length) = enc .i16 x := by
        rw [hlen, List.drop_eq_nil_of_le (by simp [enc_length]; have := hL.2.2.2.1; omega)]
        simp
      rw [hX, hlen] at hcp
      exact hcp
    · exact hL.relay (Poly.But.setRow (Bank.But.refl _ _) _) (Poly.Blk.setRow hL.2.2.1 _) hxl (fit16.2 hxf)
  obtain ⟨ax, cx, rfl⟩ := hx.form
  rw [hxl] at hwin hend ⊢
  have hne : ((n : Int) != (n : Int)) = false := by simp
  have hmk : ∀ wx : World, (Instr.makeSlice 40 (.int .i64 n) (.int .i64 n)).run Tryd.prog wx = .ok (.slice (some ⟨wx.heap.size, 0, none⟩) n n) (wx.alloc (.cells (enc .i32 (List.replicate n 0)).toArray 21)) := fun wx => make32 wx n (by omega)
  have HF : Hid (∀ (wx : World) f, Fill .i32 21 wx.heap.size n 0 f (wx.alloc (.cells (enc .i32 (List.replicate n 0)).toArray 21))) := fun wx f => Fill.start (Blk.new wx _ _)
  generalize (enc .i32 (List.replicate n 0)).toArray = cs at hmk HF
  have HC : Hid _ := hcells
  have HEnd : Hid _ := hend
  have HLp : Hid (M.lp n o x = (List.range n).map (M.lk n o x)) := rfl
  have HLf : Hid (M.fits32 (M.lp n o x)) := M.lp_fits n o x
  have b1 : (n : Int) ≤ 120 := by omega
  have b0 : (2 : Int) ≤ n := by omega
  have hC0 := hcells
  have HGl : Hid (gl + 2 ≤ w.heap.size) := hg1
  clear hcells hend hx h hof hxf hC0 h1 hg hxl hg1
  go_enter Tryd.func17, Tryd.ntmps17
  go_wp2_with (go_at_call 31; refine hwin.mono ?_; clear hwin; rintro e w1 ⟨rfl, hB1, bel1, hs1⟩; have hst := HF.out w1 (M.lk n o x); have hmk1 := hmk w1; have k0 := (HC.out w1 w1 bel1 (Below.refl _ _) hB1 hs1).1; have HB1 : Hid (Blk _ _ _ _) := hB1; have HS1 : Hid (_ = _) := hs1; clear hB1 HF hmk hs1)
  have bel0 : Below w1.heap.size w1 (w1.alloc (.cells cs 21)) := (Below.refl _ _).alloc (Nat.le_refl _) _
  go_loopw [31] (fun i wr => ∃ k : Nat, k ≤ n ∧ i = .int .i64 k ∧ Fill .i32 21 w1.heap.size n k (M.lk n o x) wr ∧ Below w1.heap.size w1 wr ∧ wr.heap.size = w1.heap.size + 1) (fun i _ => n - (intOf i).toNat)
  case atStart => exact ⟨0, by omega, rfl, hst, bel0, by simp⟩
  case round =>
    clear hst bel0 hmk1 k0 c0 c3
    obtain ⟨k, hk, rfl, hf, hbw, hsw⟩ := hrel
    obtain ⟨d0, d3, hsum⟩ := HC.out w1 wr bel1 hbw HB1.out HS1.out
    by_cases hlt : k < n
    · have hlt' : (k : Int) < n := by omega
      have hs := hsum k hlt
      obtain ⟨⟨u, hu⟩, hfz⟩ := hf.cell hlt
      have HFl : Hid (Fill _ _ _ _ _ _ _) := hf
      have HBw : Hid (Below _ _ _) := hbw
      obtain ⟨H, hH⟩ : ∃ H, 2 * (k : Int) + 1 = H := ⟨_, rfl⟩
      have hNA : ∃ NA, (n : Int) + 1 = NA := ⟨_, rfl⟩
      obtain ⟨NA, hNA⟩ := hNA
      have hfr := M.mul_bd ((n : Int) + 1) (2 * (k : Int) + 1) 121 241 (by omega) (by omega) (by omega) (by omega)
      rw [hH, hNA] at hs hfr
      obtain ⟨FR, hFR⟩ : ∃ FR, NA * H = FR := ⟨_, rfl⟩
      obtain ⟨ST, hST⟩ : ∃ ST, 2 * H = ST := ⟨_, rfl⟩
      rw [hFR] at hs hfr
      rw [hST] at hs
      obtain ⟨fr0, fr1⟩ := hfr
      have w1' : IntKind.i64.wrap NA = NA := Bank.wrap_id _ (by omega) (by omega)
      have w2' : IntKind.i64.wrap FR = FR := Bank.wrap_id _ (by omega) (by omega)
      have w3' : IntKind.i64.wrap ST = ST := Bank.wrap_id _ (by omega) (by omega)
      have hs32 : ∀ (Q : Int) (wx : World), -9000000000000000000 ≤ Q → Q ≤ 9000000000000000000 → Calls Tryd.prog 32 #[.int .i64 Q] wx fun e w' => e = .returned (.int .i32 (M.sat32 Q)) ∧ w' = wx := fun Q wx q0 q1 => Sat32_any Q wx (by omega) (by omega)
      have HS32 : Hid _ := hs32
      clear hf hbw hsum hs32
      go_wp2
      have hset : ∀ (wx : World) (v : Value), wx.cell? ⟨gl + 1, 0, none⟩ = some (.int .i64 n) → (wx.setCell ⟨w1.heap.size, k, none⟩ v).cell? ⟨gl + 1, 0, none⟩ = some (.int .i64 n) := fun wx v h => by
        have l1 := HGl.out
        have l2 := bel1.size
        rw [cell_set_ne v (by omega)]; exact h
      have HSet : Hid _ := hset
      clear hset
      go_region_held3 (fun wx => wx.cell? ⟨gl + 1, 0, none⟩ = some (.int .i64 n))
        (first | exact d0 | exact HSet.out _ _ d0)
        (first
          | (go_at_call 33; refine hs.mono ?_; clear hs; rintro e w' ⟨Q, rfl, q0, q1, hq, m, rfl⟩; have hq32 := fun wx => HS32.out Q wx q0 q1; rw [hq] at hq32; clear hq HS32)
          | (go_at_call 32; refine (hq32 _).mono ?_; clear hq32; rintro e w' ⟨rfl, hw⟩; rw [hw]; clear hw w'))
      go_wp2
      go_roundw
      case rel => exact ⟨k + 1, by omega, by go_num, (HFl.out.drewN _).step hlt rfl, (below_drewN HBw.out _).setCell (Nat.le_refl _) _, by simpa [World.setCell] using hsw⟩
      case measure => simp [intOf]; omega
    · obtain rfl : k = n := by omega
      have hbl : Below w.heap.size w wr := bel1.trans (hbw.mono bel1.size)
      obtain ⟨X, hcp, hLx, hBx⟩ := HEnd.out wr hbl
      have hwh := hf.whole
      have HWh : Hid (Blk _ _ _ _) := hwh
      have HLx : Hid (Lap _ _ _ _ _) := hLx
      have HBx : Hid (But _ _ _) := hBx
      clear hf hsum hwh hLx hBx
      go_wp2
      go_ret2
      refine ⟨_, rfl, HLx.out, HBx.out, bel1.size, by simpa using hsw, ?_⟩
      have hgl := HGl.out
      have e := HWh.out
      rw [← HLp.out] at e
      have hr := reads_blk (Poly.Blk.setRow_ne e (show w1.heap.size ≠ gl by have := bel1.size; omega) X) (fit32.2 HLf.out)
      rw [M.lp_length] at hr
      exact hr

end Lapd
end Go.Proofs.YtjfhlaahgfdmnaaDoor
