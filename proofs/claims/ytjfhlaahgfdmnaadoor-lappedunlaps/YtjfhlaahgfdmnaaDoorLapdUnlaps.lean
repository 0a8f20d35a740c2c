/-
  The walk of LappedUnlaps. Conditions: as the law has them; the polynomial stands.
-/
import Derived.Test.YtjfhlaahgfdmnaaDoorLapdAlive
import Derived.Test.YtjfhlaahgfdmnaaDoorLapdRefU
namespace Go.Proofs.YtjfhlaahgfdmnaaDoor
set_option linter.unusedVariables false
open Go.RowKit
namespace Lapd
open Bank (Blk But)
open Poly (Reads enc enc_get enc_length enc_rep enc_one fit16 fit32 wf64 wf32 Gat reads_blk reads_own cell_keep below_but below_drewN below_drew alloc_size make16 make32 zeros16 zeros32 same16 same32 reads_new16 reads_new32)

/-- between the rounds of LappedUnlaps -/
def InvU (n lo gl : Nat) (vo : Value) (q : List Int) (w wr : World) : Prop :=
  Unl lo gl n q wr ∧ (∃ r0 r1, Old n r0 r1 vo q wr ∧ gl + 2 ≤ r0 ∧ r1 ≤ wr.heap.size) ∧ w.heap.size ≤ lo ∧ Below w.heap.size w wr
theorem InvU.below {n lo gl : Nat} {vo : Value} {q : List Int} {w wr w' : World} (h : InvU n lo gl vo q w wr) (hb : Below wr.heap.size wr w') : InvU n lo gl vo q w w' := by
  obtain ⟨hU, ⟨r0, r1, hr, hr0, hr1⟩, hlo, hB⟩ := h
  have := hb.size
  exact ⟨hU.below hb hU.2.1, ⟨r0, r1, hr.below hb hr1, hr0, by omega⟩, hlo, hB.trans (hb.mono hB.size)⟩

theorem stepU {n lo gl g : Nat} {q c : List Int} {vo : Value} {w wr : World} (hn : M.len9 n) (hI : InvU n lo gl vo q w wr) (hc : Reads .i32 g (g + 1) wr (.slice (some ⟨g, 0, none⟩) n n) c) (hcl : c.length = n) (hg : gl + 2 ≤ g) (hg1 : g + 1 ≤ wr.heap.size) :
    Calls Tryd.prog 20 #[.pointer (some ⟨gl + 1, 0, none⟩), .slice (some ⟨g, 0, none⟩) n n] wr fun e w2 => ∃ g2, e = .returned (.tuple #[.slice (some ⟨g2, 0, none⟩) n n, .int .i64 0]) ∧
      Calls Tryd.prog 21 #[vo, .slice (some ⟨g, 0, none⟩) n n, .int .i64 n] w2 fun e w3 => ∃ a cp, e = .returned (.slice a n cp) ∧
        Calls Tryd.prog 18 #[.slice (some ⟨g2, 0, none⟩) n n, .slice a n cp] w3 fun e w4 => e = .returned (.bool true) ∧
          Calls Tryd.prog 22 #[.slice (some ⟨g, 0, none⟩) n n, .int .i64 n] w4 fun e w5 => ∃ v, e = .returned v ∧ InvU n lo gl v (M.ov n c) w w5 := by
  obtain ⟨hU, ⟨r0, r1, hr, hr0, hr1⟩, hlo, hB⟩ := hI
  have hb := len_bd hn
  have sB := hB.size
  have l1 := hU.2.1
  have l0 := hU.1
  refine (feedU hn hU hc hcl hg1 (.inl (by omega))).mono ?_
  rintro e w2 ⟨g2, rfl, hU2, bt2, hg2, hs2, hr2⟩
  have hro := hr.but bt2 hr1 (.inl (by omega))
  have hc2 := hc.but bt2 hg1 (.inl (by omega))
  refine ⟨g2, rfl, (rUnlap n (2 * n) (n / 2) (n / 4) (8 * n) g (g + 1) r0 r1 q c vo _ w2 (lens_of hn) hro hc2 hcl (by omega) (by omega)).mono ?_⟩
  rintro e w3 ⟨a, cp, rfl, hr3, bel3⟩
  have s3 := bel3.size
  refine ⟨a, cp, rfl, (same32 _ _ _ _ _ _ _ _ (Poly.Reads.below hr2 bel3 (by omega)) hr3 (by rw [M.un_length]; omega)).mono ?_⟩
  rintro e w4 ⟨rfl, m, rfl⟩
  refine ⟨rfl, ?_⟩
  have hc3 := Poly.Reads.below hc2 bel3 (by omega)
  refine (rBack n (2 * n) (n / 2) (n / 4) (8 * n) g (g + 1) c _ (w3.drewN m) (lens_of hn) (hc3.drewN m) hcl (by show g + 1 ≤ w3.heap.size; omega)).mono ?_
  rintro e w5 ⟨b, off, cp', rfl, hrb, bel5⟩
  have bel5' : Below w3.heap.size (w3.drewN m) w5 := bel5
  have s5 : w3.heap.size ≤ w5.heap.size := bel5.size
  have b2 : Below w.heap.size w w2 := below_but hB bt2 (Nat.le_refl _) (by omega)
  have b3 : Below w.heap.size w w3 := b2.trans (bel3.mono b2.size)
  have hU3 := hU2.below bel3 hU2.2.1
  have hU5 : Unl lo gl n (M.ov n c) w5 := Ob.below (Ob.drewN hU3 m) bel5' hU3.2.1
  have hrb' : Reads .i64 w3.heap.size w5.heap.size w5 (.slice (some ⟨b, off, none⟩) (2 * n) cp') (M.bk n c) := hrb
  exact ⟨_, rfl, hU5, ⟨w3.heap.size, w5.heap.size, Old.of_back hrb' (by omega), by omega, Nat.le_refl _⟩, hlo, (below_drewN b3 m).trans (bel5'.mono b3.size)⟩

set_option maxRecDepth 100000 in
set_option maxHeartbeats 1000000 in
theorem LappedUnlaps_walk (u : Int) (u0 : (Lit.int .u8 u).wf = true) (l : List Int) (vl : Value) (w : World) (hT : Wave.Tab w) (hl : Reads .i32 0 w.heap.size w vl l) :
    Calls Tryd.prog 5 #[.int .u8 u, vl] w fun e w' => e = .returned (.bool true) ∧ Below w.heap.size w w' := by
  have hu : 0 ≤ u ∧ u ≤ 255 := by simpa [Lit.wf, IntKind.min, IntKind.max, IntKind.signed, IntKind.bits] using u0
  have hnot : ∀ (x : Bool) (w : World), (Op.unary .not (.bool x)).run Tryd.prog w = .ok (.bool (!x)) w := fun _ _ => rfl
  have HA := alive_any w hT
  have hset : ∀ wa, Below w.heap.size w wa → Calls Tryd.prog 15 #[.int .u8 u] wa fun e w1 => ∃ n : Nat, e = .returned (.int .i64 n) ∧ M.len9 n ∧ Calls Tryd.prog 9 #[] w1 fun e w2 => ∃ bp, e = .returned (.pointer bp) ∧ Calls Tryd.prog 11 #[.pointer bp, .int .i64 n] w2 fun e w3 => ∃ gl, e = .returned (.tuple #[.pointer (some ⟨gl + 1, 0, none⟩), .int .i64 0]) ∧ Below w.heap.size w w3 ∧
      ∃ lo, InvU n lo gl (.slice none 0 0) (List.replicate n 0) w w3 := by
    intro wa bela
    have sa := bela.size
    refine (length_any u wa hu.1 hu.2).mono ?_
    rintro e w1 ⟨n, rfl, hn, bel1⟩
    have b1 : Below w.heap.size w w1 := bela.trans (bel1.mono sa)
    refine ⟨n, rfl, hn, (madeU hn (tab_b b1 (Nat.le_refl _) hT)).mono ?_⟩
    rintro e w2 ⟨bp, rfl, h⟩
    refine ⟨bp, rfl, h.mono ?_⟩
    rintro e w3 ⟨gl, rfl, hL, s3, bel3⟩
    have b3 : Below w.heap.size w w3 := b1.trans (bel3.mono b1.size)
    exact ⟨gl, rfl, b3, w1.heap.size, hL, ⟨gl + 2, gl + 2, ⟨by simp, zeros32 n, .inl ⟨rfl, rfl⟩⟩, Nat.le_refl _, by omega⟩, b1.size, b3⟩
  have HSet : Hid _ := hset
  have hmk : ∀ (n : Nat) (wx : World), M.len9 n → (Instr.makeSlice 40 (.int .i64 n) (.int .i64 n)).run Tryd.prog wx = .ok (.slice (some ⟨wx.heap.size, 0, none⟩) n n) (wx.alloc (.cells (enc .i32 (List.replicate n 0)).toArray 21)) := fun n wx hn => make32 wx n (by have := len_bd hn; omega)
  have HMk : Hid _ := hmk
  have HLr : Hid (Reads _ _ _ _ _ _) := hl
  have hlf : M.fits32 l := by obtain ⟨_, _, _, _, hw, _⟩ := hl; exact fit32.1 hw
  have HFit : Hid (∀ n p, ∀ z ∈ M.pd n l p, (Lit.int .i32 z).wf = true) := fun n p => fit32.2 (M.pd_fits hlf (by decide) (by decide) p)
  have HCl : Hid (0 < l.length → ∃ b off c, vl = .slice (some ⟨b, off, none⟩) l.length c ∧ b < w.heap.size ∧ ∀ i, i < l.length → w.cell? ⟨b, off + i, none⟩ = some (.int .i32 (l.getD i 0))) := by
    intro h
    obtain ⟨a, c, rfl⟩ := hl.form
    obtain ⟨b, off, rfl, _, h1, hx⟩ := hl.cell h
    exact ⟨b, off, c, rfl, h1, hx⟩
  obtain ⟨a, c, rfl⟩ := hl.form
  obtain ⟨L, hL⟩ : ∃ L, l.length = L := ⟨_, rfl⟩
  rw [hL] at HLr HCl ⊢
  have HLe : Hid (l.length = L) := hL
  clear hset hmk hl hL hT hu u0 hlf
  by_cases h3 : 300 < L
  · have h3' : (300 : Int) < L := by omega
    go_enter Tryd.func5, Tryd.ntmps5
    go_wp2_with (first
      | (go_at_call 7; refine HA.mono ?_; clear HA; rintro e wa ⟨rfl, bela⟩; have h1 := HSet.out wa bela; clear HSet bela)
      | (go_at_call 15; refine h1.mono ?_; clear h1; rintro e w1 ⟨n, rfl, hn, h2⟩)
      | (go_at_call 9; refine h2.mono ?_; clear h2; rintro e w2 ⟨bp, rfl, h3⟩)
      | (go_at_call 11; refine h3.mono ?_; clear h3; rintro e w3 ⟨gl, rfl, b3, -⟩))
    go_ret
    exact ⟨rfl, b3⟩
  · have h3' : ¬ (300 : Int) < L := by omega
    have hLs : (L : Int) ≤ 300 := by omega
    go_enter Tryd.func5, Tryd.ntmps5
    go_wp2_with (first
      | (go_at_call 7; refine HA.mono ?_; clear HA; rintro e wa ⟨rfl, bela⟩; have h1 := HSet.out wa bela; clear HSet bela)
      | (go_at_call 15; refine h1.mono ?_; clear h1; rintro e w1 ⟨n, rfl, hn, h2⟩; obtain ⟨n0, n1⟩ := len_bd hn; have n0' : (40 : Int) ≤ n := (by omega); have n1' : (n : Int) ≤ 120 := (by omega); have HN : Hid (M.len9 n) := hn; clear hn n0 n1)
      | (go_at_call 9; refine h2.mono ?_; clear h2; rintro e w2 ⟨bp, rfl, h3⟩)
      | (go_at_call 11; refine h3.mono ?_; clear h3; rintro e w3 ⟨gl, rfl, b3, lo, hI⟩; have HI : Hid _ := hI; clear hI b3))
    go_loopw [8, 9] (fun v i wr => ∃ (p : Nat) (o : List Int), i = .int .i64 p ∧ p ≤ 420 ∧ InvU n lo gl v o w wr) (fun _ i _ => 1000 - (intOf i).toNat)
    case atStart => exact ⟨0, _, rfl, by omega, HI.out⟩
    case round =>
      clear HI
      obtain ⟨p, o, rfl, hp, hI⟩ := hrel
      by_cases hlt : p < L
      · have hlt' : (p : Int) < L := by omega
        obtain ⟨b, off, c', he, hb, hx⟩ := HCl.out (by omega)
        cases he
        have hmk := HMk.out n wr HN.out
        have hst : Pad .i32 21 wr.heap.size n l p 0 (wr.alloc (.cells (enc .i32 (List.replicate n 0)).toArray 21)) := Pad.start (Blk.new wr _ _)
        generalize (enc .i32 (List.replicate n 0)).toArray = cs at hmk hst
        have bel0 : Below wr.heap.size wr (wr.alloc (.cells cs 21)) := (Below.refl _ _).alloc (Nat.le_refl _) _
        have HX : Hid _ := hx
        have HB0 : Hid (b < w.heap.size) := hb
        have HI : Hid _ := hI
        obtain ⟨G, hG⟩ : ∃ G, wr.heap.size = G := ⟨_, rfl⟩
        obtain ⟨wo, hwo⟩ : ∃ wo, wo = wr := ⟨_, rfl⟩
        have HIo : Hid (InvU n lo gl u8 o w wo) := by rw [hwo]; exact HI.out
        have belo : Below wr.heap.size wo (wr.alloc (.cells cs 21)) := by rw [hwo]; exact bel0
        have HGo : Hid (wo.heap.size = G) := by show _ = _; rw [hwo]; exact hG
        rw [hG] at hst belo
        have hs0 : (wr.alloc (.cells cs 21)).heap.size = G + 1 := by rw [alloc_size, hG]
        rw [hG] at hmk
        have HS0 : Hid (_ = _) := hs0
        clear hI HI hx hb bel0 hwo hs0
        have HGw : Hid (wr.heap.size = G) := hG
        clear hG
        go_wp2
        go_loopw [11] (fun i wx => ∃ k : Nat, k ≤ n ∧ i = .int .i64 k ∧ Pad .i32 21 G n l p k wx ∧ Below G wo wx ∧ wx.heap.size = G + 1) (fun i _ => n - (intOf i).toNat)
        case atStart => exact ⟨0, by omega, rfl, hst, belo, HS0.out⟩
        case round =>
          clear hst belo HS0 hmk HGw
          obtain ⟨k, hk, rfl, hP, hB, hs⟩ := hrel
          have hend : (k = n ∨ l.length ≤ p + k) → Calls Tryd.prog 20 #[.pointer (some ⟨gl + 1, 0, none⟩), .slice (some ⟨G, 0, none⟩) n n] wr fun e w2 => ∃ g2, e = .returned (.tuple #[.slice (some ⟨g2, 0, none⟩) n n, .int .i64 0]) ∧
              Calls Tryd.prog 21 #[u8, .slice (some ⟨G, 0, none⟩) n n, .int .i64 n] w2 fun e w3 => ∃ a cp, e = .returned (.slice a n cp) ∧
                Calls Tryd.prog 18 #[.slice (some ⟨g2, 0, none⟩) n n, .slice a n cp] w3 fun e w4 => e = .returned (.bool true) ∧
                  Calls Tryd.prog 22 #[.slice (some ⟨G, 0, none⟩) n n, .int .i64 n] w4 fun e w5 => ∃ v, e = .returned v ∧ InvU n lo gl v (M.ov n (M.pd n l p)) w w5 := by
            intro he
            have hI := HIo.out
            have eG := HGo.out
            have l1 := hI.1.2.1
            exact stepU HN.out (hI.below (by rw [eG]; exact hB)) (hP.reads he (HFit.out n p)) (M.pd_length n l p) (by omega) (by omega)
          by_cases hkn : k < n
          · have hkn' : (k : Int) < n := by omega
            by_cases hin : p + k < L
            · obtain ⟨q, hq⟩ : ∃ q, q = p + k := ⟨_, rfl⟩
              have hq' : (p : Int) + (k : Int) = (q : Int) := by omega
              have hq2 : (q : Int) < L := by omega
              have eG := HGo.out
              have sI := HIo.out.2.2.2.size
              have c0 : wo.cell? ⟨b, off + q, none⟩ = some (.int .i32 (l.getD q 0)) := (cell_keep (HIo.out.2.2.2.block b HB0.out)).trans (HX.out q (by omega))
              have c1 := (cell_keep (hB.block b (by have := HB0.out; omega))).trans c0
              have hstep := hP.step hkn
              rw [← hq] at hstep
              obtain ⟨⟨u', hu⟩, hfz⟩ := hP.cell hkn
              have HS : Hid (Pad _ _ _ _ _ _ _ _) := hstep
              have HB : Hid (Below _ _ _) := hB
              generalize l.getD q 0 = y at *
              clear hP hstep hq hB hend c0 eG sI
              go_wp2
              go_roundw
              case rel => exact ⟨k + 1, by omega, by go_num, HS.out, HB.out.setCell (Nat.le_refl _) _, by simpa [World.setCell] using hs⟩
              case measure => simp [intOf]; omega
            · have hin' : ¬ (p : Int) + (k : Int) < L := by omega
              have h4 := hend (.inr (by rw [HLe.out]; omega))
              clear hP hB hend hs
              go_wp2_with (first
                | (go_at_call 20; refine h4.mono ?_; clear h4; rintro e w4 ⟨g2, rfl, h5⟩)
                | (go_at_call 21; refine h5.mono ?_; clear h5; rintro e w5 ⟨a5, c5, rfl, h6⟩)
                | (go_at_call 18; refine h6.mono ?_; clear h6; rintro e w6 ⟨rfl, h7⟩)
                | (go_at_call 22; refine h7.mono ?_; clear h7; rintro e w7 ⟨v7, rfl, hI⟩; have HI : Hid _ := hI; clear hI))
              go_roundw
              case rel => exact ⟨p + n, _, by go_num, by omega, HI.out⟩
              case measure => simp [intOf]; omega
          · obtain rfl : k = n := by omega
            have h4 := hend (.inl rfl)
            clear hP hB hend hs
            go_wp2_with (first
              | (go_at_call 20; refine h4.mono ?_; clear h4; rintro e w4 ⟨g2, rfl, h5⟩)
              | (go_at_call 21; refine h5.mono ?_; clear h5; rintro e w5 ⟨a5, c5, rfl, h6⟩)
              | (go_at_call 18; refine h6.mono ?_; clear h6; rintro e w6 ⟨rfl, h7⟩)
              | (go_at_call 22; refine h7.mono ?_; clear h7; rintro e w7 ⟨v7, rfl, hI⟩; have HI : Hid _ := hI; clear hI))
            go_roundw
            case rel => exact ⟨p + k, _, by go_num, by omega, HI.out⟩
            case measure => simp [intOf]; omega
      · have hlt' : ¬ (p : Int) < L := by omega
        have HB : Hid (Below _ _ _) := hI.2.2.2
        clear hI
        go_wp2
        go_ret
        exact ⟨rfl, HB.out⟩

end Lapd
end Go.Proofs.YtjfhlaahgfdmnaaDoor
