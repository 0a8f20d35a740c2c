/-
  The chapter's example of layer 9 holds; LappedWindows. Conditions: the polynomial's numbers stand as their initialiser lays them; one goroutine.
-/
import Derived.Test.YtjfhlaahgfdmnaaDoorLapdLaws
namespace Go.Proofs.YtjfhlaahgfdmnaaDoor
set_option linter.unusedVariables false
open Go.RowKit
namespace Lapd
open Bank (Blk But)
open Poly (Reads enc enc_get enc_length enc_rep enc_one fit16 fit32 wf64 wf32 Gat reads_blk reads_own cell_keep below_but below_drewN below_drew alloc_size make16 make32 zeros16 zeros32 same16 same32 reads_new16 reads_new32)

set_option maxRecDepth 100000 in
set_option maxHeartbeats 1000000 in
theorem alive_any (w : World) (hT : Wave.Tab w) : Calls Tryd.prog 7 #[] w fun e w' => e = .returned (.bool true) ∧ Below w.heap.size w w' := by
  have hm4 : ∀ wx : World, (Instr.makeSlice 23 (.int .i64 40) (.int .i64 40)).run Tryd.prog wx = .ok (.slice (some ⟨wx.heap.size, 0, none⟩) 40 40) (wx.alloc (.cells (enc .i16 (List.replicate 40 0)).toArray 56)) := fun wx => make16 wx 40 (by omega)
  have hm5 : ∀ wx : World, (Instr.makeSlice 23 (.int .i64 41) (.int .i64 41)).run Tryd.prog wx = .ok (.slice (some ⟨wx.heap.size, 0, none⟩) 41 41) (wx.alloc (.cells (enc .i16 (List.replicate 41 0)).toArray 56)) := fun wx => make16 wx 41 (by omega)
  have hm32 : ∀ wx : World, (Instr.makeSlice 40 (.int .i64 40) (.int .i64 40)).run Tryd.prog wx = .ok (.slice (some ⟨wx.heap.size, 0, none⟩) 40 40) (wx.alloc (.cells (enc .i32 (List.replicate 40 0)).toArray 21)) := fun wx => make32 wx 40 (by omega)
  have H4 : Hid (∀ wx : World, Reads .i16 wx.heap.size (wx.heap.size + 1) (wx.alloc (.cells (enc .i16 (List.replicate 40 0)).toArray 56)) (.slice (some ⟨wx.heap.size, 0, none⟩) 40 40) (List.replicate 40 0)) := fun wx => reads_new16 wx 40
  have H32 : Hid (∀ wx : World, Reads .i32 wx.heap.size (wx.heap.size + 1) (wx.alloc (.cells (enc .i32 (List.replicate 40 0)).toArray 21)) (.slice (some ⟨wx.heap.size, 0, none⟩) 40 40) (List.replicate 40 0)) := fun wx => reads_new32 wx 40
  generalize (enc .i16 (List.replicate 40 0)).toArray = C4 at *
  generalize (enc .i16 (List.replicate 41 0)).toArray = C5 at *
  generalize (enc .i32 (List.replicate 40 0)).toArray = C32 at *
  have hnot : ∀ (x : Bool) (w : World), (Op.unary .not (.bool x)).run Tryd.prog w = .ok (.bool (!x)) w := fun _ _ => rfl
  have h9 : M.len9 40 := .inl rfl
  -- the calls in a row
  have hrow : ∀ (w2 : World) (gl : Nat), Lap w.heap.size gl 40 (List.replicate 40 0) w2 → Below w.heap.size w w2 →
      Calls Tryd.prog 17 #[.pointer (some ⟨gl + 1, 0, none⟩), .slice (some ⟨w2.heap.size, 0, none⟩) 40 40] (w2.alloc (.cells C4 56)) fun e w3 => ∃ g, e = .returned (.tuple #[.slice (some ⟨g, 0, none⟩) 40 40, .int .i64 0]) ∧
        Calls Tryd.prog 17 #[.pointer (some ⟨gl + 1, 0, none⟩), .slice (some ⟨w3.heap.size, 0, none⟩) 41 41] (w3.alloc (.cells C5 56)) fun e w4 => e = .returned (.tuple #[.slice none 0 0, .int .i64 1]) ∧
          Calls Tryd.prog 25 #[] w4 fun e w5 => ∃ gg, e = .returned (.slice (some ⟨gg, 0, none⟩) 4 4) ∧
            Calls Tryd.prog 18 #[.slice (some ⟨g, 0, none⟩) 40 40, .slice (some ⟨w5.heap.size, 0, none⟩) 40 40] (w5.alloc (.cells C32 21)) fun e w6 => e = .returned (.bool true) ∧ w6.cell? ⟨gg, 0, none⟩ = some (.int .i64 40) ∧ w6.cell? ⟨gg, 3, none⟩ = some (.int .i64 120) ∧ Below w.heap.size w w6 := by
    intro w2 gl hL hb
    have b3 : Below w2.heap.size w2 (w2.alloc (.cells C4 56)) := (Below.refl _ _).alloc (Nat.le_refl _) _
    have l1 := hL.2.1
    have l0 := hL.1
    have hs := hb.size
    refine (feedL h9 (hL.below b3 l1) (H4.out w2) (by simp) (by rw [alloc_size]; omega) (.inl (by omega))).mono ?_
    rintro e w3 ⟨g, rfl, hL3, bt, hg, hs3, hr⟩
    rw [M.lp_zero] at hr
    refine ⟨g, rfl, ?_⟩
    rw [alloc_size] at hg
    have bw3 : Below w.heap.size w w3 := below_but (hb.alloc hs _) bt (Nat.le_refl _) l0
    have b4 : Below w3.heap.size w3 (w3.alloc (.cells C5 56)) := (Below.refl _ _).alloc (Nat.le_refl _) _
    refine (lapFeed_err _ gl 40 _ _ 41 _ _ (hL3.below b4 hL3.2.1) (by decide)).mono ?_
    rintro e w4 ⟨rfl, rfl⟩
    refine ⟨rfl, ?_⟩
    refine (Lengths_any _).mono ?_
    rintro e w5 ⟨rfl, hB5, bel5, hs5⟩
    refine ⟨_, rfl, ?_⟩
    rw [alloc_size] at bel5 hB5 hs5 ⊢
    have b35 : Below w3.heap.size w3 w5 := b4.trans (bel5.mono (by omega))
    have b6 : Below w5.heap.size w5 (w5.alloc (.cells C32 21)) := (Below.refl _ _).alloc (Nat.le_refl _) _
    have hr6 := Poly.Reads.below (Poly.Reads.below hr b35 (by omega)) b6 (by omega)
    refine (same32 _ _ _ _ _ _ _ _ hr6 (H32.out w5) (by simp)).mono ?_
    rintro e w6 ⟨rfl, m, rfl⟩
    have hB6 : Blk (w5.alloc (.cells C32 21)) (w3.heap.size + 1) lens 96 := hB5.alloc _
    have bw5 : Below w.heap.size w w5 := bw3.trans (b35.mono bw3.size)
    exact ⟨rfl, hB6.cell rfl, hB6.cell rfl, below_drewN (bw5.alloc bw5.size _) _⟩
  have HR : Hid _ := hrow
  have hmade := madeL h9 hT
  clear hrow hT h9 H4 H32
  go_enter Tryd.func7, Tryd.ntmps7
  go_wp2_with (first
    | (go_at_call 9; refine hmade.mono ?_; clear hmade; rintro e w1 ⟨bp, rfl, h2⟩)
    | (go_at_call 10; refine h2.mono ?_; clear h2; rintro e w2 ⟨gl, rfl, hL, -, bel2⟩; have h3 := HR.out w2 gl hL bel2; clear HR hL bel2)
    | (go_at_call 17; refine h3.mono ?_; clear h3; rintro e w3 ⟨g, rfl, h4⟩)
    | (go_at_call 17; refine h4.mono ?_; clear h4; rintro e w4 ⟨rfl, h5⟩)
    | (go_at_call 25; refine h5.mono ?_; clear h5; rintro e w5 ⟨gg, rfl, h6⟩)
    | (go_at_call 18; refine h6.mono ?_; clear h6; rintro e w6 ⟨rfl, c0, c3, bel6⟩; have HB6 : Hid (Below _ _ _) := bel6; clear bel6))
  go_ret
  exact ⟨rfl, HB6.out⟩

set_option maxRecDepth 100000 in
set_option maxHeartbeats 1000000 in
theorem windows_ok (n : Nat) (w : World) (hn : M.len9 n) (hT : Wave.Tab w) :
    Calls Tryd.prog 3 #[.int .i64 n] w fun e w' => e = .returned (.bool true) ∧ Below w.heap.size w w' := by
  have hnot : ∀ (x : Bool) (w : World), (Op.unary .not (.bool x)).run Tryd.prog w = .ok (.bool (!x)) w := fun _ _ => rfl
  have hi : (n : Int) = 40 ∨ (n : Int) = 60 ∨ (n : Int) = 80 ∨ (n : Int) = 120 := by unfold M.len9 at hn; omega
  have hlen := lens_of hn
  have hbd := len_bd hn
  have hwin : ∀ wa, Below w.heap.size w wa → Calls Tryd.prog 9 #[] wa fun e w1 => ∃ bp, e = .returned (.pointer bp) ∧ Calls Tryd.prog 8 #[.pointer bp, .int .i64 n] w1 fun e w2 => ∃ g, e = .returned (.tuple #[.slice (some ⟨g, 0, none⟩) (2 * n) (2 * n), .int .i64 0]) ∧ g < w2.heap.size ∧ Reads .i16 g (g + 1) w2 (.slice (some ⟨g, 0, none⟩) (2 * n) (2 * n)) (M.wns n) ∧ Below w.heap.size w w2 := by
    intro wa bela
    have sa := bela.size
    refine (Bank.new_any wa).mono ?_
    rintro e w1 ⟨rfl, s1, hB1, bel1⟩
    refine ⟨_, rfl, (Window_ok n (2 * n) (n / 2) (n / 4) _ _ [] 0 w1 (by unfold Lens at hlen; omega) (tab_b bel1 (Nat.le_refl _) (tab_b bela (Nat.le_refl _) hT)) hB1 (by simp) (by omega) (by omega)).mono ?_⟩
    rintro e w2 ⟨g, rfl, hg, hr, hs, -, bt⟩
    have b1 := below_but bel1 bt (Nat.le_refl _) (Nat.le_refl _)
    exact ⟨g, rfl, by omega, hr, bela.trans (b1.mono sa)⟩
  have hlap : ∀ wa, Below w.heap.size w wa → Calls Tryd.prog 9 #[] wa fun e w1 => ∃ bp, e = .returned (.pointer bp) ∧ Calls Tryd.prog 10 #[.pointer bp, .int .i64 n] w1 fun e w2 => ∃ p, e = .returned (.tuple #[.pointer p, .int .i64 0]) ∧ Below wa.heap.size wa w2 := by
    intro wa bela
    refine (madeL hn (tab_b bela (Nat.le_refl _) hT)).mono ?_
    rintro e w1 ⟨bp, rfl, h⟩
    refine ⟨bp, rfl, h.mono ?_⟩
    rintro e w2 ⟨gl, rfl, _, _, bel⟩
    exact ⟨_, rfl, bel⟩
  have hunl : ∀ wa, Below w.heap.size w wa → Calls Tryd.prog 9 #[] wa fun e w1 => ∃ bp, e = .returned (.pointer bp) ∧ Calls Tryd.prog 11 #[.pointer bp, .int .i64 n] w1 fun e w2 => ∃ p, e = .returned (.tuple #[.pointer p, .int .i64 0]) ∧ Below wa.heap.size wa w2 := by
    intro wa bela
    refine (madeU hn (tab_b bela (Nat.le_refl _) hT)).mono ?_
    rintro e w1 ⟨bp, rfl, h⟩
    refine ⟨bp, rfl, h.mono ?_⟩
    rintro e w2 ⟨gl, rfl, _, _, bel⟩
    exact ⟨_, rfl, bel⟩
  have hrow : ∀ wa, Below w.heap.size w wa →
      Calls Tryd.prog 9 #[] wa fun e w1 => ∃ bp, e = .returned (.pointer bp) ∧ Calls Tryd.prog 8 #[.pointer bp, .int .i64 n] w1 fun e w2 => ∃ g, e = .returned (.tuple #[.slice (some ⟨g, 0, none⟩) (2 * n) (2 * n), .int .i64 0]) ∧
      Calls Tryd.prog 9 #[] w2 fun e w3 => ∃ bp, e = .returned (.pointer bp) ∧ Calls Tryd.prog 10 #[.pointer bp, .int .i64 n] w3 fun e w4 => ∃ p, e = .returned (.tuple #[.pointer p, .int .i64 0]) ∧
      Calls Tryd.prog 9 #[] w4 fun e w5 => ∃ bp, e = .returned (.pointer bp) ∧ Calls Tryd.prog 11 #[.pointer bp, .int .i64 n] w5 fun e w6 => ∃ p, e = .returned (.tuple #[.pointer p, .int .i64 0]) ∧
      Calls Tryd.prog 8 #[.pointer none, .int .i64 n] w6 fun e w7 => e = .returned (.tuple #[.slice none 0 0, .int .i64 3]) ∧
      Calls Tryd.prog 14 #[.int .i64 n] w7 fun e w8 => ∃ g', e = .returned (.slice (some ⟨g', 0, none⟩) (2 * n) (2 * n)) ∧
      Calls Tryd.prog 13 #[.slice (some ⟨g, 0, none⟩) (2 * n) (2 * n), .slice (some ⟨g', 0, none⟩) (2 * n) (2 * n)] w8 fun e w9 => e = .returned (.bool true) ∧ Below w.heap.size w w9 := by
    intro wa bela
    refine (hwin wa bela).mono ?_
    rintro e w1 ⟨bp, rfl, h⟩
    refine ⟨bp, rfl, h.mono ?_⟩
    rintro e w2 ⟨g, rfl, hg, hr, bel2⟩
    refine ⟨g, rfl, (hlap w2 bel2).mono ?_⟩
    rintro e w3 ⟨bp, rfl, h⟩
    refine ⟨bp, rfl, h.mono ?_⟩
    rintro e w4 ⟨p, rfl, bel4⟩
    have s2 := bel2.size
    have b4 : Below w.heap.size w w4 := bel2.trans (bel4.mono s2)
    refine ⟨p, rfl, (hunl w4 b4).mono ?_⟩
    rintro e w5 ⟨bp, rfl, h⟩
    refine ⟨bp, rfl, h.mono ?_⟩
    rintro e w6 ⟨p, rfl, bel6⟩
    have s4 := bel4.size
    have b6 : Below w.heap.size w w6 := b4.trans (bel6.mono b4.size)
    refine ⟨p, rfl, (Window_nil n w6 hi).mono ?_⟩
    rintro e w7 ⟨rfl, bel7⟩
    have s6 := bel6.size
    refine ⟨rfl, (rWindow n (2 * n) (n / 2) (n / 4) w7 (by unfold Lens at hlen; omega)).mono ?_⟩
    rintro e w8 ⟨g', rfl, _, hr', _, bel8⟩
    have s7 := bel7.size
    have hr8 := Poly.Reads.below (Poly.Reads.below (Poly.Reads.below (Poly.Reads.below hr bel4 (by omega)) bel6 (by omega)) bel7 (by omega)) bel8 (by omega)
    refine ⟨g', rfl, (same16 _ _ _ _ _ _ _ _ hr8 hr' (by rw [M.wns_length]; omega)).mono ?_⟩
    rintro e w9 ⟨rfl, m, rfl⟩
    have b7 : Below w.heap.size w w7 := b6.trans (bel7.mono b6.size)
    exact ⟨rfl, below_drewN (b7.trans (bel8.mono b7.size)) _⟩
  have HR : Hid _ := hrow
  have HA := alive_any w hT
  have HI : Hid (_ ∨ _) := hi
  clear hrow hwin hlap hunl hT hn hlen hi
  generalize 2 * n = N2 at *
  go_enter Tryd.func3, Tryd.ntmps3
  go_wp2_with (first
    | (go_at_call 7; refine HA.mono ?_; clear HA; rintro e wa ⟨rfl, bela⟩; have h1 := HR.out wa bela; clear HR bela)
    | (go_at_call 9; refine h1.mono ?_; clear h1; rintro e w1 ⟨bp, rfl, h2⟩)
    | (go_at_call 8; refine h2.mono ?_; clear h2; rintro e w2 ⟨g, rfl, h3⟩)
    | (go_at_call 9; refine h3.mono ?_; clear h3; rintro e w3 ⟨bp3, rfl, h4⟩)
    | (go_at_call 10; refine h4.mono ?_; clear h4; rintro e w4 ⟨p4, rfl, h5⟩)
    | (go_at_call 9; refine h5.mono ?_; clear h5; rintro e w5 ⟨bp5, rfl, h6⟩)
    | (go_at_call 11; refine h6.mono ?_; clear h6; rintro e w6 ⟨p6, rfl, h7⟩)
    | (go_at_call 8; refine h7.mono ?_; clear h7; rintro e w7 ⟨rfl, h8⟩)
    | (go_at_call 12; refine (may_any _ _).mono ?_; rintro e w' ⟨r, rfl, hw, hr⟩; rw [hw]; clear hw w'; obtain rfl : r = true := hr.2 HI.out; clear hr)
    | (go_at_call 14; refine h8.mono ?_; clear h8; rintro e w8 ⟨g', rfl, h9⟩)
    | (go_at_call 13; refine h9.mono ?_; clear h9; rintro e w9 ⟨rfl, bel9⟩; have HB9 : Hid (Below _ _ _) := bel9; clear bel9))
  go_ret
  exact ⟨rfl, HB9.out⟩

set_option maxRecDepth 100000 in
theorem windows_no (n : Int) (w : World) (hn : ¬ (n = 40 ∨ n = 60 ∨ n = 80 ∨ n = 120)) (hT : Wave.Tab w) :
    Calls Tryd.prog 3 #[.int .i64 n] w fun e w' => e = .returned (.bool true) ∧ Below w.heap.size w w' := by
  have hnot : ∀ (x : Bool) (w : World), (Op.unary .not (.bool x)).run Tryd.prog w = .ok (.bool (!x)) w := fun _ _ => rfl
  have HA := alive_any w hT
  have HN : Hid (¬ (n = 40 ∨ n = 60 ∨ n = 80 ∨ n = 120)) := hn
  have one : ∀ (a b : World), Below w.heap.size w a → Below a.heap.size a b → Below w.heap.size w b := fun a b h1 h2 => h1.trans (h2.mono h1.size)
  have HO : Hid _ := one
  clear hn hT one
  go_enter Tryd.func3, Tryd.ntmps3
  go_wp2_with (first
    | (go_at_call 7; refine HA.mono ?_; clear HA; rintro e wa ⟨rfl, bel⟩)
    | (go_at_call 9; refine (Bank.new_any _).mono ?_; rintro e w1 ⟨rfl, -, -, bel1⟩; have bel' := HO.out _ _ bel bel1; clear bel bel1; have bel := bel'; clear bel')
    | (go_at_call 8; refine (Window_err n _ _ HN.out).mono ?_; rintro e w1 ⟨rfl, bel1⟩; have bel' := HO.out _ _ bel bel1; clear bel bel1; have bel := bel'; clear bel')
    | (go_at_call 10; refine (newLapper_err n _ _ HN.out).mono ?_; rintro e w1 ⟨rfl, bel1⟩; have bel' := HO.out _ _ bel bel1; clear bel bel1; have bel := bel'; clear bel')
    | (go_at_call 11; refine (newUnlapper_err n _ _ HN.out).mono ?_; rintro e w1 ⟨rfl, bel1⟩; have bel' := HO.out _ _ bel bel1; clear bel bel1; have bel := bel'; clear bel')
    | (go_at_call 12; refine (may_any _ _).mono ?_; rintro e w' ⟨r, rfl, hw, hr⟩; rw [hw]; clear hw w'; obtain rfl : r = false := Bool.eq_false_iff.2 (fun h => HN.out (hr.1 h)); clear hr))
  go_ret
  exact ⟨rfl, bel⟩

theorem LappedWindows_walk (n : Int) (w : World) (hT : Wave.Tab w) :
    Calls Tryd.prog 3 #[.int .i64 n] w fun e w' => e = .returned (.bool true) ∧ Below w.heap.size w w' := by
  by_cases h : n = 40 ∨ n = 60 ∨ n = 80 ∨ n = 120
  · obtain ⟨m, rfl⟩ : ∃ m : Nat, n = m := ⟨n.toNat, by omega⟩
    exact windows_ok m w (by unfold M.len9; omega) hT
  · exact windows_no n w h hT

end Lapd
end Go.Proofs.YtjfhlaahgfdmnaaDoor
