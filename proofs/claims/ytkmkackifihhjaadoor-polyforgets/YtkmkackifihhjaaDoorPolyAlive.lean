/-
  The chapter's example, and what can't be. Conditions: each number fits its kind; the polynomial's numbers stand as their initialiser lays them; one goroutine.
-/
import Derived.Test.YtkmkackifihhjaaDoorPolyLaws
namespace Go.Proofs.YtkmkackifihhjaaDoor
set_option linter.unusedVariables false
open Go.RowKit
namespace Poly
open Bank (Blk But)

/-- a new bank and a new splitter on it -/
theorem fresh {w w1 w2 : World} {gl : Nat} {m : Nat} {xs : List Int} (b1 : Below w.heap.size w w1) (s1 : w1.heap.size = w.heap.size + 1) (hS : Spl w1.heap.size gl m xs w2) (bt : But w.heap.size w1 w2) : Spl w.heap.size gl m xs w2 ∧ Below w.heap.size w w2 := by
  refine ⟨?_, below_but b1 bt (Nat.le_refl _) (Nat.le_refl _)⟩
  obtain ⟨h0, h1, h2, h3, h4, vf, vw, h5, h6, h7⟩ := hS
  exact ⟨by omega, h1, h2, h3, h4, vf, vw, h5, h6.mono (by omega) (Nat.le_refl _), h7.mono (by omega) (Nat.le_refl _)⟩
theorem freshJ {w w1 w2 : World} {gl : Nat} {m : Nat} {xs : List Int} (b1 : Below w.heap.size w w1) (s1 : w1.heap.size = w.heap.size + 1) (hS : Joi w1.heap.size gl m xs w2) (bt : But w.heap.size w1 w2) : Joi w.heap.size gl m xs w2 ∧ Below w.heap.size w w2 := by
  refine ⟨?_, below_but b1 bt (Nat.le_refl _) (Nat.le_refl _)⟩
  obtain ⟨h0, h1, h2, h3, h4, vf, vw, h5, h6, h7⟩ := hS
  exact ⟨by omega, h1, h2, h3, h4, vf, vw, h5, h6.mono (by omega) (Nat.le_refl _), h7.mono (by omega) (Nat.le_refl _)⟩
theorem tab_b {B : Nat} {w w' : World} (h : Below B w w') (hB : w.heap.size ≤ B) (hT : Wave.Tab w) : Wave.Tab w' := Bank.tab_below h hB hT

theorem second {w w3 : World} {gl : Nat} {va : Option Addr} {n vc : Nat} {xs zs : List Int} (hS : Spl w.heap.size gl 4 xs w3) (bel : Below w.heap.size w w3) (hr : Reads .i32 w.heap.size w3.heap.size w3 (.slice va n vc) zs) (C5 : Array Value) :
    Calls Tryd.prog 12 #[.pointer (some ⟨gl + 1, 0, none⟩), .slice (some ⟨w3.heap.size, 0, none⟩) 5 5] (w3.alloc (.cells C5 32)) (fun e w' => e = .returned (.tuple #[.slice none 0 0, .int .i64 1]) ∧ w' = w3.alloc (.cells C5 32)) ∧
      ∀ C32 : Array Value, Below w.heap.size w ((w3.alloc (.cells C5 32)).alloc (.cells C32 21)) ∧ Reads .i32 w.heap.size w3.heap.size ((w3.alloc (.cells C5 32)).alloc (.cells C32 21)) (.slice va n vc) zs := by
  have b1 : Below w3.heap.size w3 (w3.alloc (.cells C5 32)) := (Below.refl _ _).alloc (Nat.le_refl _) _
  refine ⟨splitFeed_err _ gl 4 _ _ 5 _ _ (hS.below b1 hS.2.1) (by decide), fun C32 => ?_⟩
  have bel1 := bel.alloc bel.size (.cells C5 32)
  have b2 : Below w3.heap.size w3 ((w3.alloc (.cells C5 32)).alloc (.cells C32 21)) := b1.alloc b1.size _
  exact ⟨bel1.alloc bel1.size _, hr.below b2 (Nat.le_refl _)⟩

set_option maxRecDepth 100000 in
set_option maxHeartbeats 1000000 in
theorem alive_any (w : World) (hT : Wave.Tab w) : Calls Tryd.prog 8 #[] w fun e w' => e = .returned (.bool true) ∧ Below w.heap.size w w' := by
  have hm4 : ∀ wx : World, (Instr.makeSlice 22 (.int .i64 4) (.int .i64 4)).run Tryd.prog wx = .ok (.slice (some ⟨wx.heap.size, 0, none⟩) 4 4) (wx.alloc (.cells (enc .i16 (List.replicate 4 0)).toArray 32)) := fun wx => make16 wx 4 (by omega)
  have hm5 : ∀ wx : World, (Instr.makeSlice 22 (.int .i64 5) (.int .i64 5)).run Tryd.prog wx = .ok (.slice (some ⟨wx.heap.size, 0, none⟩) 5 5) (wx.alloc (.cells (enc .i16 (List.replicate 5 0)).toArray 32)) := fun wx => make16 wx 5 (by omega)
  have hm32 : ∀ wx : World, (Instr.makeSlice 33 (.int .i64 4) (.int .i64 4)).run Tryd.prog wx = .ok (.slice (some ⟨wx.heap.size, 0, none⟩) 4 4) (wx.alloc (.cells (enc .i32 (List.replicate 4 0)).toArray 21)) := fun wx => make32 wx 4 (by omega)
  have H4 : Hid (∀ wx : World, Reads .i16 wx.heap.size (wx.heap.size + 1) (wx.alloc (.cells (enc .i16 (List.replicate 4 0)).toArray 32)) (.slice (some ⟨wx.heap.size, 0, none⟩) 4 4) (List.replicate 4 0)) := fun wx => reads_new16 wx 4
  have H32 : Hid (∀ wx : World, Reads .i32 wx.heap.size (wx.heap.size + 1) (wx.alloc (.cells (enc .i32 (List.replicate 4 0)).toArray 21)) (.slice (some ⟨wx.heap.size, 0, none⟩) 4 4) (List.replicate 4 0)) := fun wx => reads_new32 wx 4
  generalize (enc .i16 (List.replicate 4 0)).toArray = C4 at *
  generalize (enc .i16 (List.replicate 5 0)).toArray = C5 at *
  generalize (enc .i32 (List.replicate 4 0)).toArray = C32 at *
  have hnot : ∀ (x : Bool) (w : World), (Op.unary .not (.bool x)).run Tryd.prog w = .ok (.bool (!x)) w := fun _ _ => rfl
  have hfirst : ∀ (w2 : World) (gl : Nat), Spl w.heap.size gl 4 (List.replicate (10 * 4) 0) w2 → Below w.heap.size w w2 →
      Calls Tryd.prog 12 #[.pointer (some ⟨gl + 1, 0, none⟩), .slice (some ⟨w2.heap.size, 0, none⟩) 4 4] (w2.alloc (.cells C4 32)) fun e w3 => ∃ v, e = .returned (.tuple #[v, .int .i64 0]) ∧ Spl w.heap.size gl 4 (List.replicate (10 * 4) 0) w3 ∧ Below w.heap.size w w3 ∧ Reads .i32 w.heap.size w3.heap.size w3 v (List.replicate 4 0) := by
    intro w2 gl hS hb
    have b3 : Below w2.heap.size w2 (w2.alloc (.cells C4 32)) := (Below.refl _ _).alloc (Nat.le_refl _) _
    have h1 := hS.2.1
    have hs := hb.size
    refine (splitFeed 4 8 40 w.heap.size gl w2.heap.size (w2.heap.size + 1) 17 (List.replicate 4 0) _ _ _ (.inl ⟨rfl, rfl, rfl, rfl⟩) (hS.below b3 h1) (H4.out w2) (by simp) (by simp) (.inl (by omega))).mono ?_
    rintro e w3 ⟨v, rfl, hS3, bt, hr⟩
    rw [M.nx_zero] at hS3 hr
    rw [M.spl_zero (.inl rfl)] at hr
    have hsz : (w2.alloc (.cells C4 32)).heap.size = w2.heap.size + 1 := by simp
    rw [hsz] at hr
    have hgl := hS.1
    exact ⟨v, rfl, hS3, below_but (hb.alloc hs _) bt (Nat.le_refl _) hgl, hr.mono (by omega) (Nat.le_refl _)⟩
  have HF : Hid _ := hfirst
  have HT : Hid (Wave.Tab w) := hT
  clear hfirst hT
  go_enter Tryd.func8, Tryd.ntmps8
  go_wp2_with (first
    | (go_at_call 10; refine (Bank.new_any _).mono ?_; rintro e w1 ⟨rfl, s1, hB1, bel1⟩; have hT1 := tab_b bel1 (Nat.le_refl _) HT.out)
    | (go_at_call 9; refine (newSplitter_ok 4 8 32 40 _ _ _ (.inl ⟨rfl, rfl, rfl, rfl⟩) hT1 hB1).mono ?_; rintro e w2 ⟨gl, rfl, hS, -, bt⟩; obtain ⟨hS2, bel2⟩ := fresh bel1 s1 hS bt; have hfeed := HF.out w2 gl hS2 bel2; clear hS bt hB1 hT1 bel1 s1 hS2 bel2 HF)
    | (go_at_call 12; refine hfeed.mono ?_; clear hfeed; rintro e w3 ⟨v, rfl, hS3, bel3, hr3⟩; obtain ⟨va, vc, rfl⟩ := hr3.form; obtain ⟨hE, hrest⟩ := second hS3 bel3 hr3 C5; have HR3 : Hid _ := hrest; clear hS3 bel3 hr3 hrest)
    | (go_at_call 12; refine hE.mono ?_; clear hE; rintro e w' ⟨rfl, hw⟩; rw [hw]; clear hw w'; obtain ⟨bel5, hr5⟩ := HR3.out C32; have hz5 := H32.out (w3.alloc (.cells C5 32)); rw [alloc_size] at hz5; have hsame := same32 _ _ _ _ _ _ _ _ hr5 hz5 (by decide); have HB5 : Hid (Below _ _ _) := bel5; clear hr5 hz5 bel5 HR3 H32)
    | (go_at_call 13; refine hsame.mono ?_; rintro e w' ⟨rfl, n, rfl⟩))
  go_ret
  exact ⟨rfl, below_drewN HB5.out _⟩

end Poly
end Go.Proofs.YtkmkackifihhjaaDoor
