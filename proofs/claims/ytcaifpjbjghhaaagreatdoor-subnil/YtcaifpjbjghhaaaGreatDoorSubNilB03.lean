import Derived.Test.YtcaifpjbjghhaaaGreatDoorSubA00
import Derived.Test.YtcaifpjbjghhaaaGreatDoorSubA01
import Derived.Test.YtcaifpjbjghhaaaGreatDoorSubA02
import Derived.Test.YtcaifpjbjghhaaaGreatDoorSubA03
import Derived.Test.YtcaifpjbjghhaaaGreatDoorSubA04
import Derived.Test.YtcaifpjbjghhaaaGreatDoorSubA05
import Derived.Test.YtcaifpjbjghhaaaGreatDoorSubA06
import Derived.Test.YtcaifpjbjghhaaaGreatDoorSubA07
import Derived.Test.YtcaifpjbjghhaaaGreatDoorSubA08
import Derived.Test.YtcaifpjbjghhaaaGreatDoorSubA09
import Derived.Test.YtcaifpjbjghhaaaGreatDoorSubA10
import Derived.Test.YtcaifpjbjghhaaaGreatDoorSubA11
import Derived.Test.YtcaifpjbjghhaaaGreatDoorSubA12
import Derived.Test.YtcaifpjbjghhaaaGreatDoorSubA13
import Derived.Test.YtcaifpjbjghhaaaGreatDoorSubA14
import Derived.Test.YtcaifpjbjghhaaaGreatDoorSubA15
import Derived.Test.YtcaifpjbjghhaaaGreatDoorSubA16
import Derived.Test.YtcaifpjbjghhaaaGreatDoorSubA17
import Derived.Test.YtcaifpjbjghhaaaGreatDoorSubA18
import Derived.Test.YtcaifpjbjghhaaaGreatDoorSubA19
import Derived.Test.YtcaifpjbjghhaaaGreatDoorSubA20
import Derived.Test.YtcaifpjbjghhaaaGreatDoorSubA21
import Derived.Test.YtcaifpjbjghhaaaGreatDoorSubA22
import Derived.Test.YtcaifpjbjghhaaaGreatDoorSubA23
import Derived.Test.YtcaifpjbjghhaaaGreatDoorSubA24
import Derived.Test.YtcaifpjbjghhaaaGreatDoorSubA25
import Derived.Test.YtcaifpjbjghhaaaGreatDoorSubA26
import Derived.Test.YtcaifpjbjghhaaaGreatDoorSubA27
import Derived.Test.YtcaifpjbjghhaaaGreatDoorSubA28
import Derived.Test.YtcaifpjbjghhaaaGreatDoorSubA29
import Derived.Test.YtcaifpjbjghhaaaGreatDoorSubA30
import Derived.Test.YtcaifpjbjghhaaaGreatDoorSubA31
import Derived.Test.YtcaifpjbjghhaaaGreatDoorSubA32
import Derived.Test.YtcaifpjbjghhaaaGreatDoorSubA33
import Derived.Test.YtcaifpjbjghhaaaGreatDoorSubA34
import Derived.Test.YtcaifpjbjghhaaaGreatDoorSubA35
import Derived.Test.YtcaifpjbjghhaaaGreatDoorSubA36
import Derived.Test.YtcaifpjbjghhaaaGreatDoorSubA37
import Derived.Test.YtcaifpjbjghhaaaGreatDoorSubA38
import Derived.Test.YtcaifpjbjghhaaaGreatDoorSubA39
import Derived.Test.YtcaifpjbjghhaaaGreatDoorSubA40
import Derived.Test.YtcaifpjbjghhaaaGreatDoorSubA41
import Derived.Test.YtcaifpjbjghhaaaGreatDoorSubA42
import Derived.Test.YtcaifpjbjghhaaaGreatDoorSubA43
import Derived.Test.YtcaifpjbjghhaaaGreatDoorSubA44
import Derived.Test.YtcaifpjbjghhaaaGreatDoorSubNilB02
/-
  What nothing answers. Conditions: the polynomial's numbers and the offsets stand as their initialisers lay them; one goroutine.
-/
namespace Go.Proofs.YtcaifpjbjghhaaaGreatDoor
set_option linter.unusedVariables false
open Go.RowKit
namespace Sub
open Bank (Blk But)
open Poly (Reads)
open _root_.Go.Proofs.YtcaifpjbjghhaaaGreatDoor.Form (fv fc bel1 box_cells blk_below of_drew)

set_option maxRecDepth 100000 in
set_option maxHeartbeats 1000000 in
theorem SubNil_walk (f : M.Fmt) (v : Value) (x : List Int) (w : World) (hT : Wave.Tab w ∧ Alloc.Tabs w) (hx : Reads .i16 0 w.heap.size w v x) :
    Calls Tryz.prog 10 #[fv f, v] w fun e w' => e = .returned (.bool true) ∧ Below w.heap.size w w' := by
  obtain ⟨va, vc, rfl⟩ := hx.form
  have bel := bel1 w (.cells (fc f) 23)
  have hal := alive_any (w.alloc (.cells (fc f) 23)) (Bank.tab_below bel (Nat.le_refl _) hT.1) (hT.2.below bel (Nat.le_refl _))
  have HB : Hid (Below w.heap.size w _) := bel
  have hpl := fun wx => plain_any wx
  have HPl : Hid (∀ wx, Calls _ _ _ wx _) := hpl
  have hne := fun wx => NewEncoder_no (.pointer none) ⟨_, rfl⟩ Sub.f0 3 (by decide) wx fun wy => ofSplitter_nil Sub.f0 1 4 4 0 wy f0_sb
  have HNe : Hid (∀ wx, Calls _ _ _ wx _) := hne
  have hnd := fun wx => NewDecoder_no (.pointer none) ⟨_, rfl⟩ Sub.f0 3 (by decide) wx fun wy => ofJoiner_nil Sub.f0 1 4 4 0 wy f0_sb
  have HNd : Hid (∀ wx, Calls _ _ _ wx _) := hnd
  generalize x.length = xl at *
  clear hpl hne hnd hT hx bel
  obtain ⟨c_, r_, h_, b_, k_, m_, j_, p_, l_, y_⟩ := f
  unfold fv Sub.f0 at HPl HNe HNd
  unfold fv
  unfold fc at hal HB
  dsimp only at HPl HNe HNd hal HB ⊢
  go_enter Tryz.func10, Tryz.ntmps10
  go_wp2_with (first
    | (go_at_call 11; refine hal.mono ?_; clear hal; rintro e w1 ⟨rfl, b1⟩; have B1 : Hid (Below _ _ w1) := b1; clear b1)
    | (go_at_call 37; refine (EncoderReset_nil _).mono ?_; rintro e w2 ⟨rfl, rfl⟩)
    | (go_at_call 39; refine (DecoderReset_nil _).mono ?_; rintro e w2 ⟨rfl, rfl⟩)
    | (go_at_call 30; refine (Feed_nil _ _).mono ?_; rintro e w2 ⟨rfl, rfl⟩)
    | (go_at_call 33; refine (Play_nil _ _).mono ?_; rintro e w2 ⟨rfl, rfl⟩)
    | (go_at_call 40; refine (HPl.out _).mono ?_; rintro e w2 ⟨rfl, b2⟩; first | (have B4 : Hid (Below _ B3w w2) := b2; clear b2) | (have B2 : Hid (Below _ _ w2) := b2; clear b2))
    | (go_at_call 27; refine (HNe.out _).mono ?_; clear HNe; rintro e w3 ⟨rfl, b3⟩; have B3 : Hid (Below _ _ w3) := B2.out.trans (b3.mono B2.out.size); clear b3 B2)
    | (go_at_call 32; refine (HNd.out _).mono ?_; clear HNd; rintro e w5 ⟨rfl, b5⟩; have B5 : Hid (Below _ _ w5) := B2.out.trans (b5.mono B2.out.size); clear b5 B2))
  go_ret
  exact ⟨rfl, HB.out.trans ((B1.out.trans ((B3.out.trans (B5.out.mono B3.out.size)).mono B1.out.size)).mono HB.out.size)⟩

end Sub
end Go.Proofs.YtcaifpjbjghhaaaGreatDoor

