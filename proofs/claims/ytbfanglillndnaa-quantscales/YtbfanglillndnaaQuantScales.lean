/-
  The law of scales. Conditions: none but that the plane is one that is handed in.
-/
import Derived.Test.YtbfanglillndnaaQuantRefS
namespace Go.Proofs.Ytbfanglillndnaa
set_option linter.unusedVariables false
open Go.RowKit
namespace Qnt
open Poly (cell_keep)

theorem bel_dr {w w' : World} {m : Nat} (h : w' = w.drewN m) : Below w.heap.size w w' := by subst h; exact bel_drewN w m
theorem below_drN {B : Nat} {w w' : World} (h : Below B w w') (m : Nat) : Below B w (w'.drewN m) := ⟨h.os, h.tape, h.output, h.size, h.block⟩

set_option maxHeartbeats 4000000 in
set_option maxRecDepth 100000 in
theorem QuantScales_walk (v : Value) (zss : List (List Int)) (w : World) (hZ : Poly.Rows .i32 0 w.heap.size w v zss) :
    Calls Try.prog 4 #[v] w fun e w' => e = .returned (.bool true) ∧ Below w.heap.size w w' := by
  have hd := rows_hd hZ
  have hfit := rows_fit hZ
  have hfar : ∀ wx, Below w.heap.size w wx → Calls Try.prog 15 #[v] wx fun e w' => Yes (FarL zss.length (len zss)) wx e w' := fun wx hb => Far_any w.heap.size v _ _ wx (hd.below hb (Nat.le_refl _))
  by_cases hf : FarL zss.length (len zss)
  · have h1 : ∀ wx, Below w.heap.size w wx → Calls Try.prog 15 #[v] wx fun e w' => e = .returned (.bool true) ∧ w' = wx := fun wx hb => (hfar wx hb).mono fun e w' h => h.yes hf
    obtain ⟨a, cp, rfl⟩ := hd.form
    clear hfar hd hfit hZ hf
    go_enter Try.func4, Try.ntmps4
    go_wp2_with (first
      | (go_at_call 8; refine (alive_any _).mono ?_; rintro e w' ⟨rfl, m0, rfl⟩)
      | (go_at_call 15; refine (h1 _ (bel_drewN _ _)).mono ?_; rintro e w' ⟨rfl, rfl⟩))
    go_ret
    exact ⟨rfl, bel_drewN _ _⟩
  · have h1 : ∀ wx, Below w.heap.size w wx → Calls Try.prog 15 #[v] wx fun e w' => e = .returned (.bool false) ∧ w' = wx := fun wx hb => (hfar wx hb).mono fun e w' h => h.no hf
    by_cases hp : PlL zss.length (len zss)
    · have hv := rows_vw hZ hp
      obtain ⟨p1, p2, p3, p4⟩ := hp
      have n40 : zss.length ≤ 40 := by
        rcases Nat.lt_or_ge 40 zss.length with h | h
        · exact absurd (.inl h) hf
        · exact h
      have h2 : ∀ wx, Below w.heap.size w wx → Calls Try.prog 16 #[v] wx fun e w' => e = .returned (.tuple #[.slice (some ⟨wx.heap.size + 1, 0, none⟩) (len zss 0) (len zss 0), .int .i64 0]) ∧ Below wx.heap.size wx w' ∧ Tb (wx.heap.size + 1) 3 .i64 (len zss 0) (M.scl (el zss) zss.length) w' ∧ w'.heap.size = wx.heap.size + 2 :=
        fun wx hb => Scales_ok w.heap.size v _ _ (el zss) wx (hv.below hb (Nat.le_refl _)) hfit p1 n40 p2 p3 hb.size
      have h3 : ∀ wx, Below w.heap.size w wx → Calls Try.prog 17 #[v] wx fun e w' => e = .returned (.int .i64 (len zss 0 : Nat)) ∧ w' = wx := fun wx hb => (rBands_any w.heap.size v _ _ wx (hd.below hb (Nat.le_refl _)) hf).mono fun e w' ⟨k, he, hk, hw⟩ => by
        rcases hk with ⟨_, rfl⟩ | ⟨hn, _⟩
        · exact ⟨he, hw⟩
        · exact absurd ⟨p1, p2, p3, p4⟩ hn
      have h4 : ∀ wx, Below w.heap.size w wx → Calls Try.prog 18 #[v] wx fun e w' => ∃ u, e = .returned u ∧ Lst wx (len zss 0) (M.scl (el zss) zss.length) u w' ∧ Below wx.heap.size wx w' :=
        fun wx hb => rScales_any w.heap.size v _ _ (el zss) wx (hv.below hb (Nat.le_refl _)) hfit p1 n40 p2 p3 hb.size
      obtain ⟨b0, o0, cp, rfl⟩ := hv.form
      generalize M.scl (el zss) zss.length = G at *
      generalize len zss 0 = C at *
      have hC0 : ((C : Int) == 0) = false := by simp; omega
      have c8 : (C : Int) ≤ 8 := by omega
      have HA2 : Hid _ := h2
      have HA3 : Hid _ := h3
      have HA4 : Hid _ := h4
      clear hfar hd hfit hZ hf hv h2 h3 h4 p4
      go_enter Try.func4, Try.ntmps4
      go_wp2_with (first
        | (go_at_call 8; refine (alive_any _).mono ?_; rintro e w' ⟨rfl, m0, rfl⟩)
        | (go_at_call 15; refine (h1 _ (bel_drewN _ _)).mono ?_; rintro e w' ⟨rfl, rfl⟩)
        | (go_at_call 16; refine (HA2.out _ (bel_drewN _ _)).mono ?_; rintro e w2 ⟨rfl, b2, t2, s2⟩; have B2 : Hid (Below w.heap.size w w2) := (bel_drewN w m0).trans b2; have T2 : Hid (Tb (w.heap.size + 1) 3 .i64 C G w2) := t2; have S2 : Hid (w2.heap.size = w.heap.size + 2) := s2; clear b2 t2 s2)
        | (go_at_call 17; refine (HA3.out _ B2.out).mono ?_; rintro e w' ⟨rfl, rfl⟩)
        | (go_at_call 18; refine (HA4.out _ B2.out).mono ?_; rintro e w4 ⟨u, rfl, ⟨b, off, c, rfl, l1, l2, l3⟩, b4⟩; have B4 : Hid (Below w.heap.size w w4) := B2.out.trans (b4.mono B2.out.size); have T4 : Hid (Tb (w.heap.size + 1) 3 .i64 C G w4) := T2.out.below b4 T2.out.lt; have L4 : Hid (∀ j, j < C → w4.cell? ⟨b, off + j, none⟩ = some (.int .i64 (G j))) := l3; clear l1 l2 l3 b4))
      go_loopw [6] (fun i wr => ∃ k : Nat, k ≤ C ∧ i = .int .i64 k ∧ ∃ m, wr = w4.drewN m) (fun i _ => C - (intOf i).toNat)
      case atStart => exact ⟨0, by omega, rfl, 0, rfl⟩
      case round =>
        obtain ⟨k, hk, rfl, hw⟩ := hrel
        have HW : Hid (∃ m, wr = w4.drewN m) := hw
        by_cases hlt : k < C
        · have hlt' : (k : Int) < C := by omega
          have x1 : wr.cell? ⟨w.heap.size + 1, k, none⟩ = some (.int .i64 (G k)) := by obtain ⟨m, rfl⟩ := hw; exact T4.out.cell hlt
          have x2 : wr.cell? ⟨b, off + k, none⟩ = some (.int .i64 (G k)) := by obtain ⟨m, rfl⟩ := hw; exact L4.out k hlt
          clear hw
          generalize G k = y at *
          go_wp2
          go_quiet (fail)
          go_wp2
          go_roundw
          case rel => exact ⟨k + 1, by omega, by go_num, by obtain ⟨m, e⟩ := HW.out; exact ⟨m + nq, by rw [e]; simp [World.drewN]; try omega⟩⟩
          case measure => simp [intOf]; omega
        · obtain rfl : k = C := by omega
          clear hw
          go_wp2
          go_ret
          refine ⟨rfl, ?_⟩
          obtain ⟨m, e⟩ := HW.out
          rw [e]; exact below_drN B4.out _
    · have h2 : ∀ wx, Below w.heap.size w wx → Calls Try.prog 16 #[v] wx fun e w' => e = .returned (.tuple #[.slice none 0 0, .int .i64 1]) ∧ w' = wx := fun wx hb => Scales_no w.heap.size v _ _ wx (hd.below hb (Nat.le_refl _)) hf hp
      have h3 : ∀ wx, Below w.heap.size w wx → Calls Try.prog 17 #[v] wx fun e w' => e = .returned (.int .i64 0) ∧ w' = wx := fun wx hb => (rBands_any w.heap.size v _ _ wx (hd.below hb (Nat.le_refl _)) hf).mono fun e w' ⟨k, he, hk, hw⟩ => by
        rcases hk with ⟨hy, _⟩ | ⟨_, rfl⟩
        · exact absurd hy hp
        · exact ⟨he, hw⟩
      obtain ⟨a, cp, rfl⟩ := hd.form
      clear hfar hd hfit hZ hf hp
      go_enter Try.func4, Try.ntmps4
      go_wp2_with (first
        | (go_at_call 8; refine (alive_any _).mono ?_; rintro e w' ⟨rfl, m0, rfl⟩)
        | (go_at_call 15; refine (h1 _ (bel_drewN _ _)).mono ?_; rintro e w' ⟨rfl, rfl⟩)
        | (go_at_call 16; refine (h2 _ (bel_drewN _ _)).mono ?_; rintro e w' ⟨rfl, rfl⟩)
        | (go_at_call 17; refine (h3 _ (bel_drewN _ _)).mono ?_; rintro e w' ⟨rfl, rfl⟩))
      go_ret
      exact ⟨rfl, bel_drewN _ _⟩

end Qnt
end Go.Proofs.Ytbfanglillndnaa
