/-
  The document's answer: two channels of middle and side of two planes. Conditions: as told at each.
-/
import Derived.Test.YtbfanglillndnaaQuantGat
import Derived.Test.YtbfanglillndnaaQuantScal
namespace Go.Proofs.Ytbfanglillndnaa
set_option linter.unusedVariables false
open Go.RowKit
namespace Qnt
open Bank (Blk But)
open Poly (cell_keep alloc_size enc enc_get)

set_option maxHeartbeats 8000000 in
set_option maxRecDepth 100000 in
theorem rSides_any (hi : Nat) (va vb : Value) (n C : Nat) (X Y : Nat → Nat → Int) (w : World) (ha : Vw hi va n C X w) (hb : Vw hi vb n C Y w) (hX : F32 X) (hY : F32 Y) (n1 : 1 ≤ n) (n40 : n ≤ 40) (c1 : 1 ≤ C) (c8 : C ≤ 8) (hh : hi ≤ w.heap.size) :
    Calls Try.prog 24 #[va, vb] w fun e w' => ∃ u1 u2, e = .returned (.tuple #[u1, u2]) ∧ Below w.heap.size w w' ∧ Vw w'.heap.size u1 n C (fun i b => M.sat32 (X i b + Y i b)) w' ∧ Vw w'.heap.size u2 n C (fun i b => M.sat32 (X i b - Y i b)) w' := by
  obtain ⟨i0, hi0, hz0, hz1, hz2⟩ := info_parts Poly.info32
  obtain ⟨j0, hj0, hy0, hy1, hy2⟩ := info_parts Poly.infoS32
  obtain ⟨F, hF⟩ : ∃ F : Nat → Nat → Int, F = fun i b => M.sat32 (X i b + Y i b) := ⟨_, rfl⟩
  obtain ⟨G, hG⟩ : ∃ G : Nat → Nat → Int, G = fun i b => M.sat32 (X i b - Y i b) := ⟨_, rfl⟩
  have HFe : Hid (∀ i b, F i b = M.sat32 (X i b + Y i b)) := fun i b => by rw [hF]
  have HGe : Hid (∀ i b, G i b = M.sat32 (X i b - Y i b)) := fun i b => by rw [hG]
  rw [← hF, ← hG]
  obtain ⟨ba0, oa0, ca, rfl⟩ := ha.form
  obtain ⟨bb0, ob0, cb, rfl⟩ := hb.form
  have HA : Hid _ := ha.all hh
  have HB : Hid _ := hb.all hh
  have n0' : (0 : Int) < n := by omega
  have n40' : (n : Int) ≤ 40 := by omega
  have c8' : (C : Int) ≤ 8 := by omega
  have HX : Hid (F32 X) := hX
  have HY : Hid (F32 Y) := hY
  have H0 : Hid (Ou w C 0 F G (.slice none 0 0) (.slice none 0 0) w) := Ou.start w C F G
  clear ha hb hX hY hF hG
  go_enter Try.func24, Try.ntmps24
  go_wp2
  go_loopw [6, 7, 8] (fun um us i wr => ∃ k : Nat, k ≤ n ∧ i = .int .i64 k ∧ Ou w C k F G um us wr) (fun _ _ i _ => n - (intOf i).toNat)
  case atStart => exact ⟨0, by omega, rfl, H0.out⟩
  case round =>
    clear H0
    obtain ⟨i, hi', rfl, hO⟩ := hrel
    by_cases hlt : i < n
    · have hlt' : (i : Int) < n := by omega
      obtain ⟨ba1, oa1, ca1, _, hra⟩ := HA.out i hlt
      obtain ⟨bb1, ob1, cb1, _, hrb⟩ := HB.out i hlt
      have HRa : Hid (∀ wx, Below w.heap.size w wx → wx.cell? ⟨ba0, oa0 + i, none⟩ = some (.slice (some ⟨ba1, oa1, none⟩) C ca1) ∧ ∀ k, k < C → wx.cell? ⟨ba1, oa1 + k, none⟩ = some (.int .i32 (X i k))) := hra
      have HRb : Hid (∀ wx, Below w.heap.size w wx → wx.cell? ⟨bb0, ob0 + i, none⟩ = some (.slice (some ⟨bb1, ob1, none⟩) C cb1) ∧ ∀ k, k < C → wx.cell? ⟨bb1, ob1 + k, none⟩ = some (.int .i32 (Y i k))) := hrb
      obtain ⟨N, hN⟩ : ∃ N, wr.heap.size = N := ⟨_, rfl⟩
      have hS := hO.inner
      rw [hN] at hS
      have HS : Hid (St w N C i 0 0 F G _ _ (.slice none 0 0) (.slice none 0 0) wr) := hS
      clear hO hS hra hrb hN
      go_wp2
      go_loopw [9, 10, 11] (fun a b j wx => ∃ k : Nat, k ≤ C ∧ j = .int .i64 k ∧ St w N C i k k F G u6 u7 a b wx) (fun _ _ j _ => C - (intOf j).toNat)
      case atStart => exact ⟨0, by omega, rfl, HS.out⟩
      case round =>
        clear HS
        obtain ⟨k, hk, rfl, hS⟩ := hrel
        obtain ⟨x1, x2⟩ := HRa.out wr hS.bel
        by_cases hkl : k < C
        · have hkl' : (k : Int) < C := by omega
          obtain ⟨y1, y2⟩ := HRb.out wr hS.bel
          replace x2 := x2 k hkl
          replace y2 := y2 k hkl
          obtain ⟨bx1, bx2⟩ := HX.out i k
          obtain ⟨by1, by2⟩ := HY.out i k
          have hfe := HFe.out i k
          have hge := HGe.out i k
          have HS : Hid (St w N C i k k F G u6 u7 u9 u10 wr) := hS
          clear hS
          obtain ⟨fx, hfx⟩ : ∃ fx, F i k = fx := ⟨_, rfl⟩
          obtain ⟨gx, hgx⟩ : ∃ gx, G i k = gx := ⟨_, rfl⟩
          have HFx : Hid (F i k = fx) := hfx
          have HGx : Hid (G i k = gx) := hgx
          rw [hfx] at hfe
          rw [hgx] at hge
          clear hfx hgx
          generalize X i k = x at *
          generalize Y i k = y at *
          obtain ⟨sa1, sa2⟩ := M.sat32_bd (x + y)
          obtain ⟨sb1, sb2⟩ := M.sat32_bd (x - y)
          subst hfe hge
          go_wp2
          go_quiet (fail)
          have HS1 : Hid (St w N C i k k F G u6 u7 u9 u10 (wr.drewN nq)) := HS.out.drewN nq
          have hown := HS1.out.ra
          have hsz : N ≤ wr.heap.size := HS.out.hi
          go_wp2_with (first
            | (go_at_call 41; refine (Ref.Sat_any _ _ (by omega) (by omega)).mono ?_; rintro e w' ⟨rfl, rfl⟩)
            | (at_builtin; refine wpList_append_own_at _ rfl (.tmp 45) (.tmp 51) 52 rfl N 21 i0 (.int .i32 0) 1 4 Try.underlying52 hi0 hz0 hz1 hz2 rfl (by decide) _ _ _ rfl (hown.alloc _) ⟨_, 0, none⟩ 1 1 [.int .i32 (M.sat32 (x + y))] rfl rfl (cell_one_new _ _ _) ?c2 ?c3 ?c4 ?c5 ?_))
          case c2 => intro u hu; simp at hu; subst hu; rfl
          case c3 => unfold maxLen; omega
          case c4 => omega
          case c5 => simp; omega
          · intro va' w4 hown4 hgrow4 _ hat4
            have HS4 : Hid (St w N C i (k + 1) k F G u6 u7 va' u10 w4) := HS1.out.stepA HFx.out hown4 hgrow4 hat4
            have hown5 := HS4.out.rb
            have hsz5 := HS4.out.hi
            clear hown hsz hown4 hgrow4 hat4
            go_wp2_with (first
              | (go_at_call 41; refine (Ref.Sat_any _ _ (by omega) (by omega)).mono ?_; rintro e w' ⟨rfl, rfl⟩)
              | (at_builtin; refine wpList_append_own_at _ rfl (.tmp 53) (.tmp 59) 52 rfl N 21 i0 (.int .i32 0) 1 4 Try.underlying52 hi0 hz0 hz1 hz2 rfl (by decide) _ _ _ rfl (hown5.alloc _) ⟨_, 0, none⟩ 1 1 [.int .i32 (M.sat32 (x - y))] rfl rfl (cell_one_new _ _ _) ?d2 ?d3 ?d4 ?d5 ?_))
            case d2 => intro u hu; simp at hu; subst hu; rfl
            case d3 => unfold maxLen; omega
            case d4 => omega
            case d5 => simp; omega
            · intro vb' w6 hown6 hgrow6 _ hat6
              have HS6 : Hid (St w N C i (k + 1) (k + 1) F G u6 u7 va' vb' w6) := HS4.out.stepB HGx.out hown6 hgrow6 hat6
              clear hown5 hsz5 hown6 hgrow6 hat6
              go_wp2
              go_roundw
              case rel => exact ⟨k + 1, by omega, by go_num, HS6.out⟩
              case measure => simp [intOf]; omega
        · obtain rfl : k = C := by omega
          have HS : Hid (St w N k i k k F G u6 u7 u9 u10 wr) := hS
          obtain ⟨um', hum⟩ := hS.hm.form
          have HUm : Hid (wr.ownsRow w.heap.size 52 1 u6 i um') := hum
          have hsz : w.heap.size ≤ wr.heap.size := hS.bel.size
          have hone : ∃ a c, u9 = .slice a k c := Poly.own_form hS.ra
          have htwo : ∃ a c, u10 = .slice a k c := Poly.own_form hS.rb
          clear hS x2
          obtain ⟨a9, c9, rfl⟩ := hone
          obtain ⟨a10, c10, rfl⟩ := htwo
          go_wp2_with (at_builtin; refine wpList_append_own_at _ rfl (.tmp 61) (.tmp 63) 34 rfl w.heap.size 52 j0 (.slice none 0 0) 1 24 Try.underlying34 hj0 hy0 hy1 hy2 rfl (by decide) _ _ _ rfl (hum.alloc _) ⟨_, 0, none⟩ 1 1 [.slice a9 k c9] rfl rfl (cell_one_new _ _ _) ?c2 ?c3 ?c4 ?c5 ?_)
          case c2 => intro u hu; simp at hu; subst hu; rfl
          case c3 => unfold maxLen; omega
          case c4 => omega
          case c5 => simp; omega
          · intro um2 w4 hown4 hgrow4 _ hat4
            have HM : Hid (Md w wr.heap.size k i F G um2 u7 (.slice a10 k c10) w4) := HS.out.stepM (fun xs hxs => by rw [own_uniq hxs HUm.out]; exact hown4) hgrow4 hat4
            obtain ⟨us', hus⟩ := HM.out.hs.form
            have HUs : Hid (w4.ownsRow w.heap.size 52 1 u7 i us') := hus
            have hsz4 : w.heap.size ≤ w4.heap.size := HM.out.bel.size
            clear hown4 hgrow4 hat4 hum
            go_wp2_with (at_builtin; refine wpList_append_own_at _ rfl (.tmp 65) (.tmp 67) 34 rfl w.heap.size 52 j0 (.slice none 0 0) 1 24 Try.underlying34 hj0 hy0 hy1 hy2 rfl (by decide) _ _ _ rfl (hus.alloc _) ⟨_, 0, none⟩ 1 1 [.slice a10 k c10] rfl rfl (cell_one_new _ _ _) ?d2 ?d3 ?d4 ?d5 ?_)
            case d2 => intro u hu; simp at hu; subst hu; rfl
            case d3 => unfold maxLen; omega
            case d4 => omega
            case d5 => simp; omega
            · intro us2 w6 hown6 hgrow6 _ hat6
              have HO : Hid (Ou w k (i + 1) F G um2 us2 w6) := HM.out.stepS (fun xs hxs => by rw [own_uniq hxs HUs.out]; exact hown6) hgrow6 hat6
              clear hown6 hgrow6 hat6 hus
              go_wp2
              go_roundw
              case rel => exact ⟨i + 1, by omega, by go_num, HO.out⟩
              case measure => simp [intOf]; omega
    · obtain rfl : i = n := by omega
      have HO : Hid (Ou w C i F G u6 u7 wr) := hO
      clear hO
      go_wp2
      go_ret2
      exact ⟨_, _, rfl, HO.out.bel, HO.out.hm.vw n1 c1, HO.out.hs.vw n1 c1⟩

end Qnt
end Go.Proofs.Ytbfanglillndnaa
