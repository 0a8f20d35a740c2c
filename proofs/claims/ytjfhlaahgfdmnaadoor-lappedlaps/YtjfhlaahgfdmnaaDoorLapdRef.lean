/-
  The document's answer for layer 9: the waves, a lapper's answer. Conditions: as told at each.
-/
import Derived.Test.YtjfhlaahgfdmnaaDoorLapdWindow
namespace Go.Proofs.YtjfhlaahgfdmnaaDoor
set_option linter.unusedVariables false
open Go.RowKit
namespace M
theorem take_snoc {l : List Int} {k : Nat} (h : k < l.length) : l.take (k + 1) = l.take k ++ [l.getD k 0] := by
  rw [List.take_add_one]
  congr 1
  simp [List.getD, h]
end M
namespace Lapd
open Bank (Blk But)
open Poly (Reads enc enc_get enc_length enc_rep enc_one fit16 fit32 wf64 Gat reads_blk reads_own cell_keep below_but below_drewN below_drew alloc_size info64 info32)

/-- a slice literal of one number reads as that number -/
theorem lit_one (w : World) (x : Value) (t : TypeId) : ∀ j u, ([x] : List Value)[j]? = some u → (w.alloc (.cells #[x] t)).cell? ((⟨w.heap.size, 0, none⟩ : Addr).add j) = some u := by
  intro j u hj
  match j, hj with
  | 0, hj => simp at hj; subst hj; simp [Addr.add]

theorem rsat (n : Int) (w : World) (h0 : -9223372036854775808 ≤ n) (h1 : n ≤ 9223372036854775807) :
    Calls Tryd.prog 36 #[.int .i64 n] w fun e w' => e = .returned (.int .i64 (M.sat32 n)) ∧ w' = w := by
  go_enter Tryd.func36, Tryd.ntmps36
  go_wp2_with (go_at_call 50; refine (Ref.Sat_any n _ h0 h1).mono ?_; rintro e w' ⟨rfl, hw⟩; rw [hw]; clear hw w')
  go_ret
  exact ⟨rfl, rfl⟩

set_option maxRecDepth 100000 in
set_option maxHeartbeats 1000000 in
theorem rWaves (n N8 : Nat) (w : World) (e8 : 8 * n = N8) (n0 : 1 ≤ n) (n1 : n ≤ 120) :
    Calls Tryd.prog 34 #[.int .i64 n] w fun e w' => ∃ b off c, e = .returned (.slice (some ⟨b, off, none⟩) N8 c) ∧ b < w'.heap.size ∧ (∀ i, i < N8 → w'.cell? ⟨b, off + i, none⟩ = some (.int .i64 ((M.cn n).getD i 0))) ∧ Below w.heap.size w w' := by
  obtain ⟨i0, hi0, hz0, hz1, hz2⟩ := info_parts info64
  have i8 : 8 * (n : Int) = (N8 : Int) := by omega
  have b8 : (N8 : Int) ≤ 960 := by omega
  have b1 : (n : Int) ≤ 120 := by omega
  have hlen : (M.cn n).length = N8 := by rw [M.cn_length]; exact e8
  have hcos : ∀ (k : Nat) (wx : World), k < N8 → Calls Tryd.prog 48 #[.int .i64 k, .int .i64 N8] wx fun e w' => e = .returned (.tuple #[.int .i16 ((M.cn n).getD k 0), .int .i64 (M.waveE N8)]) ∧ w' = wx := by
    intro k wx hk
    have e : M.cosineI k N8 = (M.cn n).getD k 0 := by
      rw [M.cn_get (by omega), e8]
      exact if_pos (by omega)
    have := Wave.refCosine_all k N8 wx
    rw [e] at this
    exact this
  have hb := M.cn_fits (n := n) n0
  have H0 := Gat.nil .i64 2 w
  have HCo : Hid _ := hcos
  have HL : Hid (_ = _) := hlen
  have HFi : Hid (M.fits16 (M.cn n)) := hb
  generalize M.cn n = CN at *
  generalize M.waveE N8 = ev at *
  clear hcos hlen hb e8
  obtain ⟨B, hB⟩ : ∃ B, w.heap.size = B := ⟨_, rfl⟩
  rw [hB] at H0
  have HB : Hid (_ = _) := hB
  clear hB
  go_enter Tryd.func34, Tryd.ntmps34
  go_wp2
  go_loopw [3, 4] (fun v i wr => ∃ k : Nat, k ≤ N8 ∧ i = .int .i64 k ∧ Gat .i64 2 B v (CN.take k) w wr) (fun _ i _ => N8 - (intOf i).toNat)
  case atStart => exact ⟨0, by omega, rfl, by simpa using H0⟩
  case round =>
    clear H0
    obtain ⟨k, hk, rfl, hG⟩ := hrel
    by_cases hlt : k < N8
    · have hlt' : (k : Int) < N8 := by omega
      have hc := HCo.out k wr hlt
      have hown := hG.1
      have hsz := hG.size
      have hln : (CN.take k).length ≤ 1000 := by rw [List.length_take]; omega
      have hstep : Hid (CN.take (k + 1) = CN.take k ++ [CN.getD k 0]) := M.take_snoc (by rw [HL.out]; exact hlt)
      obtain ⟨y0, y1⟩ := M.get_bd HFi.out (by decide) (by decide) k
      generalize CN.getD k 0 = y at *
      generalize CN.take k = Y at *
      go_wp2_with (first
        | (go_at_call 48; refine hc.mono ?_; clear hc; rintro e w' ⟨rfl, hw⟩; rw [hw]; clear hw w')
        | (at_builtin; refine wpList_append_own _ rfl (.tmp 20) (.tmp 23) 46 rfl B 2 i0 (.int .i64 0) 1 8 Tryd.underlying46 hi0 hz0 hz1 hz2 rfl (by decide) _ _ _ rfl (hown.alloc _) ⟨wr.heap.size, 0, none⟩ 1 1 [.int .i64 y] rfl rfl ?c1 ?c2 ?c3 ?c4 ?c5 ?_))
      case c1 => exact lit_one _ _ _
      case c2 => intro u hu; simp at hu; subst hu; rfl
      case c3 => unfold maxLen; omega
      case c4 => omega
      case c5 => simp; omega
      · intro v' w1 hown' hgrow _
        have R := hG.step hown' hgrow
        clear hown' hgrow hown hG
        go_wp2
        go_roundw
        case rel => exact ⟨k + 1, by omega, by go_num, by rw [hstep.out]; exact R⟩
        case measure => simp [intOf]; omega
    · obtain rfl : k = N8 := by omega
      rw [List.take_of_length_le (by rw [HL.out]; omega)] at hG
      have hr := hG.reads (fun z hz => wf64 (by have := HFi.out z hz; omega) (by have := HFi.out z hz; omega))
      obtain ⟨a, c, rfl⟩ := hr.form
      obtain ⟨b, off, rfl, k0, k1, hx⟩ := hr.cell (by rw [HL.out]; omega)
      rw [HL.out] at hx ⊢
      have HX : Hid _ := hx
      have HBe : Hid (Below _ _ _) := hG.2.1
      have hl := HL.out
      clear hx hr hG
      go_wp2
      go_ret
      exact ⟨b, off, c, rfl, k1, HX.out, by rw [HB.out]; exact HBe.out⟩

end Lapd
end Go.Proofs.YtjfhlaahgfdmnaaDoor
