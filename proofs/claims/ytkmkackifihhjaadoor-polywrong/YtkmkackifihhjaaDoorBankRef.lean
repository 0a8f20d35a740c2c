/-
  The document's tables (psalteryref04), and when two lists are the same. Conditions: none.
-/
import Derived.Test.YtkmkackifihhjaaDoorBankNew
import Derived.OwnWalk
namespace Go.Proofs.YtkmkackifihhjaaDoor
open Go.RowKit
namespace M

theorem tabl_take {κ n k : Nat} (h : k < ts κ n) : (tabl κ n).take k ++ [.int .i16 (tv κ (n : Int) (k : Int))] = (tabl κ n).take (k + 1) := by
  rw [List.take_add_one, tabl_get h]; rfl
theorem tabl_all (κ n : Nat) : (tabl κ n).take (ts κ n) = tabl κ n := List.take_of_length_le (by rw [tabl_length]; exact Nat.le_refl _)
theorem fil4 : ∀ k : Nat, k < 40 → -32768 ≤ rnd (rnd (fade (k - 20) 4 * win k 40) 15 * 19708) 15 ∧ rnd (rnd (fade (k - 20) 4 * win k 40) 15 * 19708) 15 ≤ 32767 := by decide +kernel
theorem fil8 : ∀ k : Nat, k < 80 → -32768 ≤ rnd (rnd (fade (k - 40) 8 * win k 80) 15 * 19708) 15 ∧ rnd (rnd (fade (k - 40) 8 * win k 80) 15 * 19708) 15 ≤ 32767 := by decide +kernel
theorem sat16_id {x : Int} (h0 : -32768 ≤ x) (h1 : x ≤ 32767) : sat16 x = x := by
  unfold sat16 clip
  rw [if_neg (by omega), if_neg (by omega)]

end M
namespace Bank

/-- between the rounds: the first k numbers of the table are gathered -/
def Gath (κ n k : Nat) (v : Value) (w wr : World) : Prop := wr.ownsRow w.heap.size 32 1 v k ((M.tabl κ n).take k) ∧ Below w.heap.size w wr
theorem Gath.step {κ n k : Nat} {v v' : Value} {w wr w1 : World} {c : Array Value} {ty : TypeId} (h : Gath κ n k v w wr) (hk : k < M.ts κ n)
    (hown : w1.ownsRow w.heap.size 32 1 v' (k + 1) ((M.tabl κ n).take k ++ [.int .i16 (M.tv κ (n : Int) (k : Int))])) (hg : (wr.alloc (.cells c ty)).grownBy w1 v.ownBlock) : Gath κ n (k + 1) v' w w1 := by
  refine ⟨M.tabl_take hk ▸ hown, ?_⟩
  have hs := h.2.size
  exact (h.2.alloc hs _).grown hg (by simp; omega) (fun j hj => (h.1.lt j hj).1)
theorem Gath.whole {κ n : Nat} {v : Value} {w wr : World} (h : Gath κ n (M.ts κ n) v w wr) : wr.ownsRow w.heap.size 32 1 v (M.ts κ n) (M.tabl κ n) ∧ Below w.heap.size w wr := ⟨M.tabl_all κ n ▸ h.1, h.2⟩

set_option maxRecDepth 100000 in
set_option maxHeartbeats 1600000 in
theorem rfilter_4 (w : World) :
    Calls Tryd.prog 29 #[.int .i64 4] w fun e w' => ∃ v, e = .returned v ∧ w'.ownsRow w.heap.size 32 1 v (M.ts 2 4) (M.tabl 2 4) ∧ Below w.heap.size w w' := by
  obtain ⟨i0, hi, hz0, hz1, hz2⟩ := info_parts info16
  have ets : M.ts 2 4 = 40 := rfl
  have hcos : ∀ x : Int, M.cosineI x 40 = M.cosine x 40 := fun x => if_pos (by decide)
  go_enter Tryd.func29, Tryd.ntmps29
  go_wp2
  go_loopw [3, 4] (fun v i wr => ∃ k : Nat, k ≤ 40 ∧ i = .int .i64 ((k : Int) - 20) ∧ Gath 2 4 k v w wr) (fun _ i _ => 40 - (intOf i + 20).toNat)
  case atStart => exact ⟨0, by omega, rfl, World.ownsRow_nil _ _ _ _, Below.refl _ _⟩
  case round =>
    obtain ⟨k, hk, rfl, hG⟩ := hrel
    by_cases hlt : k < 40
    · have hs := hG.2.size
      have hown := hG.1
      have hlt' : (k : Int) - 20 < 20 := by omega
      by_cases hd : (k : Int) - 20 = 0
      · have hk' : k = 20 := by omega
        subst hk'
        have c1e : M.cosine 20 40 = -32767 := by decide +kernel
        have c2e : M.cosine 40 40 = 32767 := by decide +kernel
        have r2e : M.rnd 1073709056 15 = 32767 := by decide +kernel
        have r3e : M.rnd 645772036 15 = 19707 := by decide +kernel
        have hval : M.tv 2 4 20 = 19707 := by decide +kernel
        go_wp2_with (first
          | (go_at_call 42; refine (Wave.Of_any _ _ _ (by omega) (by omega)).mono ?_; rintro e w' ⟨rfl, hw⟩; rw [hw]; clear hw w')
          | (go_at_call 43; refine (Wave.refCosine_all _ _ _).mono ?_; rintro e w' ⟨rfl, hw⟩; rw [hw]; clear hw w')
          | (go_at_call 36; refine (Ref.Round_any _ _ _ (by omega) (by omega)).mono ?_; rintro e w' ⟨rfl, hw⟩; rw [hw]; clear hw w')
          | (at_builtin; refine wpList_append_own _ rfl (.tmp 68) (.tmp 76) 22 rfl w.heap.size 32 i0 (.int .i16 0) 1 2 Tryd.underlying22 hi hz0 hz1 hz2 rfl (by decide) _ _ _ rfl (hown.alloc _) ⟨wr.heap.size, 0, none⟩ 1 1 [.int .i16 (M.tv 2 ((4 : Nat) : Int) (20 : Nat))] rfl rfl ?c1 ?c2 ?c3 ?c4 ?c5 ?_))
        case c1 =>
          intro j u hj
          match j, hj with
          | 0, hj => simp at hj; subst hj; simp [Addr.add, hval]
        case c2 => intro u hu; simp at hu; subst hu; rfl
        case c3 => unfold maxLen; omega
        case c4 => omega
        case c5 => simp; omega
        · intro v' w1 hown' hgrow _
          have R := hG.step (by omega) hown' hgrow
          clear hown' hgrow hown hG
          go_wp2
          go_roundw
          case rel => exact ⟨20 + 1, by omega, by go_num, R⟩
          case measure => simp [intOf]
      · obtain ⟨a0, a1⟩ := M.cosine_bd (k : Int) (d := 40) (by omega)
        obtain ⟨b0, b1⟩ := M.cosine_bd (2 * (k : Int)) (d := 40) (by omega)
        obtain ⟨q0, q1⟩ := M.win_bd (i := (k : Int)) (t := 40) (by omega)
        obtain ⟨p0, p1⟩ := M.fw_bd (d := (k : Int) - 20) (m := 4) (i := k) (t := 40) (by decide) (by omega)
        obtain ⟨r0, r1⟩ := M.rnd15_bd p0 p1 (by omega)
        obtain ⟨f0, f1⟩ := M.fade_bd (d := (k : Int) - 20) (m := 4) (by decide)
        obtain ⟨s0, s1⟩ := M.fil4 k hlt
        have hwin : (1376256 + 8 * M.cosine (2 * (k : Int)) 40 - 50 * M.cosine (k : Int) 40).tdiv 100 = M.win k 40 := by
          unfold M.win; congr 1; omega
        have hval : M.rnd (M.rnd (M.fade ((k : Int) - 20) 4 * M.win k 40) 15 * 19708) 15 = M.tv 2 4 k := by
          show _ = M.sat16 (M.rnd (M.rnd (M.fade ((k : Int) - 20) 4 * M.win k 40) 15 * 19708) 15)
          rw [M.sat16_id s0 s1]
        have hq0 : -40000 ≤ (1376256 + 8 * M.cosine (2 * (k : Int)) 40 - 50 * M.cosine (k : Int) 40).tdiv 100 := by omega
        have hq1 : (1376256 + 8 * M.cosine (2 * (k : Int)) 40 - 50 * M.cosine (k : Int) 40).tdiv 100 ≤ 40000 := by omega
        rw [hval] at s0 s1
        have hwr : IntKind.i16.wrap (M.tv 2 4 k) = M.tv 2 4 k := by
          simp only [IntKind.wrap, IntKind.bits, IntKind.signed]
          first | omega | (simp; omega)
        have hd' : ((k : Int) - 20 == 0) = false := by simpa using hd
        have hz : ¬ ((k : Int) - 20) * 1065 = 0 := by omega
        obtain ⟨x0, x1⟩ := M.sine_bd (3 * ((k : Int) - 20)) (d := 40) (by omega)
        have hfade : (M.sine (3 * ((k : Int) - 20)) 40 * 4 * 565).tdiv (((k : Int) - 20) * 1065) = M.fade ((k : Int) - 20) 4 := by
          unfold M.fade
          rw [if_neg hd, show (10 * 4 : Int) = 40 from rfl]
          congr 1 <;> omega
        have y0 : -200000000 ≤ (M.sine (3 * ((k : Int) - 20)) 40 * 4 * 565).tdiv (((k : Int) - 20) * 1065) := by omega
        have y1 : (M.sine (3 * ((k : Int) - 20)) 40 * 4 * 565).tdiv (((k : Int) - 20) * 1065) ≤ 200000000 := by omega
        go_wp2_with (first
          | (go_at_call 42; refine (Wave.Of_any _ _ _ (by omega) (by omega)).mono ?_; rintro e w' ⟨rfl, hw⟩; rw [hw]; clear hw w')
          | (go_at_call 43; refine (Wave.refCosine_all _ _ _).mono ?_; rintro e w' ⟨rfl, hw⟩; rw [hw]; clear hw w')
          | (go_at_call 36; refine (Ref.Round_any _ _ _ (by omega) (by omega)).mono ?_; rintro e w' ⟨rfl, hw⟩; rw [hw]; clear hw w')
          | (at_builtin; refine wpList_append_own _ rfl (.tmp 68) (.tmp 76) 22 rfl w.heap.size 32 i0 (.int .i16 0) 1 2 Tryd.underlying22 hi hz0 hz1 hz2 rfl (by decide) _ _ _ rfl (hown.alloc _) ⟨wr.heap.size, 0, none⟩ 1 1 [.int .i16 (M.tv 2 ((4 : Nat) : Int) (k : Nat))] rfl rfl ?c1 ?c2 ?c3 ?c4 ?c5 ?_))
        case c1 =>
          intro j u hj
          match j, hj with
          | 0, hj => simp at hj; subst hj; simp [Addr.add]
        case c2 => intro u hu; simp at hu; subst hu; rfl
        case c3 => unfold maxLen; omega
        case c4 => omega
        case c5 => simp; omega
        · intro v' w1 hown' hgrow _
          have R := hG.step (by omega) hown' hgrow
          clear hown' hgrow hown hG
          go_wp2
          go_roundw
          case rel => exact ⟨k + 1, by omega, by go_num, R⟩
          case measure => simp [intOf]; omega
    · obtain rfl : k = 40 := by omega
      go_wp2
      go_ret
      exact ⟨_, rfl, hG.whole⟩

set_option maxRecDepth 100000 in
set_option maxHeartbeats 1600000 in
theorem rfilter_8 (w : World) :
    Calls Tryd.prog 29 #[.int .i64 8] w fun e w' => ∃ v, e = .returned v ∧ w'.ownsRow w.heap.size 32 1 v (M.ts 2 8) (M.tabl 2 8) ∧ Below w.heap.size w w' := by
  obtain ⟨i0, hi, hz0, hz1, hz2⟩ := info_parts info16
  have ets : M.ts 2 8 = 80 := rfl
  have hcos : ∀ x : Int, M.cosineI x 80 = M.cosine x 80 := fun x => if_pos (by decide)
  go_enter Tryd.func29, Tryd.ntmps29
  go_wp2
  go_loopw [3, 4] (fun v i wr => ∃ k : Nat, k ≤ 80 ∧ i = .int .i64 ((k : Int) - 40) ∧ Gath 2 8 k v w wr) (fun _ i _ => 80 - (intOf i + 40).toNat)
  case atStart => exact ⟨0, by omega, rfl, World.ownsRow_nil _ _ _ _, Below.refl _ _⟩
  case round =>
    obtain ⟨k, hk, rfl, hG⟩ := hrel
    by_cases hlt : k < 80
    · have hs := hG.2.size
      have hown := hG.1
      have hlt' : (k : Int) - 40 < 40 := by omega
      by_cases hd : (k : Int) - 40 = 0
      · have hk' : k = 40 := by omega
        subst hk'
        have c1e : M.cosine 40 80 = -32767 := by decide +kernel
        have c2e : M.cosine 80 80 = 32767 := by decide +kernel
        have r2e : M.rnd 1073709056 15 = 32767 := by decide +kernel
        have r3e : M.rnd 645772036 15 = 19707 := by decide +kernel
        have hval : M.tv 2 8 40 = 19707 := by decide +kernel
        go_wp2_with (first
          | (go_at_call 42; refine (Wave.Of_any _ _ _ (by omega) (by omega)).mono ?_; rintro e w' ⟨rfl, hw⟩; rw [hw]; clear hw w')
          | (go_at_call 43; refine (Wave.refCosine_all _ _ _).mono ?_; rintro e w' ⟨rfl, hw⟩; rw [hw]; clear hw w')
          | (go_at_call 36; refine (Ref.Round_any _ _ _ (by omega) (by omega)).mono ?_; rintro e w' ⟨rfl, hw⟩; rw [hw]; clear hw w')
          | (at_builtin; refine wpList_append_own _ rfl (.tmp 68) (.tmp 76) 22 rfl w.heap.size 32 i0 (.int .i16 0) 1 2 Tryd.underlying22 hi hz0 hz1 hz2 rfl (by decide) _ _ _ rfl (hown.alloc _) ⟨wr.heap.size, 0, none⟩ 1 1 [.int .i16 (M.tv 2 ((8 : Nat) : Int) (40 : Nat))] rfl rfl ?c1 ?c2 ?c3 ?c4 ?c5 ?_))
        case c1 =>
          intro j u hj
          match j, hj with
          | 0, hj => simp at hj; subst hj; simp [Addr.add, hval]
        case c2 => intro u hu; simp at hu; subst hu; rfl
        case c3 => unfold maxLen; omega
        case c4 => omega
        case c5 => simp; omega
        · intro v' w1 hown' hgrow _
          have R := hG.step (by omega) hown' hgrow
          clear hown' hgrow hown hG
          go_wp2
          go_roundw
          case rel => exact ⟨40 + 1, by omega, by go_num, R⟩
          case measure => simp [intOf]
      · obtain ⟨a0, a1⟩ := M.cosine_bd (k : Int) (d := 80) (by omega)
        obtain ⟨b0, b1⟩ := M.cosine_bd (2 * (k : Int)) (d := 80) (by omega)
        obtain ⟨q0, q1⟩ := M.win_bd (i := (k : Int)) (t := 80) (by omega)
        obtain ⟨p0, p1⟩ := M.fw_bd (d := (k : Int) - 40) (m := 8) (i := k) (t := 80) (by decide) (by omega)
        obtain ⟨r0, r1⟩ := M.rnd15_bd p0 p1 (by omega)
        obtain ⟨f0, f1⟩ := M.fade_bd (d := (k : Int) - 40) (m := 8) (by decide)
        obtain ⟨s0, s1⟩ := M.fil8 k hlt
        have hwin : (1376256 + 8 * M.cosine (2 * (k : Int)) 80 - 50 * M.cosine (k : Int) 80).tdiv 100 = M.win k 80 := by
          unfold M.win; congr 1; omega
        have hval : M.rnd (M.rnd (M.fade ((k : Int) - 40) 8 * M.win k 80) 15 * 19708) 15 = M.tv 2 8 k := by
          show _ = M.sat16 (M.rnd (M.rnd (M.fade ((k : Int) - 40) 8 * M.win k 80) 15 * 19708) 15)
          rw [M.sat16_id s0 s1]
        have hq0 : -40000 ≤ (1376256 + 8 * M.cosine (2 * (k : Int)) 80 - 50 * M.cosine (k : Int) 80).tdiv 100 := by omega
        have hq1 : (1376256 + 8 * M.cosine (2 * (k : Int)) 80 - 50 * M.cosine (k : Int) 80).tdiv 100 ≤ 40000 := by omega
        rw [hval] at s0 s1
        have hwr : IntKind.i16.wrap (M.tv 2 8 k) = M.tv 2 8 k := by
          simp only [IntKind.wrap, IntKind.bits, IntKind.signed]
          first | omega | (simp; omega)
        have hd' : ((k : Int) - 40 == 0) = false := by simpa using hd
        have hz : ¬ ((k : Int) - 40) * 1065 = 0 := by omega
        obtain ⟨x0, x1⟩ := M.sine_bd (3 * ((k : Int) - 40)) (d := 80) (by omega)
        have hfade : (M.sine (3 * ((k : Int) - 40)) 80 * 8 * 565).tdiv (((k : Int) - 40) * 1065) = M.fade ((k : Int) - 40) 8 := by
          unfold M.fade
          rw [if_neg hd, show (10 * 8 : Int) = 80 from rfl]
          congr 1 <;> omega
        have y0 : -200000000 ≤ (M.sine (3 * ((k : Int) - 40)) 80 * 8 * 565).tdiv (((k : Int) - 40) * 1065) := by omega
        have y1 : (M.sine (3 * ((k : Int) - 40)) 80 * 8 * 565).tdiv (((k : Int) - 40) * 1065) ≤ 200000000 := by omega
        go_wp2_with (first
          | (go_at_call 42; refine (Wave.Of_any _ _ _ (by omega) (by omega)).mono ?_; rintro e w' ⟨rfl, hw⟩; rw [hw]; clear hw w')
          | (go_at_call 43; refine (Wave.refCosine_all _ _ _).mono ?_; rintro e w' ⟨rfl, hw⟩; rw [hw]; clear hw w')
          | (go_at_call 36; refine (Ref.Round_any _ _ _ (by omega) (by omega)).mono ?_; rintro e w' ⟨rfl, hw⟩; rw [hw]; clear hw w')
          | (at_builtin; refine wpList_append_own _ rfl (.tmp 68) (.tmp 76) 22 rfl w.heap.size 32 i0 (.int .i16 0) 1 2 Tryd.underlying22 hi hz0 hz1 hz2 rfl (by decide) _ _ _ rfl (hown.alloc _) ⟨wr.heap.size, 0, none⟩ 1 1 [.int .i16 (M.tv 2 ((8 : Nat) : Int) (k : Nat))] rfl rfl ?c1 ?c2 ?c3 ?c4 ?c5 ?_))
        case c1 =>
          intro j u hj
          match j, hj with
          | 0, hj => simp at hj; subst hj; simp [Addr.add]
        case c2 => intro u hu; simp at hu; subst hu; rfl
        case c3 => unfold maxLen; omega
        case c4 => omega
        case c5 => simp; omega
        · intro v' w1 hown' hgrow _
          have R := hG.step (by omega) hown' hgrow
          clear hown' hgrow hown hG
          go_wp2
          go_roundw
          case rel => exact ⟨k + 1, by omega, by go_num, R⟩
          case measure => simp [intOf]; omega
    · obtain rfl : k = 80 := by omega
      go_wp2
      go_ret
      exact ⟨_, rfl, hG.whole⟩

theorem rfilter_ok (n : Nat) (w : World) (hok : M.okT 2 n) :
    Calls Tryd.prog 29 #[.int .i64 n] w fun e w' => ∃ v, e = .returned v ∧ w'.ownsRow w.heap.size 32 1 v (M.ts 2 n) (M.tabl 2 n) ∧ Below w.heap.size w w' := by
  rcases (by rcases hok with h | h | h <;> omega : n = 4 ∨ n = 8) with rfl | rfl
  · exact rfilter_4 w
  · exact rfilter_8 w

theorem rfilter_err (n : Int) (w : World) (h : ¬ (n = 4 ∨ n = 8)) :
    Calls Tryd.prog 29 #[.int .i64 n] w fun e w' => e = .returned (.slice none 0 0) ∧ w' = w := by
  have h1 : (n != 4) = true := by simp; omega
  have h2 : (n != 8) = true := by simp; omega
  go_enter Tryd.func29, Tryd.ntmps29
  go_wp2
  go_ret
  exact ⟨rfl, rfl⟩

end Bank
end Go.Proofs.YtkmkackifihhjaaDoor
