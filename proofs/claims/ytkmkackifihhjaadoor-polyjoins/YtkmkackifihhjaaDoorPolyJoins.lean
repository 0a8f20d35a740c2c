/-
  The walk of PolyJoins. Conditions: as the law has them; the polynomial stands.
-/
import Derived.Test.YtkmkackifihhjaaDoorPolySetup
namespace Go.Proofs.YtkmkackifihhjaaDoor
set_option linter.unusedVariables false
open Go.RowKit
namespace Poly
open Bank (Blk But)

set_option maxRecDepth 100000 in
set_option maxHeartbeats 1000000 in
theorem joins_4 (l : List Int) (vl : Value) (w : World) (hT : Wave.Tab w) (hr : Reads .i32 0 w.heap.size w vl l) (hl : l.length ≤ 200) :
    Calls Tryd.prog 4 #[.bool false, vl] w fun e w' => e = .returned (.bool true) ∧ Below w.heap.size w w' := by
  have hset := fun wa (bela : Below w.heap.size w wa) => setupJ (m := 4) (by omega) hT bela hr (by omega)
  have HSet : Hid _ := hset
  have HT : Hid (Wave.Tab w) := hT
  obtain ⟨a, c, rfl⟩ := hr.form
  obtain ⟨n, hn⟩ : ∃ n, (M.cutL 4 l).length = n := ⟨_, rfl⟩
  have HN : Hid ((M.cutL 4 l).length = n) := hn
  have hfew : n ≤ 75 := by rw [← hn]; exact M.cutL_few (by omega) (by omega)
  have HR : Hid (∀ i, i < (M.cutL 4 l).length → ((M.cutL 4 l).getD i []).length = 4) := M.cutL_rows
  rw [hn] at HSet
  obtain ⟨L, hL⟩ : ∃ L, l.length = L := ⟨_, rfl⟩
  rw [hL] at hl HSet ⊢
  have hl' : ¬ (200 : Int) < L := by omega
  have hnot : ∀ (x : Bool) (w : World), (Op.unary .not (.bool x)).run Tryd.prog w = .ok (.bool (!x)) w := fun _ _ => rfl
  generalize M.cutL 4 l = zss at *
  clear hset hT hr hn hL
  go_enter Tryd.func4, Tryd.ntmps4
  go_wp2_with (first
    | (go_at_call 8; refine (alive_any _ HT.out).mono ?_; rintro e wa ⟨rfl, bela⟩; have h1 := HSet.out wa bela; clear bela HSet HT)
    | (go_at_call 10; refine h1.mono ?_; clear h1; rintro e w1 ⟨bp, rfl, h2⟩)
    | (go_at_call 15; refine h2.mono ?_; clear h2; rintro e w2 ⟨gl, rfl, h3⟩)
    | (go_at_call 16; refine h3.mono ?_; clear h3; rintro e w3 ⟨va, vc, rfl, hvc, lo, r0, r1, hI⟩; have HI : Hid _ := hI; clear hI))
  have hvc' : (n : Int) ≤ vc := by omega
  go_loopw [9] (fun i wr => ∃ k : Nat, k ≤ n ∧ i = .int .i64 k ∧ InvJ 4 lo gl r0 r1 k (.slice va n vc) zss w wr) (fun i _ => n - (intOf i).toNat)
  case atStart => exact ⟨0, by omega, rfl, HI.out⟩
  case round =>
    clear HI
    obtain ⟨k, hk, rfl, hI⟩ := hrel
    by_cases hlt : k < n
    · have hlt' : (k : Int) < n := by omega
      obtain ⟨b, off, rfl, _, _, _⟩ := hI.2.1.cell (by rw [HN.out]; omega)
      obtain ⟨ua, uc, hc, hfeed⟩ := stepJ (by omega) hI (by rw [HN.out]; exact hlt) HR.out (by rw [HN.out]; omega)
      have hsl := head32 b off n vc k (by omega)
      clear hI
      go_wp2_with (first
        | (go_at_call 17; refine hfeed.mono ?_; clear hfeed; rintro e w4 ⟨xa, xc, rfl, h4⟩)
        | (go_at_call 19; refine h4.mono ?_; clear h4; rintro e w5 ⟨ya, yc, rfl, h5⟩)
        | (go_at_call 18; refine h5.mono ?_; clear h5; rintro e w6 ⟨rfl, hI⟩; have HI : Hid _ := hI; clear hI))
      go_roundw
      case rel => exact ⟨k + 1, by omega, by go_num, HI.out⟩
      case measure => simp [intOf] <;> omega
    · obtain rfl : k = n := by omega
      have HB : Hid (Below w.heap.size w wr) := hI.2.2.2.2.2
      clear hI
      go_wp2
      go_ret
      exact ⟨rfl, HB.out⟩

set_option maxRecDepth 100000 in
set_option maxHeartbeats 1000000 in
theorem joins_8 (l : List Int) (vl : Value) (w : World) (hT : Wave.Tab w) (hr : Reads .i32 0 w.heap.size w vl l) (hl : l.length ≤ 200) :
    Calls Tryd.prog 4 #[.bool true, vl] w fun e w' => e = .returned (.bool true) ∧ Below w.heap.size w w' := by
  have hset := fun wa (bela : Below w.heap.size w wa) => setupJ (m := 8) (by omega) hT bela hr (by omega)
  have HSet : Hid _ := hset
  have HT : Hid (Wave.Tab w) := hT
  obtain ⟨a, c, rfl⟩ := hr.form
  obtain ⟨n, hn⟩ : ∃ n, (M.cutL 8 l).length = n := ⟨_, rfl⟩
  have HN : Hid ((M.cutL 8 l).length = n) := hn
  have hfew : n ≤ 75 := by rw [← hn]; exact M.cutL_few (by omega) (by omega)
  have HR : Hid (∀ i, i < (M.cutL 8 l).length → ((M.cutL 8 l).getD i []).length = 8) := M.cutL_rows
  rw [hn] at HSet
  obtain ⟨L, hL⟩ : ∃ L, l.length = L := ⟨_, rfl⟩
  rw [hL] at hl HSet ⊢
  have hl' : ¬ (200 : Int) < L := by omega
  have hnot : ∀ (x : Bool) (w : World), (Op.unary .not (.bool x)).run Tryd.prog w = .ok (.bool (!x)) w := fun _ _ => rfl
  generalize M.cutL 8 l = zss at *
  clear hset hT hr hn hL
  go_enter Tryd.func4, Tryd.ntmps4
  go_wp2_with (first
    | (go_at_call 8; refine (alive_any _ HT.out).mono ?_; rintro e wa ⟨rfl, bela⟩; have h1 := HSet.out wa bela; clear bela HSet HT)
    | (go_at_call 10; refine h1.mono ?_; clear h1; rintro e w1 ⟨bp, rfl, h2⟩)
    | (go_at_call 15; refine h2.mono ?_; clear h2; rintro e w2 ⟨gl, rfl, h3⟩)
    | (go_at_call 16; refine h3.mono ?_; clear h3; rintro e w3 ⟨va, vc, rfl, hvc, lo, r0, r1, hI⟩; have HI : Hid _ := hI; clear hI))
  have hvc' : (n : Int) ≤ vc := by omega
  go_loopw [9] (fun i wr => ∃ k : Nat, k ≤ n ∧ i = .int .i64 k ∧ InvJ 8 lo gl r0 r1 k (.slice va n vc) zss w wr) (fun i _ => n - (intOf i).toNat)
  case atStart => exact ⟨0, by omega, rfl, HI.out⟩
  case round =>
    clear HI
    obtain ⟨k, hk, rfl, hI⟩ := hrel
    by_cases hlt : k < n
    · have hlt' : (k : Int) < n := by omega
      obtain ⟨b, off, rfl, _, _, _⟩ := hI.2.1.cell (by rw [HN.out]; omega)
      obtain ⟨ua, uc, hc, hfeed⟩ := stepJ (by omega) hI (by rw [HN.out]; exact hlt) HR.out (by rw [HN.out]; omega)
      have hsl := head32 b off n vc k (by omega)
      clear hI
      go_wp2_with (first
        | (go_at_call 17; refine hfeed.mono ?_; clear hfeed; rintro e w4 ⟨xa, xc, rfl, h4⟩)
        | (go_at_call 19; refine h4.mono ?_; clear h4; rintro e w5 ⟨ya, yc, rfl, h5⟩)
        | (go_at_call 18; refine h5.mono ?_; clear h5; rintro e w6 ⟨rfl, hI⟩; have HI : Hid _ := hI; clear hI))
      go_roundw
      case rel => exact ⟨k + 1, by omega, by go_num, HI.out⟩
      case measure => simp [intOf] <;> omega
    · obtain rfl : k = n := by omega
      have HB : Hid (Below w.heap.size w wr) := hI.2.2.2.2.2
      clear hI
      go_wp2
      go_ret
      exact ⟨rfl, HB.out⟩

theorem joins_long (b0 : Bool) (l : List Int) (vl : Value) (w : World) (hT : Wave.Tab w) (hr : Reads .i32 0 w.heap.size w vl l) (hl : 200 < l.length) :
    Calls Tryd.prog 4 #[.bool b0, vl] w fun e w' => e = .returned (.bool true) ∧ Below w.heap.size w w' := by
  have HT : Hid (Wave.Tab w) := hT
  obtain ⟨a, c, rfl⟩ := hr.form
  obtain ⟨L, hL⟩ : ∃ L, l.length = L := ⟨_, rfl⟩
  rw [hL] at hl ⊢
  have hl' : (200 : Int) < L := by omega
  have hnot : ∀ (x : Bool) (w : World), (Op.unary .not (.bool x)).run Tryd.prog w = .ok (.bool (!x)) w := fun _ _ => rfl
  clear hT hr hL
  go_enter Tryd.func4, Tryd.ntmps4
  go_wp2_with (go_at_call 8; refine (alive_any _ HT.out).mono ?_; rintro e wa ⟨rfl, bela⟩)
  go_ret
  exact ⟨rfl, bela⟩

theorem PolyJoins_walk (b0 : Bool) (l : List Int) (vl : Value) (w : World) (hT : Wave.Tab w) (hr : Reads .i32 0 w.heap.size w vl l) :
    Calls Tryd.prog 4 #[.bool b0, vl] w fun e w' => e = .returned (.bool true) ∧ Below w.heap.size w w' := by
  rcases Nat.lt_or_ge 200 l.length with h | h
  · exact joins_long b0 l vl w hT hr h
  · cases b0
    · exact joins_4 l vl w hT hr h
    · exact joins_8 l vl w hT hr h

end Poly
end Go.Proofs.YtkmkackifihhjaaDoor
