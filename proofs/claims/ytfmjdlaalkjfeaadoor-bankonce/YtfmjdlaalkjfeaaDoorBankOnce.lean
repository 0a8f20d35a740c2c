/-
  The walk of the law BankOnce. Conditions: each number fits its kind; the polynomial's numbers stand as their initialiser lays them; one goroutine.
-/
import Derived.Test.YtfmjdlaalkjfeaaDoorBankPairs
namespace Go.Proofs.YtfmjdlaalkjfeaaDoor
open Go.RowKit
namespace Bank

/-- what was told may be written over -/
def Own (X len : Nat) (a : Option Addr) (w : World) : Prop := len ≠ 0 → ∃ g cur, a = some ⟨g, 0, none⟩ ∧ X ≤ g ∧ Blk w g cur 35 ∧ len ≤ cur.size
theorem own_of {w : World} {X : Nat} {v : Value} {n : Nat} {xs : List Value} (h : w.ownsRow X 35 1 v n xs) : ∃ a c, v = .slice a n c ∧ Own X n a w := by
  rcases h.2 with ⟨rfl, rfl⟩ | ⟨g, cap, cur, rfl, hg, hgg, hc, _, hs, _⟩
  · exact ⟨none, 0, rfl, fun h => absurd rfl h⟩
  · exact ⟨_, cap, rfl, fun _ => ⟨g, cur, rfl, hg, hgg, by omega⟩⟩
theorem Bank.set {b : Nat} {D : List (Nat × Nat)} {t : Int} {N : Nat} {w : World} (h : Bank b D t N w) {a : Addr} (ha : N ≤ a.block) (v : Value) : Bank b D t N (w.setCell a v) :=
  h.keep (fun k hk => Below.heap_setCell _ _ _ _ (by omega)) (Nat.le_refl _) (by simpa [World.setCell] using h.2.1)

/-- the facts that all rounds keep: w5 the world ahead of them -/
structure Keep (b : Nat) (w5 wr : World) (k : Nat) : Prop where
  but : But b w5 wr
  bank : ∃ D t N, Bank b D t N wr ∧ D.length ≤ k ∧ 0 ≤ t ∧ t ≤ k

theorem once_start {w w2 w3 w4 w5 : World} {ka na : Int} {x r : Value} (hT2 : Wave.Tab w2) (hb2 : Below w.heap.size w w2) (hs2 : w.heap.size + 1 ≤ w2.heap.size)
    (hsz3 : w3.heap.size = w2.heap.size + 1) (bel3 : Below w2.heap.size w2 w3) (hB3 : Bank w2.heap.size [] 0 (w2.heap.size + 1) w3) (hsz4 : w4.heap.size = w3.heap.size + 1) (bel4 : Below w3.heap.size w3 w4)
    (hbox4 : Blk w4 w.heap.size #[.int .i64 ka, .int .i64 na] 31) (ans : Ans (w2.heap.size + 1) ka na [] 0 x r w4 w5) :
    Bank w2.heap.size [] 0 (w2.heap.size + 1) w5 ∧ (∃ X, w2.heap.size < X ∧ w5.ownsRow X 35 1 x (xsOf ka na).length (xsOf ka na)) ∧ Wave.Tab w5 ∧ Blk w5 w.heap.size #[.int .i64 ka, .int .i64 na] 31 ∧ Below w.heap.size w w5 ∧ w2.heap.size < w5.heap.size := by
  obtain ⟨X, B, h1, _, h2, h3, h4⟩ := ans
  have hs5 := h4.size
  have ht := tab_lt hT2
  have hT4 := tab_below bel4 (Nat.le_refl _) (tab_below bel3 (Nat.le_refl _) hT2)
  have hB4 := hB3.below bel4 (by omega)
  refine ⟨hB4.keep (fun k hk => h4.block k (by omega) (by omega)) (Nat.le_refl _) (by omega), ⟨X, by omega, h1⟩, h4.tab hT4 (by omega), h4.blk hbox4 (by omega), ?_, by omega⟩
  exact (hb2.trans ((bel3.mono (by omega)).trans (bel4.mono (by omega)))).trans (h4.below (by omega) (by omega))

theorem keep_ask {b k : Nat} {w5 wr w6 : World} {kk nn : Int} {D : List (Nat × Nat)} {t : Int} {v r : Value} (hbt : But b w5 wr) (hD : D.length ≤ k) (t0 : 0 ≤ t) (t1 : t ≤ k) (ans : Ans b kk nn D t v r wr w6) :
    ∃ X D' t', But b w5 w6 ∧ Bank b D' t' X w6 ∧ D'.length ≤ k + 1 ∧ 0 ≤ t' ∧ t' ≤ (k : Int) + 1 ∧ w5.heap.size ≤ X ∧ w6.ownsRow X 35 1 v (xsOf kk nn).length (xsOf kk nn) := by
  obtain ⟨X, B, h1, _, h2, h3, h4⟩ := ans
  have h5 := insOf_len D kk nn
  have h6 := tOf_bd t kk nn
  have := hbt.size
  exact ⟨X, _, _, hbt.trans h4, h3, by omega, by omega, by omega, by omega, h1⟩

set_option maxRecDepth 100000 in
set_option maxHeartbeats 3200000 in
theorem BankOnce_walk (v : Value) (zs : List (Int × Int)) (ka na : Int) (w : World) (hT : Wave.Tab w) (hP : Pairs w v zs) :
    Calls Tryd.prog 4 #[v, .agg #[.int .i64 ka, .int .i64 na]] w fun e w' => e = .returned (.bool true) ∧ Below w.heap.size w w' := by
  obtain ⟨a, c, rfl, hz⟩ := hP.out
  clear hP
  obtain ⟨len, hlen⟩ : ∃ len, zs.length = len := ⟨_, rfl⟩
  rw [hlen]
  have HZ : Hid (zs = [] ∨ ∃ b off, a = some ⟨b, off, none⟩ ∧ b < w.heap.size ∧ ∀ i k n, zs[i]? = some (k, n) → w.cell? ⟨b, off + i * 2, none⟩ = some (.int .i64 k) ∧ w.cell? ⟨b, off + i * 2 + 1, none⟩ = some (.int .i64 n)) := hz
  have HL : Hid (zs.length = len) := hlen
  clear hz hlen
  have bel : Below w.heap.size w (w.alloc (.cells #[.int .i64 ka, .int .i64 na] 31)) := (Below.refl _ _).alloc (Nat.le_refl _) _
  have hT1 := tab_below bel (Nat.le_refl _) hT
  have hn1 := Blk.new w #[.int .i64 ka, .int .i64 na] 31
  have hk2 : ∀ w2, Below (w.alloc (.cells #[.int .i64 ka, .int .i64 na] 31)).heap.size (w.alloc (.cells #[.int .i64 ka, .int .i64 na] 31)) w2 → Blk w2 w.heap.size #[.int .i64 ka, .int .i64 na] 31 ∧ Wave.Tab w2 ∧ Below w.heap.size w w2 ∧ w.heap.size + 1 ≤ w2.heap.size := fun w2 h =>
    ⟨(h.block _ (by simp)).trans hn1, tab_below h (Nat.le_refl _) hT1, bel.trans (h.mono (by simp)), by have := h.size; simpa using this⟩
  have HK : Hid _ := hk2
  clear hk2 hn1 bel hT
  have hnot : ∀ (x : Bool) (w : World), (Op.unary .not (.bool x)).run Tryd.prog w = .ok (.bool (!x)) w := fun _ _ => rfl
  by_cases hbig : 30 < len
  · have hbig' : (30 : Int) < len := by omega
    go_enter Tryd.func4, Tryd.ntmps4
    go_wp2_with (go_at_call 6; refine (alive_any _ hT1).mono ?_; rintro e w2 ⟨rfl, hb⟩; obtain ⟨hbox, hT2, hb2, hs2⟩ := HK.out w2 hb)
    go_ret
    exact ⟨rfl, hb2⟩
  · have hbig' : ¬ (30 : Int) < len := by omega
    have hl30 : (len : Int) ≤ 30 := by omega
    go_enter Tryd.func4, Tryd.ntmps4
    go_wp2_with (first
      | (go_at_call 6; refine (alive_any _ hT1).mono ?_; rintro e w2 ⟨rfl, hb⟩; obtain ⟨hbox, hT2, hb2, hs2⟩ := HK.out w2 hb; clear HK hT1)
      | (go_at_call 7; refine (new_any w2).mono ?_; rintro e w3 ⟨rfl, hsz3, hB3, bel3⟩; have HB3 : Hid (Bank _ _ _ _ _) := hB3; clear hB3)
      | (go_at_call 7; refine (new_any w3).mono ?_; rintro e w4 ⟨rfl, hsz4, hC4, bel4⟩; rw [hsz3] at hC4; have HC4 : Hid (Bank _ _ _ _ _) := hC4; have hbox4 : Blk w4 w.heap.size #[.int .i64 ka, .int .i64 na] 31 := (bel4.block _ (by omega)).trans ((bel3.block _ (by omega)).trans hbox); have q0 := hbox4.cell (o := 0) rfl; have q1 := hbox4.cell (o := 1) rfl; simp only [List.getElem_toArray, List.getElem_cons_succ, List.getElem_cons_zero] at q0 q1; clear hC4)
      | (go_at_call 8; refine (ask_all (w2.heap.size + 1) ka na [] 0 _ w4 (tab_below bel4 (Nat.le_refl _) (tab_below bel3 (Nat.le_refl _) hT2)) HC4.out (by decide) (by decide) (by decide)).mono ?_; rintro e w5 ⟨x, r5, rfl, ans⟩; obtain ⟨hB5, ⟨X5, hX5, hx5⟩, hT5, hbox5, bel5, hb5⟩ := once_start hT2 hb2 hs2 hsz3 bel3 HB3.out hsz4 bel4 hbox4 ans; clear HC4 q0 q1 ans))
    have HS : Hid (w.heap.size + 1 ≤ w2.heap.size) := hs2
    clear hsz3 hsz4 bel3 bel4 hbox4 HB3 hbox hb hb2 hT2 hs2
    generalize hbe : w2.heap.size = b at *
    have hs2 := HS.out
    have nT : 0 ≠ b := by omega
    go_loopw [10] (fun i wr => ∃ k : Nat, k ≤ len ∧ i = .int .i64 k ∧ Keep b w5 wr k) (fun i _ => len - (intOf i).toNat)
    case atStart => exact ⟨0, by omega, rfl, But.refl _ _, [], 0, b + 1, hB5, by simp, by omega, by omega⟩
    case round =>
      obtain ⟨k, hk, rfl, hbt, D, t, N, hB, hD, t0, t1⟩ := hrel
      have hTr := hbt.tab hT5 nT
      by_cases hlt : k < len
      · have hlt' : (k : Int) < len := by omega
        have hin : (0 : Int) ≤ k ∧ (k : Int) < len := by omega
        obtain ⟨kk, nn, b0, off, rfl, p0, p1⟩ : ∃ kk nn b0 off, a = some ⟨b0, off, none⟩ ∧ wr.cell? ⟨b0, off + k * 2, none⟩ = some (.int .i64 kk) ∧ wr.cell? ⟨b0, off + k * 2 + 1, none⟩ = some (.int .i64 nn) := by
          have hk' : k < zs.length := by rw [HL.out]; exact hlt
          rcases HZ.out with h | ⟨b0, off, ha, hbl, hc⟩
          · rw [h] at hk'; cases hk'
          · have hb6 : Below w.heap.size w wr := bel5.trans (hbt.below (by omega) bel5.size)
            obtain ⟨c0, c1⟩ := hc k zs[k].1 zs[k].2 (by rw [List.getElem?_eq_getElem hk'])
            exact ⟨_, _, b0, off, ha, (hb6.cell (p := ⟨b0, off + k * 2, none⟩) hbl).trans c0, (hb6.cell (p := ⟨b0, off + k * 2 + 1, none⟩) hbl).trans c1⟩
        have hask := ask_all b kk nn D t N wr hTr hB (by omega) t0 (by omega)
        have HT0 : Hid (0 ≤ t ∧ t ≤ (k : Int) ∧ D.length ≤ k) := ⟨t0, t1, hD⟩
        clear hTr hB t0 t1 hD hB5 hx5
        go_wp2_with (go_at_call 8; refine hask.mono ?_; rintro e w6 ⟨v, r, rfl, ans⟩; obtain ⟨X, D', t', hbt6, hB6, hD6, t06, t16, hX6, ho6⟩ := keep_ask hbt HT0.out.2.2 HT0.out.1 HT0.out.2.1 ans; obtain ⟨A, C, rfl, hown⟩ := own_of ho6; clear hask ans ho6)
        have hxl := xsOf_len kk nn
        generalize (xsOf kk nn).length = n' at *
        have hxl' : (n' : Int) ≤ 1024 := by omega
        go_loopw [14] (fun i wy => ∃ j : Nat, j ≤ n' ∧ i = .int .i64 j ∧ But b w5 wy ∧ Bank b D' t' X wy ∧ Own X n' A wy) (fun i _ => n' - (intOf i).toNat)
        case atStart => exact ⟨0, by omega, rfl, hbt6, hB6, hown⟩
        case round =>
          clear hbt6 hB6 hown p0 p1
          obtain ⟨j, hj, rfl, hbt6, hB6, hown⟩ := hrel
          by_cases hjt : j < n'
          · have hjt' : (j : Int) < n' := by omega
            have hin2 : (0 : Int) ≤ j ∧ (j : Int) < n' := by omega
            obtain ⟨g, cur, rfl, hXg, hblk, hcs⟩ := hown (by omega)
            obtain ⟨u, hu⟩ : ∃ u, wr.cell? ⟨g, j, none⟩ = some u := ⟨cur[j]'(by omega), hblk.cell (by simp)⟩
            have huf := hblk.free j
            have R1 := hbt6.set (a := ⟨g, j, none⟩) (.inr (by show w5.heap.size ≤ g; omega)) (.int .i16 7)
            have R2 := hB6.set (a := ⟨g, j, none⟩) hXg (.int .i16 7)
            have R3 : Own X n' (some ⟨g, 0, none⟩) (wr.setCell ⟨g, j, none⟩ (.int .i16 7)) := fun _ => ⟨g, _, rfl, hXg, hblk.set _ _, by simpa using hcs⟩
            clear hbt6 hB6 hown hblk
            go_wp2
            go_roundw
            case rel => exact ⟨j + 1, by omega, by go_num, R1, R2, R3⟩
            case measure => simp [intOf]; omega
          · obtain rfl : j = n' := by omega
            go_wp2
            go_roundw
            case rel => exact ⟨k + 1, by omega, by go_num, hbt6, D', t', X, hB6, hD6, t06, by omega⟩
            case measure => simp [intOf]; omega
      · obtain rfl : k = len := by omega
        have hs5 : w.heap.size ≠ b := by omega
        have hboxr := hbt.blk hbox5 hs5
        have q0 := hboxr.cell (o := 0) rfl
        have q1 := hboxr.cell (o := 1) rfl
        simp only [List.getElem_toArray, List.getElem_cons_succ, List.getElem_cons_zero] at q0 q1
        have hxr := owns_but hx5 hbt hX5
        obtain ⟨l0, l1⟩ := insOf_len D ka na
        obtain ⟨c0, c1⟩ := tOf_bd t ka na
        have hag := insOf_again D ka na
        obtain ⟨D1, hD1⟩ : ∃ D1, insOf D ka na = D1 := ⟨_, rfl⟩
        have hask1 := ask_all b ka na D t N wr hTr hB (by omega) t0 (by omega)
        have hmade1 := made_any b D t N wr hB (by omega)
        have hend : ∀ y r6 w6, Ans b ka na D t y r6 wr w6 → ∃ X6 t6, Wave.Tab w6 ∧ Bank b D1 t6 X6 w6 ∧ 0 ≤ t6 ∧ t6 ≤ 100 ∧ But b wr w6 ∧ b < X6 ∧ w6.ownsRow X6 35 1 y (xsOf ka na).length (xsOf ka na) := by
          rintro y r6 w6 ⟨X, B, h1, _, h2, h3, h4⟩
          rw [hD1] at h3
          exact ⟨X, _, h4.tab hTr nT, h3, by omega, by omega, h4, by have := hbt.size; omega, h1⟩
        have hend2 : ∀ t6 z r7 w6 w7, Ans b ka na D1 t6 z r7 w6 w7 → ∃ X7 t7, Bank b D1 t7 X7 w7 ∧ But b w6 w7 ∧ w7.ownsRow X7 35 1 z (xsOf ka na).length (xsOf ka na) := by
          rintro t6 z r7 w6 w7 ⟨X, B, h1, _, h2, h3, h4⟩
          rw [← hD1, hag, hD1] at h3
          exact ⟨X, _, h3, h4, h1⟩
        have hle : ((D1.length : Nat) : Int) - (D.length : Nat) ≤ 1 := by rw [← hD1]; omega
        have hl1 : ((D1.length : Nat) : Int) ≤ 100 := by rw [← hD1]; omega
        have hl0 : ((D.length : Nat) : Int) ≤ 100 := by omega
        have hxi := xsOf_ints ka na
        have hxl := xsOf_len ka na
        have HE : Hid _ := hend
        have HE2 : Hid _ := hend2
        have HXI : Hid _ := hxi
        have HXR : Hid _ := hxr
        have HBT : Hid _ := hbt
        have HBX : Hid _ := hboxr
        clear hend hend2 hxi hxr hbt hboxr hag hD1 hB hTr hB5 hx5 l0 l1 c0 c1 hbox5
        go_wp2_with (first
          | (go_at_call 10; refine hmade1.mono ?_; rintro e wq ⟨rfl, hw⟩; rw [hw]; clear hw wq hmade1)
          | (go_at_call 8; refine hask1.mono ?_; rintro e w6 ⟨y, r6, rfl, ans6⟩; obtain ⟨X6, t6, hT6, hB6, t60, t61, bt6, hbX6, hy6⟩ := HE.out y r6 w6 ans6; have hbx6 := bt6.blk HBX.out hs5; have u0 := hbx6.cell (o := 0) rfl; have u1 := hbx6.cell (o := 1) rfl; simp only [List.getElem_toArray, List.getElem_cons_succ, List.getElem_cons_zero] at u0 u1; have hmade2 := made_any b D1 t6 X6 w6 hB6 (by omega); have hask2 := ask_all b ka na D1 t6 X6 w6 hT6 hB6 (by omega) t60 (by omega); clear hask1 HE)
          | (go_at_call 10; refine hmade2.mono ?_; rintro e wq ⟨rfl, hw⟩; rw [hw]; clear hw wq hmade2)
          | (go_at_call 8; refine hask2.mono ?_; rintro e w7 ⟨z, r7, rfl, ans7⟩; obtain ⟨X7, t7, hB7, bt7, hz7⟩ := HE2.out t6 z r7 w6 w7 ans7; have RX : Rd w7 x (xsOf ka na) := Rd.of_owns (owns_but (owns_but HXR.out bt6 hX5) bt7 hX5); have RY : Rd w7 y (xsOf ka na) := Rd.of_owns (owns_but hy6 bt7 hbX6); have RZ : Rd w7 z (xsOf ka na) := Rd.of_owns hz7; clear hask2 HE2 hz7 hy6)
          | (go_at_call 9; refine (same_any x y (xsOf ka na) w7 RX RY HXI.out (by omega)).mono ?_; rintro e w8 ⟨rfl, m8, rfl⟩; clear RX)
          | (go_at_call 9; refine (same_any y z (xsOf ka na) _ (Rd.drewN RY _) (Rd.drewN RZ _) HXI.out (by omega)).mono ?_; rintro e w9 ⟨rfl, m9, rfl⟩)
          | (go_at_call 10; refine (made_any b D1 t7 X7 _ (hB7.drewN _) (by omega)).mono ?_; rintro e wq ⟨rfl, hw⟩; rw [hw]; clear hw wq))
        go_ret
        exact ⟨rfl, below_drewN (bel5.trans ((HBT.out.trans (bt6.trans bt7)).below (by omega) bel5.size)) _⟩

end Bank
end Go.Proofs.YtfmjdlaalkjfeaaDoor
