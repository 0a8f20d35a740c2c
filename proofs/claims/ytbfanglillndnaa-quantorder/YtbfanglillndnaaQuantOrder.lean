/-
  The law of order: of a greater number no less is told, in few bits and back; planes come back from middle and side but for one. Conditions: none but that the numbers are int32 and the planes are handed in.
-/
import Derived.Test.YtbfanglillndnaaQuantSame
import Derived.Test.YtbfanglillndnaaQuantAny
namespace Go.Proofs.Ytbfanglillndnaa
set_option linter.unusedVariables false
open Go.RowKit
namespace Qnt
open Bank (Blk But)
open Poly (cell_keep alloc_size)

theorem qa_split (s b : Int) : ∃ (A : Int → Int) (er : Int), (∀ x, qa x s b = (A x, er)) ∧ ∀ x y, x ≤ y → A x ≤ A y ∧ (la (A x) s b).1 ≤ (la (A y) s b).1 := by
  by_cases h : M.mayQ s b
  · by_cases hb : b = 0
    · subst hb
      exact ⟨fun _ => 0, 0, fun x => qa_zero h, fun x y _ => ⟨Int.le_refl _, Int.le_refl _⟩⟩
    · obtain ⟨h0, h1, h2⟩ := h
      obtain ⟨n, rfl⟩ : ∃ n : Nat, s = n := ⟨s.toNat, by omega⟩
      obtain ⟨k, rfl⟩ : ∃ k : Nat, b = k := ⟨b.toNat, by omega⟩
      have n15 : n ≤ 15 := by omega
      have k2 : 2 ≤ k := by omega
      have k16 : k ≤ 16 := by omega
      have hR := M.rch_bd n15
      have hL := M.lvl_bd k2 k16
      refine ⟨fun x => M.qz x (M.rch n) (M.lvl k), 0, fun x => qa_some n15 k2 k16, fun x y hxy => ⟨M.qz_mono (by omega) (by omega) hxy, ?_⟩⟩
      have hx := M.qz_bd (x := x) (R := M.rch n) (L := M.lvl k) (by omega) (by omega)
      have hy := M.qz_bd (x := y) (R := M.rch n) (L := M.lvl k) (by omega) (by omega)
      show (la (M.qz x (M.rch n) (M.lvl k)) n k).1 ≤ (la (M.qz y (M.rch n) (M.lvl k)) n k).1
      rw [la_some n15 k2 k16 hx.1 hx.2, la_some n15 k2 k16 hy.1 hy.2]
      exact M.lz_mono (by omega) (by omega) (M.qz_mono (by omega) (by omega) hxy)
  · exact ⟨fun _ => 0, 1, fun x => qa_no h, fun x y _ => ⟨Int.le_refl _, Int.le_refl _⟩⟩

theorem Vw.same {hi : Nat} {v : Value} {n C : Nat} {F : Nat → Nat → Int} {w wx : World} (h : Vw hi v n C F w) (e : wx.heap = w.heap) : Vw hi v n C F wx := by
  obtain ⟨b0, o0, cp, rfl, h0, hx⟩ := h
  refine ⟨b0, o0, cp, rfl, h0, fun i hi => ?_⟩
  obtain ⟨b1, o1, c1, h1, h2, h3⟩ := hx i hi
  exact ⟨b1, o1, c1, h1, by rw [← h2]; simp [World.cell?, e], fun b hb => by rw [← h3 b hb]; simp [World.cell?, e]⟩
theorem bel_same {w wx : World} {m : Nat} (e : wx = w.drewN m) : Below w.heap.size w wx := by subst e; exact bel_drewN w m

set_option maxHeartbeats 8000000 in
set_option maxRecDepth 100000 in
/-- the calls ahead of the planes answer, and then 'go on' -/
theorem QuantOrder_walk (x y s b : Int) (vl vr : Value) (lss rss : List (List Int)) (w : World) (hx : -2147483648 ≤ x ∧ x ≤ 2147483647) (hy : -2147483648 ≤ y ∧ y ≤ 2147483647) (hZl : Poly.Rows .i32 0 w.heap.size w vl lss) (hZr : Poly.Rows .i32 0 w.heap.size w vr rss) :
    Calls Try.prog 7 #[.int .i32 x, .int .i32 y, .int .i64 s, .int .i64 b, vl, vr] w fun e w' => e = .returned (.bool true) ∧ Below w.heap.size w w' := by
  obtain ⟨A, er, hA, hmono⟩ := qa_split s b
  have hQ : ∀ x w, (-2147483648 ≤ x ∧ x ≤ 2147483647) → Calls Try.prog 9 #[.int .i32 x, .int .i64 s, .int .i64 b] w fun e w' => e = .returned (.tuple #[.int .i64 (A x), .int .i64 er]) ∧ ∃ m, w' = w.drewN m := fun x w hx => by
    have := Quant_any x s b w hx
    rw [hA x] at this
    exact this
  have hL : ∀ q w, Calls Try.prog 11 #[.int .i64 q, .int .i64 s, .int .i64 b] w fun e w' => e = .returned (.tuple #[.int .i32 (la q s b).1, .int .i64 (la q s b).2]) ∧ ∃ m, w' = w.drewN m := fun q w => Level_any q s b w
  obtain ⟨L, hLe⟩ : ∃ L : Int → Int × Int, L = fun q => la q s b := ⟨_, rfl⟩
  have hL1 : ∀ q w, Calls Try.prog 11 #[.int .i64 q, .int .i64 s, .int .i64 b] w fun e w' => e = .returned (.tuple #[.int .i32 (L q).1, .int .i64 (L q).2]) ∧ ∃ m, w' = w.drewN m := fun q w => by rw [hLe]; exact hL q w
  have hm1 : ∀ x y, x ≤ y → A x ≤ A y ∧ (L (A x)).1 ≤ (L (A y)).1 := fun x y h => by rw [hLe]; exact hmono x y h
  obtain ⟨lo, hi, hlo, hlo1, hhi1, hcase⟩ : ∃ lo hi : Int, lo ≤ hi ∧ (-2147483648 ≤ lo ∧ lo ≤ 2147483647) ∧ (-2147483648 ≤ hi ∧ hi ≤ 2147483647) ∧ ((y < x ∧ lo = y ∧ hi = x) ∨ (¬ y < x ∧ lo = x ∧ hi = y)) := by
    by_cases h : y < x
    · exact ⟨y, x, by omega, hy, hx, .inl ⟨h, rfl, rfl⟩⟩
    · exact ⟨x, y, by omega, hx, hy, .inr ⟨h, rfl, rfl⟩⟩
  obtain ⟨o1, o2⟩ := hm1 lo hi hlo
  have HQ : Hid (∀ x w, (-2147483648 ≤ x ∧ x ≤ 2147483647) → Calls Try.prog 9 #[.int .i32 x, .int .i64 s, .int .i64 b] w fun e w' => e = .returned (.tuple #[.int .i64 (A x), .int .i64 er]) ∧ ∃ m, w' = w.drewN m) := hQ
  have HL : Hid (∀ q w, Calls Try.prog 11 #[.int .i64 q, .int .i64 s, .int .i64 b] w fun e w' => e = .returned (.tuple #[.int .i32 (L q).1, .int .i64 (L q).2]) ∧ ∃ m, w' = w.drewN m) := hL1
  clear hA hmono hQ hL hLe hL1 hm1
  have dl := rows_hd hZl
  have dr := rows_hd hZr
  have fl := rows_fit hZl
  have fr := rows_fit hZr
  have hfl : ∀ wx, wx.heap = w.heap → Calls Try.prog 15 #[vl] wx fun e w' => Yes (FarL lss.length (len lss)) wx e w' := fun wx he => Far_any w.heap.size vl _ _ wx (dl.same he)
  have hfr : ∀ wx, wx.heap = w.heap → Calls Try.prog 15 #[vr] wx fun e w' => Yes (FarL rss.length (len rss)) wx e w' := fun wx he => Far_any w.heap.size vr _ _ wx (dr.same he)
  by_cases farl : FarL lss.length (len lss)
  · have h1 : ∀ wx, wx.heap = w.heap → Calls Try.prog 15 #[vl] wx fun e w' => e = .returned (.bool true) ∧ w' = wx := fun wx he => (hfl wx he).mono fun e w' h => h.yes farl
    obtain ⟨al, cl, rfl⟩ := dl.form
    obtain ⟨ar, cr, rfl⟩ := dr.form
    clear hZl hZr dl dr fl fr hfl hfr farl
    rcases hcase with ⟨hc, rfl, rfl⟩ | ⟨hc, rfl, rfl⟩
    all_goals (
      obtain ⟨hx1, hx2⟩ := hx
      obtain ⟨hy1, hy2⟩ := hy
      go_enter Try.func7, Try.ntmps7
      go_wp2_with (first
        | (go_at_call 8; refine (alive_any _).mono ?_; rintro e w' ⟨rfl, m0, rfl⟩)
        | (go_at_call 9; refine (HQ.out _ _ (by omega)).mono ?_; rintro e w' ⟨rfl, m1, rfl⟩)
        | (go_at_call 11; refine (HL.out _ _).mono ?_; rintro e w' ⟨rfl, m2, rfl⟩)
        | (go_at_call_of 15 cl; refine (h1 _ ?_).mono ?_; exact rfl; rintro e w' ⟨rfl, rfl⟩))
      go_ret
      exact ⟨rfl, bel_drewN _ _⟩)
  · have h1 : ∀ wx, wx.heap = w.heap → Calls Try.prog 15 #[vl] wx fun e w' => e = .returned (.bool false) ∧ w' = wx := fun wx he => (hfl wx he).mono fun e w' h => h.no farl
    by_cases farr : FarL rss.length (len rss)
    · have h2 : ∀ wx, wx.heap = w.heap → Calls Try.prog 15 #[vr] wx fun e w' => e = .returned (.bool true) ∧ w' = wx := fun wx he => (hfr wx he).mono fun e w' h => h.yes farr
      obtain ⟨al, cl, rfl⟩ := dl.form
      obtain ⟨ar, cr, rfl⟩ := dr.form
      clear hZl hZr dl dr fl fr hfl hfr farl farr
      rcases hcase with ⟨hc, rfl, rfl⟩ | ⟨hc, rfl, rfl⟩
      all_goals (
        obtain ⟨hx1, hx2⟩ := hx
        obtain ⟨hy1, hy2⟩ := hy
        go_enter Try.func7, Try.ntmps7
        go_wp2_with (first
          | (go_at_call 8; refine (alive_any _).mono ?_; rintro e w' ⟨rfl, m0, rfl⟩)
          | (go_at_call 9; refine (HQ.out _ _ (by omega)).mono ?_; rintro e w' ⟨rfl, m1, rfl⟩)
          | (go_at_call 11; refine (HL.out _ _).mono ?_; rintro e w' ⟨rfl, m2, rfl⟩)
          | (go_at_call_of 15 cl; refine (h1 _ ?_).mono ?_; exact rfl; rintro e w' ⟨rfl, rfl⟩)
          | (go_at_call_of 15 cr; refine (h2 _ ?_).mono ?_; exact rfl; rintro e w' ⟨rfl, rfl⟩))
        go_ret
        exact ⟨rfl, bel_drewN _ _⟩)
    · have h2 : ∀ wx, wx.heap = w.heap → Calls Try.prog 15 #[vr] wx fun e w' => e = .returned (.bool false) ∧ w' = wx := fun wx he => (hfr wx he).mono fun e w' h => h.no farr
      by_cases hfit : Fit lss.length rss.length (len lss) (len rss)
      · obtain ⟨pl, pr, hnn, hcc⟩ := id hfit
        have vl' := rows_vw hZl pl
        have vr' := rows_vw hZr pr
        rw [← hnn, ← hcc] at vr'
        obtain ⟨n1, c1, c8, _⟩ := id pl
        have n40 : lss.length ≤ 40 := by
          rcases Nat.lt_or_ge 40 lss.length with h | h
          · exact absurd (.inl h) farl
          · exact h
        obtain ⟨al, cl, hvl⟩ := dl.form
        obtain ⟨ar, cr, hvr⟩ := dr.form
        rw [← hnn] at hvr
        clear hZl hZr dl dr hfl hfr farl farr hfit pl pr hnn hcc
        generalize el lss = X at *
        generalize el rss = Y at *
        generalize len lss 0 = C at *
        generalize lss.length = n at *
        have h3 : ∀ wx, wx.heap = w.heap → Calls Try.prog 19 #[vl, vr] wx fun e w' => e = .returned (.tuple #[.slice (some ⟨w.heap.size, 0, none⟩) n n, .slice (some ⟨w.heap.size + 1 + n, 0, none⟩) n n, .int .i64 0]) ∧
            Two w.heap.size (w.heap.size + 1 + n) n C (n * C) (fun i b => M.hs (X i b) (Y i b)) (fun i b => M.hd (X i b) (Y i b)) wx w' := fun wx he => by
          have := Middle_ok w.heap.size vl vr n C X Y wx (vl'.same he) (vr'.same he) fl fr n1 n40 c1 c8 (by rw [he]; exact Nat.le_refl _)
          rw [show wx.heap.size = w.heap.size by rw [he]] at this
          exact this
        obtain ⟨N2, hN2⟩ : ∃ N2, w.heap.size + 1 + n + 1 + n = N2 := ⟨_, rfl⟩
        have h4 : ∀ wx, (∃ w0, Below w.heap.size w w0 ∧ Two w.heap.size (w.heap.size + 1 + n) n C (n * C) (fun i b => M.hs (X i b) (Y i b)) (fun i b => M.hd (X i b) (Y i b)) w0 wx) → Calls Try.prog 20 #[.slice (some ⟨w.heap.size, 0, none⟩) n n, .slice (some ⟨w.heap.size + 1 + n, 0, none⟩) n n] wx fun e w' => e = .returned (.tuple #[.slice (some ⟨N2, 0, none⟩) n n, .slice (some ⟨N2 + 1 + n, 0, none⟩) n n, .int .i64 0]) ∧
            Two N2 (N2 + 1 + n) n C (n * C) (fun i b => M.sat32 (M.hs (X i b) (Y i b) + M.hd (X i b) (Y i b))) (fun i b => M.sat32 (M.hs (X i b) (Y i b) - M.hd (X i b) (Y i b))) wx w' := fun wx ⟨w0, _, h⟩ => by
          have hs : wx.heap.size = N2 := h.size.trans hN2
          have := Sides_ok N2 _ _ n C _ _ wx (h.one.whole.mono (by omega)) (h.two.whole.mono (by omega)) (fun i b => M.hs_bd (fl i b) (fr i b)) (fun i b => M.hd_bd (fl i b) (fr i b)) n1 n40 c1 c8 (by omega)
          rw [hs] at this
          exact this
        have HBack : Hid (∀ i b, (0 ≤ X i b - M.sat32 (M.hs (X i b) (Y i b) + M.hd (X i b) (Y i b)) ∧ X i b - M.sat32 (M.hs (X i b) (Y i b) + M.hd (X i b) (Y i b)) ≤ 1) ∧ (0 ≤ Y i b - M.sat32 (M.hs (X i b) (Y i b) - M.hd (X i b) (Y i b)) ∧ Y i b - M.sat32 (M.hs (X i b) (Y i b) - M.hd (X i b) (Y i b)) ≤ 1)) := fun i b => M.back (fl i b) (fr i b)
        have HXf : Hid (F32 X) := fl
        have HYf : Hid (F32 Y) := fr
        obtain ⟨bl0, ol0, cl', hvl'⟩ := vl'.form
        obtain ⟨br0, or0, cr', hvr'⟩ := vr'.form
        rw [hvl] at hvl'
        rw [hvr] at hvr'
        cases hvl'
        cases hvr'
        subst hvl hvr
        have HRows : Hid (∀ w2 w3, (∃ w0, Below w.heap.size w w0 ∧ Two w.heap.size (w.heap.size + 1 + n) n C (n * C) (fun i b => M.hs (X i b) (Y i b)) (fun i b => M.hd (X i b) (Y i b)) w0 w2) → Two N2 (N2 + 1 + n) n C (n * C) (fun i b => M.sat32 (M.hs (X i b) (Y i b) + M.hd (X i b) (Y i b))) (fun i b => M.sat32 (M.hs (X i b) (Y i b) - M.hd (X i b) (Y i b))) w2 w3 →
            Below w.heap.size w w3 ∧ (∀ i, i < n → ∃ b1 o1 cp1, b1 < w3.heap.size ∧ ∀ wx, Below w3.heap.size w3 wx → wx.cell? ⟨bl0, ol0 + i, none⟩ = some (.slice (some ⟨b1, o1, none⟩) C cp1) ∧ ∀ k, k < C → wx.cell? ⟨b1, o1 + k, none⟩ = some (.int .i32 (X i k))) ∧
            (∀ i, i < n → ∃ b1 o1 cp1, b1 < w3.heap.size ∧ ∀ wx, Below w3.heap.size w3 wx → wx.cell? ⟨br0, or0 + i, none⟩ = some (.slice (some ⟨b1, o1, none⟩) C cp1) ∧ ∀ k, k < C → wx.cell? ⟨b1, o1 + k, none⟩ = some (.int .i32 (Y i k))) ∧
            (∀ i, i < n → ∃ b1 o1 cp1, b1 < w3.heap.size ∧ ∀ wx, Below w3.heap.size w3 wx → wx.cell? ⟨N2, 0 + i, none⟩ = some (.slice (some ⟨b1, o1, none⟩) C cp1) ∧ ∀ k, k < C → wx.cell? ⟨b1, o1 + k, none⟩ = some (.int .i32 (M.sat32 (M.hs (X i k) (Y i k) + M.hd (X i k) (Y i k))))) ∧
            (∀ i, i < n → ∃ b1 o1 cp1, b1 < w3.heap.size ∧ ∀ wx, Below w3.heap.size w3 wx → wx.cell? ⟨N2 + 1 + n, 0 + i, none⟩ = some (.slice (some ⟨b1, o1, none⟩) C cp1) ∧ ∀ k, k < C → wx.cell? ⟨b1, o1 + k, none⟩ = some (.int .i32 (M.sat32 (M.hs (X i k) (Y i k) - M.hd (X i k) (Y i k)))))) := fun w2 w3 ⟨w0, hb0, t2⟩ t3 => by
          have hle : w.heap.size ≤ N2 := by omega
          have b3 : Below w.heap.size w w3 := (hb0.trans t2.bel).trans (t3.bel.mono hle)
          have s3 := t3.size
          exact ⟨b3, (vl'.below b3 (Nat.le_refl _)).all b3.size, (vr'.below b3 (Nat.le_refl _)).all b3.size, t3.one.whole.all (by omega), t3.two.whole.all (by omega)⟩
        have H3 : Hid _ := h3
        have H4 : Hid _ := h4
        have n40' : (n : Int) ≤ 40 := by omega
        have c8' : (C : Int) ≤ 8 := by omega
        clear vl' vr' fl fr h3 h4 hN2
        rcases hcase with ⟨hc, rfl, rfl⟩ | ⟨hc, rfl, rfl⟩
        all_goals (
          obtain ⟨hx1, hx2⟩ := hx
          obtain ⟨hy1, hy2⟩ := hy
          go_enter Try.func7, Try.ntmps7
          go_wp2_with (first
            | (go_at_call 8; refine (alive_any _).mono ?_; rintro e w' ⟨rfl, m0, rfl⟩)
            | (go_at_call 9; refine (HQ.out _ _ (by omega)).mono ?_; rintro e w' ⟨rfl, m1, rfl⟩)
            | (go_at_call 11; refine (HL.out _ _).mono ?_; rintro e w' ⟨rfl, m2, rfl⟩)
            | (go_at_call_of 15 cl; refine (h1 _ ?_).mono ?_; exact rfl; rintro e w' ⟨rfl, rfl⟩)
            | (go_at_call_of 15 cr; refine (h2 _ ?_).mono ?_; exact rfl; rintro e w' ⟨rfl, rfl⟩)
            | (go_at_call 19; refine (H3.out _ ?_).mono ?_; exact rfl; rintro e w2 ⟨rfl, t2⟩; have T2 : Hid (∃ w0, Below w.heap.size w w0 ∧ Two w.heap.size (w.heap.size + 1 + n) n C (n * C) (fun i b => M.hs (X i b) (Y i b)) (fun i b => M.hd (X i b) (Y i b)) w0 w2) := (⟨_, bel_drewN _ _, t2⟩ : (∃ w0, Below w.heap.size w w0 ∧ Two w.heap.size (w.heap.size + 1 + n) n C (n * C) (fun i b => M.hs (X i b) (Y i b)) (fun i b => M.hd (X i b) (Y i b)) w0 w2)); clear t2)
            | (go_at_call 20; refine (H4.out _ T2.out).mono ?_; rintro e w3 ⟨rfl, t3⟩; obtain ⟨bw, ra, rb, rc, rd⟩ := HRows.out w2 w3 T2.out t3; have HBe : Hid (Below w.heap.size w w3) := bw; have HRa : Hid _ := ra; have HRb : Hid _ := rb; have HRc : Hid _ := rc; have HRd : Hid _ := rd; clear t3 bw ra rb rc rd))
          go_loopw [27] (fun i wr => ∃ q : Nat, q ≤ n ∧ i = .int .i64 q ∧ Below w3.heap.size w3 wr) (fun i _ => n - (intOf i).toNat)
          case atStart => exact ⟨0, by omega, rfl, Below.refl _ _⟩
          case round =>
            obtain ⟨i, hi', rfl, hbw⟩ := hrel
            by_cases hlt : i < n
            · have hlt' : (i : Int) < n := by omega
              obtain ⟨b1, p1, q1, _, r1⟩ := HRa.out i hlt
              obtain ⟨b2, p2, q2, _, r2⟩ := HRb.out i hlt
              obtain ⟨b3, p3, q3, _, r3⟩ := HRc.out i hlt
              obtain ⟨b4, p4, q4, _, r4⟩ := HRd.out i hlt
              have HA1 : Hid (∀ wx, Below w3.heap.size w3 wx → wx.cell? ⟨bl0, ol0 + i, none⟩ = some (.slice (some ⟨b1, p1, none⟩) C q1) ∧ ∀ k, k < C → wx.cell? ⟨b1, p1 + k, none⟩ = some (.int .i32 (X i k))) := r1
              have HA2 : Hid (∀ wx, Below w3.heap.size w3 wx → wx.cell? ⟨br0, or0 + i, none⟩ = some (.slice (some ⟨b2, p2, none⟩) C q2) ∧ ∀ k, k < C → wx.cell? ⟨b2, p2 + k, none⟩ = some (.int .i32 (Y i k))) := r2
              have HA3 : Hid (∀ wx, Below w3.heap.size w3 wx → wx.cell? ⟨N2, i, none⟩ = some (.slice (some ⟨b3, p3, none⟩) C q3) ∧ ∀ k, k < C → wx.cell? ⟨b3, p3 + k, none⟩ = some (.int .i32 (M.sat32 (M.hs (X i k) (Y i k) + M.hd (X i k) (Y i k))))) := by
                intro wx hb; have := r3 wx hb; rwa [Nat.zero_add] at this
              have HA4 : Hid (∀ wx, Below w3.heap.size w3 wx → wx.cell? ⟨N2 + 1 + n, i, none⟩ = some (.slice (some ⟨b4, p4, none⟩) C q4) ∧ ∀ k, k < C → wx.cell? ⟨b4, p4 + k, none⟩ = some (.int .i32 (M.sat32 (M.hs (X i k) (Y i k) - M.hd (X i k) (Y i k))))) := by
                intro wx hb; have := r4 wx hb; rwa [Nat.zero_add] at this
              have HB : Hid (Below w3.heap.size w3 wr) := hbw
              clear r1 r2 r3 r4 hbw
              go_wp2
              go_loopw [28] (fun j wx => ∃ k : Nat, k ≤ C ∧ j = .int .i64 k ∧ Below w3.heap.size w3 wx) (fun j _ => C - (intOf j).toNat)
              case atStart => exact ⟨0, by omega, rfl, HB.out⟩
              case round =>
                clear HB
                obtain ⟨k, hk, rfl, hbw⟩ := hrel
                obtain ⟨h1a, h1b⟩ := HA1.out wr hbw
                have HB : Hid (Below w3.heap.size w3 wr) := hbw
                by_cases hkl : k < C
                · have hkl' : (k : Int) < C := by omega
                  obtain ⟨h2a, h2b⟩ := HA2.out wr hbw
                  obtain ⟨h3a, h3b⟩ := HA3.out wr hbw
                  obtain ⟨h4a, h4b⟩ := HA4.out wr hbw
                  replace h1b := h1b k hkl
                  replace h2b := h2b k hkl
                  replace h3b := h3b k hkl
                  replace h4b := h4b k hkl
                  obtain ⟨⟨k1, k2⟩, k3, k4⟩ := HBack.out i k
                  obtain ⟨e1, e2⟩ := HXf.out i k
                  obtain ⟨e3, e4⟩ := HYf.out i k
                  clear hbw
                  generalize M.sat32 (M.hs (X i k) (Y i k) + M.hd (X i k) (Y i k)) = za at *
                  generalize M.sat32 (M.hs (X i k) (Y i k) - M.hd (X i k) (Y i k)) = zc at *
                  generalize X i k = zx at *
                  generalize Y i k = zy at *
                  go_wp2
                  go_quiet (fail)
                  go_wp2
                  go_quiet (fail)
                  go_wp2
                  all_goals (
                    go_roundw
                    case rel => exact ⟨k + 1, by omega, by go_num, by first | exact below_dr HB.out _ | exact below_dr (below_dr HB.out _) _⟩
                    case measure => simp [intOf]; omega)
                · obtain rfl : k = C := by omega
                  clear hbw h1b
                  go_wp2
                  go_roundw
                  case rel => exact ⟨i + 1, by omega, by go_num, HB.out⟩
                  case measure => simp [intOf]; omega
            · obtain rfl : i = n := by omega
              have HB : Hid (Below w3.heap.size w3 wr) := hbw
              clear hbw
              go_wp2
              go_ret
              exact ⟨rfl, HBe.out.trans (HB.out.mono HBe.out.size)⟩)
      · have h3 : ∀ wx, wx.heap = w.heap → Calls Try.prog 19 #[vl, vr] wx fun e w' => e = .returned (.tuple #[.slice none 0 0, .slice none 0 0, .int .i64 1]) ∧ ∃ m, w' = wx.drewN m := fun wx he => Middle_no w.heap.size vl vr _ _ _ _ wx (dl.same he) (dr.same he) farl farr hfit
        obtain ⟨al, cl, rfl⟩ := dl.form
        obtain ⟨ar, cr, rfl⟩ := dr.form
        clear hZl hZr dl dr fl fr hfl hfr farl farr hfit
        rcases hcase with ⟨hc, rfl, rfl⟩ | ⟨hc, rfl, rfl⟩
        all_goals (
          obtain ⟨hx1, hx2⟩ := hx
          obtain ⟨hy1, hy2⟩ := hy
          go_enter Try.func7, Try.ntmps7
          go_wp2_with (first
            | (go_at_call 8; refine (alive_any _).mono ?_; rintro e w' ⟨rfl, m0, rfl⟩)
            | (go_at_call 9; refine (HQ.out _ _ (by omega)).mono ?_; rintro e w' ⟨rfl, m1, rfl⟩)
            | (go_at_call 11; refine (HL.out _ _).mono ?_; rintro e w' ⟨rfl, m2, rfl⟩)
            | (go_at_call_of 15 cl; refine (h1 _ ?_).mono ?_; exact rfl; rintro e w' ⟨rfl, rfl⟩)
            | (go_at_call_of 15 cr; refine (h2 _ ?_).mono ?_; exact rfl; rintro e w' ⟨rfl, rfl⟩)
            | (go_at_call 19; refine (h3 _ ?_).mono ?_; exact rfl; rintro e w' ⟨rfl, m3, rfl⟩))
          go_ret
          exact ⟨rfl, bel_drewN _ _⟩)

end Qnt
end Go.Proofs.Ytbfanglillndnaa
