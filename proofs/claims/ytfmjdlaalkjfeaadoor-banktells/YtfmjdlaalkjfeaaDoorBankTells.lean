/-
  The walk of the law BankTells. Conditions: each number fits its kind; the polynomial's numbers stand as their initialiser lays them; one goroutine.
-/
import Derived.Test.YtfmjdlaalkjfeaaDoorBankPairs
import Derived.Laws.StructEq
import Derived.BigQuiet
namespace Go.Proofs.YtfmjdlaalkjfeaaDoor
open Go.RowKit
namespace Bank

theorem eq_int (d : Nat) (a c : Int) (w : World) : (Op.equalIn (d + 1) 3 (.int .i64 a) (.int .i64 c)).run Tryd.prog w = .ok (a == c) w := by
  simp [Op.equalIn, run_underlying Tryd.underlying3]
theorem part0 (a b : Int) (w : World) : (part 3 #[.int .i64 a, .int .i64 b] 0).run Tryd.prog w = .ok (.int .i64 a) w := by
  simp [go_sem]
theorem part1 (a b : Int) (w : World) : (part 3 #[.int .i64 a, .int .i64 b] 1).run Tryd.prog w = .ok (.int .i64 b) w := by
  simp [go_sem]
/-- two questions compared -/
theorem eq_ask (a b c d : Int) (w : World) : (binOp .eql 31 (.agg #[.int .i64 a, .int .i64 b]) (.agg #[.int .i64 c, .int .i64 d])).run Tryd.prog w = .ok (.bool (a == c && b == d)) w := by
  have hs := run_equalIn_struct (P := Tryd.prog) (w := w) 9999 31 #[.int .i64 a, .int .i64 b] #[.int .i64 c, .int .i64 d] (by rw [Tryd.underlying31]; simp [Program.fieldsOf, Tryd.underlying31]) (by kernel_rfl)
  have he : (Op.equal 31 (.agg #[.int .i64 a, .int .i64 b]) (.agg #[.int .i64 c, .int .i64 d])).run Tryd.prog w = (Op.equalIn 10000 31 (.agg #[.int .i64 a, .int .i64 b]) (.agg #[.int .i64 c, .int .i64 d])).run Tryd.prog w := by
    simp [Op.equal, Op.maxDepth]
  rw [show (9999 + 1 : Nat) = 10000 from rfl] at hs
  rw [hs] at he
  clear hs
  simp only [Program.fieldsOf, Tryd.underlying31] at he
  simp only [binOp, Sem.run_bind, he]
  have h1 := eq_int 9998 a c w
  have h2 := eq_int 9998 b d w
  rw [show (9998 + 1 : Nat) = 9999 from rfl] at h1 h2
  simp only [Op.eqFields, part0, part1, h1, h2, Sem.run_bind, Sem.run_ite, Result.andThen_ok]
  by_cases k1 : a = c <;> by_cases k2 : b = d <;> simp [k1, k2]

/-- the questions that were met, as they lie in memory -/
def encD (D : List (Nat × Nat)) : List Value := D.flatMap fun q => [.int .i64 (q.1 : Nat), .int .i64 (q.2 : Nat)]
theorem encD_len (D : List (Nat × Nat)) : (encD D).length = D.length * 2 := by
  unfold encD
  induction D with
  | nil => rfl
  | cons q r ih => simp only [List.flatMap_cons, List.length_append, ih, List.length_cons, List.length_nil]; omega
theorem encD_get (D : List (Nat × Nat)) : ∀ (j : Nat) q, D[j]? = some q → (encD D)[j * 2]? = some (.int .i64 (q.1 : Nat)) ∧ (encD D)[j * 2 + 1]? = some (.int .i64 (q.2 : Nat)) := by
  induction D with
  | nil => intro j q h; cases h
  | cons p r ih =>
    intro j q h
    cases j with
    | zero => cases h; exact ⟨rfl, rfl⟩
    | succ j =>
      have e : encD (p :: r) = .int .i64 (p.1 : Nat) :: .int .i64 (p.2 : Nat) :: encD r := rfl
      rw [e, show (j + 1) * 2 = j * 2 + 2 by omega, show j * 2 + 2 + 1 = j * 2 + 1 + 2 by omega]
      exact ih j q h
theorem encD_app (D : List (Nat × Nat)) (q : Nat × Nat) : encD (D ++ [q]) = encD D ++ [.int .i64 (q.1 : Nat), .int .i64 (q.2 : Nat)] := by simp [encD]

/-- between the rounds -/
structure Tl (b : Nat) (w3 : World) (D : List (Nat × Nat)) (t : Int) (N : Nat) (dv : Value) (wr : World) : Prop where
  but : But b w3 wr
  bank : Bank b D t N wr
  done : wr.ownsRow w3.heap.size 31 2 dv D.length (encD D)
theorem Tl.drewN {b : Nat} {w3 : World} {D : List (Nat × Nat)} {t : Int} {N : Nat} {dv : Value} {wr : World} (h : Tl b w3 D t N dv wr) (m : Nat) : Tl b w3 D t N dv (wr.drewN m) := ⟨h.but.drewN m, h.bank, h.done⟩

theorem owns_slice {w : World} {base e size : Nat} {v : Value} {n : Nat} {xs : List Value} (h : w.ownsRow base e size v n xs) : ∃ a c, v = .slice a n c := by
  rcases h.2 with ⟨rfl, rfl⟩ | ⟨g, cap, cur, rfl, _⟩
  · exact ⟨none, 0, rfl⟩
  · exact ⟨_, cap, rfl⟩

/-- an append to the list of the questions turns no bank -/
theorem Bank.grown {b : Nat} {D D' : List (Nat × Nat)} {t : Int} {N base : Nat} {dv : Value} {n : Nat} {w w' : World} (h : Bank b D t N w) (ho : w.ownsRow base 31 2 dv n (encD D')) (hg : w.grownBy w' dv.ownBlock) : Bank b D t N w' := by
  have key : ∀ k cur ty, Blk w k cur ty → ty ≠ 31 → w'.heap[k]? = w.heap[k]? := by
    intro k cur ty hk hty
    refine hg.block k hk.lt (fun e => ?_)
    rcases ho.2 with ⟨rfl, _⟩ | ⟨g, cap, cu, rfl, _, hgg, _⟩
    · simp [Value.ownBlock] at e
    · simp [Value.ownBlock] at e
      subst e
      exact hty ((Blk.same (w := w) hk hgg).2)
  obtain ⟨h1, h2, cur, h3, h4, h5, h6, h7⟩ := h
  refine ⟨h1, Nat.le_trans h2 hg.size, cur, (key b _ _ h3 (by decide)).trans h3, h4, h5, h6, fun κ n hok => ⟨(h7 κ n hok).1, fun hd => ?_⟩⟩
  obtain ⟨k1, g, k2, k3, k4, k5⟩ := (h7 κ n hok).2 hd
  exact ⟨k1, g, k2, k3, k4, (key g _ _ k5 (by decide)).trans k5⟩

theorem take_mem {D : List (Nat × Nat)} {q x : Nat × Nat} {j : Nat} (h : D[j]? = some x) : q ∈ D.take (j + 1) ↔ q ∈ D.take j ∨ q = x := by
  rw [List.take_add_one, h]; simp
/-- what is read of the list of the questions at place j -/
theorem done_at {w : World} {base : Nat} {dA : Option Addr} {dC : Nat} {D : List (Nat × Nat)} (h : w.ownsRow base 31 2 (.slice dA D.length dC) D.length (encD D)) {j : Nat} (hj : j < D.length) :
    ∃ g q, dA = some ⟨g, 0, none⟩ ∧ D[j]? = some q ∧ w.cell? ⟨g, j * 2, none⟩ = some (.int .i64 (q.1 : Nat)) ∧ w.cell? ⟨g, j * 2 + 1, none⟩ = some (.int .i64 (q.2 : Nat)) := by
  rcases id h.2 with ⟨hv, hn⟩ | ⟨g, cap, cur, hv, _⟩
  · omega
  · simp only [Value.slice.injEq] at hv
    obtain ⟨rfl, _, rfl⟩ := hv
    have hq : D[j]? = some D[j] := List.getElem?_eq_getElem hj
    obtain ⟨e0, e1⟩ := encD_get D j _ hq
    have c0 := h.cells (g := g) rfl _ _ e0
    have c1 := h.cells (g := g) rfl _ _ e1
    rw [add_at] at c0 c1
    exact ⟨g, D[j], rfl, hq, c0, c1⟩
theorem eq_key (a b c d : Nat) : ((a : Int) == (c : Int) && (b : Int) == (d : Int)) = decide ((c, d) = (a, b)) := by
  refine Bool.eq_iff_iff.2 ?_
  simp only [Bool.and_eq_true, beq_iff_eq, decide_eq_true_eq, Prod.mk.injEq]
  omega
/-- the new question's own box turns nothing -/
theorem boxed8 {b : Nat} {w3 w7 : World} {D E : List (Nat × Nat)} {t : Int} {X n : Nat} {dv : Value} (c : Array Value)
    (h : But b w3 w7 ∧ Bank b E t X w7 ∧ w7.ownsRow w3.heap.size 31 2 dv n (encD D)) :
    But b w3 (w7.alloc (.cells c 31)) ∧ Bank b E t X (w7.alloc (.cells c 31)) ∧ (w7.alloc (.cells c 31)).ownsRow w3.heap.size 31 2 dv n (encD D) ∧ Blk (w7.alloc (.cells c 31)) w7.heap.size c 31 :=
  ⟨h.1.alloc _, h.2.1.below ((Below.refl _ _).alloc (Nat.le_refl _) _) h.2.1.2.1, h.2.2.alloc _, Blk.new _ _ _⟩

theorem infoA : (Tryd.prog.info? 31).map (fun i => (i.zero, i.size, i.bytes)) = some (some (.agg #[.int .i64 0, .int .i64 0]), 2, 16) := by kernel_rfl

set_option maxRecDepth 100000 in
set_option maxHeartbeats 3200000 in
theorem BankTells_walk (v : Value) (zs : List (Int × Int)) (w : World) (hT : Wave.Tab w) (hP : Pairs w v zs) :
    Calls Tryd.prog 3 #[v] w fun e w' => e = .returned (.bool true) ∧ Below w.heap.size w w' := by
  obtain ⟨a, c, rfl, hz⟩ := hP.out
  clear hP
  obtain ⟨len, hlen⟩ : ∃ len, zs.length = len := ⟨_, rfl⟩
  rw [hlen]
  have HZ : Hid (zs = [] ∨ ∃ b off, a = some ⟨b, off, none⟩ ∧ b < w.heap.size ∧ ∀ i k n, zs[i]? = some (k, n) → w.cell? ⟨b, off + i * 2, none⟩ = some (.int .i64 k) ∧ w.cell? ⟨b, off + i * 2 + 1, none⟩ = some (.int .i64 n)) := hz
  have HL : Hid (zs.length = len) := hlen
  clear hz hlen
  have hnot : ∀ (x : Bool) (w : World), (Op.unary .not (.bool x)).run Tryd.prog w = .ok (.bool (!x)) w := fun _ _ => rfl
  by_cases hbig : 30 < len
  · have hbig' : (30 : Int) < len := by omega
    go_enter Tryd.func3, Tryd.ntmps3
    go_wp2_with (go_at_call 6; refine (alive_any _ hT).mono ?_; rintro e w2 ⟨rfl, hb⟩)
    go_ret
    exact ⟨rfl, hb⟩
  · have hbig' : ¬ (30 : Int) < len := by omega
    have hl30 : (len : Int) ≤ 30 := by omega
    go_enter Tryd.func3, Tryd.ntmps3
    go_wp2_with (first
      | (go_at_call 6; refine (alive_any _ hT).mono ?_; rintro e w2 ⟨rfl, hb⟩; have hT2 := tab_below hb (Nat.le_refl _) hT)
      | (go_at_call 7; refine (new_any w2).mono ?_; rintro e w3 ⟨rfl, hsz3, hB3, bel3⟩; have hT3 := tab_below bel3 (Nat.le_refl _) hT2))
    have bel4 : Below w.heap.size w w3 := hb.trans (bel3.mono hb.size)
    have hwb := hb.size
    have htl := tab_lt hT
    have h0 : Tl w2.heap.size w3 [] 0 (w2.heap.size + 1) (.slice none 0 0) w3 := ⟨But.refl _ _, hB3, World.ownsRow_nil _ _ _ _⟩
    clear hB3 bel3 hb hT2
    generalize hbe : w2.heap.size = b at *
    have nT : 0 ≠ b := by omega
    have HSZ : Hid (w3.heap.size = b + 1) := hsz3
    clear hsz3
    go_loopw [4, 5, 6] (fun dv tv i wr => ∃ k : Nat, k ≤ len ∧ i = .int .i64 k ∧ ∃ D t N, Tl b w3 D t N dv wr ∧ tv = .int .i64 t ∧ D.length ≤ k ∧ 0 ≤ t ∧ t ≤ (k : Int)) (fun _ _ i _ => len - (intOf i).toNat)
    case atStart => exact ⟨0, by omega, rfl, [], 0, b + 1, h0, rfl, by simp, by omega, by omega⟩
    case round =>
      clear h0
      obtain ⟨k, hk, rfl, D, t, N, hTl, rfl, hD, t0, t1⟩ := hrel
      have hTr := hTl.but.tab hT3 nT
      obtain ⟨dA, dC, rfl⟩ := owns_slice hTl.done
      have hDl : ((D.length : Nat) : Int) ≤ 30 := by omega
      obtain ⟨i0, hi, hz0, hz1, hz2⟩ := info_parts infoA
      by_cases hlt : k < len
      · have hlt' : (k : Int) < len := by omega
        have hin : (0 : Int) ≤ k ∧ (k : Int) < len := by omega
        obtain ⟨kk, nn, b0, off, rfl, hb0, hcc⟩ : ∃ kk nn b0 off, a = some ⟨b0, off, none⟩ ∧ b0 < w.heap.size ∧ (w.cell? ⟨b0, off + k * 2, none⟩ = some (.int .i64 kk) ∧ w.cell? ⟨b0, off + k * 2 + 1, none⟩ = some (.int .i64 nn)) := by
          have hk' : k < zs.length := by rw [HL.out]; exact hlt
          rcases HZ.out with h | ⟨b0, off, ha, hbl, hc⟩
          · rw [h] at hk'; cases hk'
          · exact ⟨_, _, b0, off, ha, hbl, hc k zs[k].1 zs[k].2 (by rw [List.getElem?_eq_getElem hk'])⟩
        have hcel : ∀ wx, Below w.heap.size w wx → wx.cell? ⟨b0, off + k * 2, none⟩ = some (.int .i64 kk) ∧ wx.cell? ⟨b0, off + k * 2 + 1, none⟩ = some (.int .i64 nn) := fun wx hx =>
          ⟨(hx.cell (p := ⟨b0, off + k * 2, none⟩) hb0).trans hcc.1, (hx.cell (p := ⟨b0, off + k * 2 + 1, none⟩) hb0).trans hcc.2⟩
        have belr : Below w.heap.size w wr := bel4.trans (hTl.but.below (by omega) bel4.size)
        obtain ⟨p0, p1⟩ := hcel wr belr
        have hask := ask_all b kk nn D t N wr hTr hTl.bank (by omega) t0 (by omega)
        have hdone := hTl.done
        have hbt := hTl.but
        have HC : Hid _ := hcel
        have hxi := xsOf_ints kk nn
        have hxl := xsOf_len kk nn
        have HXI : Hid _ := hxi
        clear hcel hxi hTl hTr hcc
        by_cases hr : Right kk nn
        · obtain ⟨n, rfl⟩ : ∃ n : Nat, nn = n := ⟨nn.toNat, by have := hr.1; omega⟩
          have ec : cOf kk n = 0 := if_pos hr
          have ex : xsOf kk n = M.tabl (kap kk) n := if_pos hr
          have ei : insOf D kk n = ins D (kap kk) n := if_pos hr
          have et : tOf t kk n = t + 1 := if_pos hr
          have hok : M.okT (kap kk) n := hr.2
          obtain ⟨hts0, hts1⟩ := M.ts_bd hok
          have htl2 := M.tabl_length (kap kk) n
          have hmid : ∀ v r w6, Ans b kk n D t v r wr w6 → ∃ X6, But b w3 w6 ∧ Bank b (ins D (kap kk) n) (t + 1) X6 w6 ∧ w6.ownsRow w3.heap.size 31 2 (.slice dA D.length dC) D.length (encD D) ∧ Below w.heap.size w w6 ∧ Rd w6 v (xsOf kk n) ∧ Rd w6 r (xsOf kk n) ∧ ∃ A C, r = .slice A (M.ts (kap kk) n) C := by
            rintro v r w6 ⟨X, B, g1, g2, g3, g4, g5⟩
            rw [ei, et] at g4
            obtain ⟨A, C, hA⟩ := (Rd.of_owns g2).slice
            rw [ex, htl2] at hA
            exact ⟨X, hbt.trans g5, g4, owns_but hdone g5 (by have := HSZ.out; omega), belr.trans (g5.below (by omega) belr.size), Rd.of_owns g1, Rd.of_owns g2, A, C, hA⟩
          have HM : Hid _ := hmid
          rw [ec] at hask
          obtain ⟨sz, hsz⟩ : ∃ sz, M.ts (kap kk) n = sz := ⟨_, rfl⟩
          have hsz0 : (0 : Int) < sz := by omega
          rw [hsz] at HM
          clear hmid ec ex ei et hdone hbt htl2
          rcases (by omega : kk = 0 ∨ kk = 1 ∨ (¬ kk = 0 ∧ ¬ kk = 1)) with rfl | rfl | ⟨k0, k1⟩
          · go_wp2_with (first
              | (go_at_call 8; refine hask.mono ?_; rintro e w6 ⟨v, r, rfl, ans⟩; obtain ⟨X6, hbt6, hB6, hdone6, bel6, hv6, hr6, A, C, rfl⟩ := HM.out v r w6 ans; obtain ⟨p06, p16⟩ := HC.out w6 bel6; clear hask HM ans p0 p1)
              | (go_at_call 9; refine (same_any _ _ _ w6 hv6 hr6 HXI.out (by omega)).mono ?_; rintro e w7 ⟨rfl, m7, hw7⟩; have T7 : Hid (But b w3 w7 ∧ Bank b (ins D 0 n) (t + 1) X6 w7 ∧ w7.ownsRow w3.heap.size 31 2 (.slice dA D.length dC) D.length (encD D)) := by { rw [hw7]; exact ⟨hbt6.drewN _, hB6, hdone6⟩ }; rw [show w6.cell? _ = w7.cell? _ by rw [hw7]; rfl] at p06 p16; clear hw7 hbt6 hB6 hdone6 bel6 hv6 hr6))
            obtain ⟨W, hW⟩ : ∃ W, W = w7.alloc (.cells #[.int .i64 0, .int .i64 n] 31) := ⟨_, rfl⟩
            rw [← hW]
            obtain ⟨T8, hbox⟩ : (But b w3 W ∧ Bank b (ins D 0 n) (t + 1) X6 W ∧ W.ownsRow w3.heap.size 31 2 (.slice dA D.length dC) D.length (encD D)) ∧ Blk W w7.heap.size #[.int .i64 0, .int .i64 n] 31 := by
              rw [hW]; obtain ⟨g1, g2, g3, g4⟩ := boxed8 #[.int .i64 0, .int .i64 n] T7.out; exact ⟨⟨g1, g2, g3⟩, g4⟩
            have x0 := hbox.cell (o := 0) rfl
            have x1 := hbox.cell (o := 1) rfl
            simp only [List.getElem_toArray, List.getElem_cons_succ, List.getElem_cons_zero] at x0 x1
            have H8 : Hid _ := T8
            clear T7 T8 hW p06 p16 hbox
            go_loopw [11, 12] (fun isv j wy => ∃ jn : Nat, jn ≤ D.length ∧ j = .int .i64 jn ∧ isv = .bool (decide ((0, n) ∈ D.take jn)) ∧ ∃ m, wy = W.drewN m) (fun _ j _ => D.length - (intOf j).toNat)
            case atStart => exact ⟨0, by omega, rfl, by simp, 0, rfl⟩
            case round =>
              obtain ⟨j, hj, rfl, rfl, m, rfl⟩ := hrel
              by_cases hjt : j < D.length
              · have hjt' : (j : Int) < D.length := by omega
                have hin2 : (0 : Int) ≤ j ∧ (j : Int) < D.length := by omega
                obtain ⟨g, q, rfl, hq, y0, y1⟩ := done_at H8.out.2.2 hjt
                have HQ : Hid _ := take_mem (q := (0, n)) hq
                clear hq
                by_cases his : (0, n) ∈ D.take j
                · have hd : decide ((0, n) ∈ D.take j) = true := by simp [his]
                  have hd' : decide ((0, n) ∈ D.take (j + 1)) = true := by simp [HQ.out, his]
                  rw [hd]
                  clear hd his
                  go_wp2
                  go_quiet (fail)
                  go_wp2
                  go_roundw
                  case rel => exact ⟨j + 1, by omega, by go_num, by rw [hd'], _, rfl⟩
                  case measure => simp [intOf]; omega
                · have hd : decide ((0, n) ∈ D.take j) = false := by simp [his]
                  have hd' : decide ((0, n) ∈ D.take (j + 1)) = ((q.1 : Int) == ((0 : Nat) : Int) && (q.2 : Int) == (n : Int)) := by
                    rw [eq_key]; exact decide_eq_decide.2 (HQ.out.trans ⟨fun h => h.resolve_left his, .inr⟩)
                  have heq := eq_ask q.1 q.2 0 n
                  have HD : Hid _ := hd'
                  rw [hd]
                  clear hd his hd'
                  go_wp2
                  go_quiet (fail)
                  go_wp2
                  go_roundw
                  case rel => exact ⟨j + 1, by omega, by go_num, by rw [HD.out]; rfl, _, rfl⟩
                  case measure => simp [intOf]; omega
              · obtain rfl : j = D.length := by omega
                obtain ⟨W9, hW9⟩ : ∃ W9, W9 = W.drewN m := ⟨_, rfl⟩
                rw [← hW9]
                have z0 : W9.cell? ⟨w7.heap.size, 0, none⟩ = some (.int .i64 0) := by rw [hW9]; exact x0
                have z1 : W9.cell? ⟨w7.heap.size, 1, none⟩ = some (.int .i64 n) := by rw [hW9]; exact x1
                obtain ⟨hbt9, hB9, ho9⟩ : But b w3 W9 ∧ Bank b (ins D 0 n) (t + 1) X6 W9 ∧ W9.ownsRow w3.heap.size 31 2 (.slice dA D.length dC) D.length (encD D) := by
                  rw [hW9]; exact ⟨H8.out.1.drewN m, H8.out.2.1, H8.out.2.2⟩
                clear hW9 x0 x1
                by_cases hmem : (0, n) ∈ D
                · have hd : decide ((0, n) ∈ D.take D.length) = true := by simp [hmem]
                  have hins : ins D 0 n = D := if_pos hmem
                  rw [hins] at hB9
                  rw [hd]
                  have hT9 : Tl b w3 D (t + 1) X6 (.slice dA D.length dC) W9 := ⟨hbt9, hB9, ho9⟩
                  clear hd hmem hbt9 ho9 z0 z1 hins
                  go_wp2_with (first
                    | (go_at_call 10; refine (made_any b D (t + 1) X6 _ hB9 (by omega)).mono ?_; rintro e wq ⟨rfl, hw⟩; rw [hw]; clear hw wq)
                    | (go_at_call 11; refine (toldN_any b D (t + 1) X6 _ hB9 (by omega) (by omega)).mono ?_; rintro e wq ⟨rfl, hw⟩; rw [hw]; clear hw wq))
                  go_roundw
                  case rel => exact ⟨k + 1, by omega, by go_num, D, t + 1, X6, hT9, rfl, by omega, by omega, by omega⟩
                  case measure => simp [intOf]; omega
                · have hd : decide ((0, n) ∈ D.take D.length) = false := by simp [hmem]
                  have hins : ins D 0 n = D ++ [(0, n)] := if_neg hmem
                  rw [hins] at hB9
                  rw [hd]
                  have hs9 := hbt9.size
                  clear hd hmem
                  go_wp2_with (first
                    | (at_builtin; refine wpList_append_own _ rfl (.tmp 89) (.tmp 91) 22 rfl w3.heap.size 31 i0 (.agg #[.int .i64 0, .int .i64 0]) 2 16 Tryd.underlying22 hi hz0 hz1 hz2 rfl (by decide) _ _ _ rfl (ho9.alloc _) ⟨W9.heap.size, 0, none⟩ 1 1 [.int .i64 0, .int .i64 n] rfl rfl ?c1 ?c2 ?c3 ?c4 ?c5 ?_))
                  case c1 =>
                    intro i u hi
                    rw [add_at]
                    exact (Blk.new W9 #[.int .i64 0, .int .i64 n] 31).cell (by simpa using hi)
                  case c2 => intro u hu; simp at hu; rcases hu with rfl | rfl <;> rfl
                  case c3 => unfold maxLen; omega
                  case c4 => omega
                  case c5 => simp; omega
                  · intro v' w1 hown' hgrow _
                    have hB10 : Bank b (D ++ [(0, n)]) (t + 1) X6 w1 := (hB9.below ((Below.refl _ _).alloc (Nat.le_refl _) _) hB9.2.1).grown (ho9.alloc _) hgrow
                    have hT10 : Tl b w3 (D ++ [(0, n)]) (t + 1) X6 v' w1 := by
                      refine ⟨(hbt9.alloc _).grown hgrow (fun i hi => (ho9.lt i hi).1), hB10, ?_⟩
                      rw [encD_app]
                      simpa using hown'
                    obtain ⟨vA, vC, rfl⟩ := owns_slice hown'
                    have hlen10 : (D ++ [(0, n)]).length = D.length + 1 := by simp
                    have HL10 : Hid _ := hlen10
                    have hmade := made_any b _ (t + 1) X6 w1 hB10 (by omega)
                    rw [hlen10] at hmade
                    clear hown' hgrow ho9 hB9 hbt9 z0 z1 hins hlen10
                    go_wp2_with (first
                      | (go_at_call 10; refine hmade.mono ?_; rintro e wq ⟨rfl, hw⟩; rw [hw]; clear hw wq)
                      | (go_at_call 11; refine (toldN_any b _ (t + 1) X6 _ hB10 (by omega) (by omega)).mono ?_; rintro e wq ⟨rfl, hw⟩; rw [hw]; clear hw wq))
                    go_roundw
                    case rel => exact ⟨k + 1, by omega, by go_num, _, t + 1, X6, hT10, rfl, by rw [HL10.out]; omega, by omega, by omega⟩
                    case measure => simp [intOf]; omega
          · go_wp2_with (first
              | (go_at_call 8; refine hask.mono ?_; rintro e w6 ⟨v, r, rfl, ans⟩; obtain ⟨X6, hbt6, hB6, hdone6, bel6, hv6, hr6, A, C, rfl⟩ := HM.out v r w6 ans; obtain ⟨p06, p16⟩ := HC.out w6 bel6; clear hask HM ans p0 p1)
              | (go_at_call 9; refine (same_any _ _ _ w6 hv6 hr6 HXI.out (by omega)).mono ?_; rintro e w7 ⟨rfl, m7, hw7⟩; have T7 : Hid (But b w3 w7 ∧ Bank b (ins D 1 n) (t + 1) X6 w7 ∧ w7.ownsRow w3.heap.size 31 2 (.slice dA D.length dC) D.length (encD D)) := by { rw [hw7]; exact ⟨hbt6.drewN _, hB6, hdone6⟩ }; rw [show w6.cell? _ = w7.cell? _ by rw [hw7]; rfl] at p06 p16; clear hw7 hbt6 hB6 hdone6 bel6 hv6 hr6))
            obtain ⟨W, hW⟩ : ∃ W, W = w7.alloc (.cells #[.int .i64 1, .int .i64 n] 31) := ⟨_, rfl⟩
            rw [← hW]
            obtain ⟨T8, hbox⟩ : (But b w3 W ∧ Bank b (ins D 1 n) (t + 1) X6 W ∧ W.ownsRow w3.heap.size 31 2 (.slice dA D.length dC) D.length (encD D)) ∧ Blk W w7.heap.size #[.int .i64 1, .int .i64 n] 31 := by
              rw [hW]; obtain ⟨g1, g2, g3, g4⟩ := boxed8 #[.int .i64 1, .int .i64 n] T7.out; exact ⟨⟨g1, g2, g3⟩, g4⟩
            have x0 := hbox.cell (o := 0) rfl
            have x1 := hbox.cell (o := 1) rfl
            simp only [List.getElem_toArray, List.getElem_cons_succ, List.getElem_cons_zero] at x0 x1
            have H8 : Hid _ := T8
            clear T7 T8 hW p06 p16 hbox
            go_loopw [11, 12] (fun isv j wy => ∃ jn : Nat, jn ≤ D.length ∧ j = .int .i64 jn ∧ isv = .bool (decide ((1, n) ∈ D.take jn)) ∧ ∃ m, wy = W.drewN m) (fun _ j _ => D.length - (intOf j).toNat)
            case atStart => exact ⟨0, by omega, rfl, by simp, 0, rfl⟩
            case round =>
              obtain ⟨j, hj, rfl, rfl, m, rfl⟩ := hrel
              by_cases hjt : j < D.length
              · have hjt' : (j : Int) < D.length := by omega
                have hin2 : (0 : Int) ≤ j ∧ (j : Int) < D.length := by omega
                obtain ⟨g, q, rfl, hq, y0, y1⟩ := done_at H8.out.2.2 hjt
                have HQ : Hid _ := take_mem (q := (1, n)) hq
                clear hq
                by_cases his : (1, n) ∈ D.take j
                · have hd : decide ((1, n) ∈ D.take j) = true := by simp [his]
                  have hd' : decide ((1, n) ∈ D.take (j + 1)) = true := by simp [HQ.out, his]
                  rw [hd]
                  clear hd his
                  go_wp2
                  go_quiet (fail)
                  go_wp2
                  go_roundw
                  case rel => exact ⟨j + 1, by omega, by go_num, by rw [hd'], _, rfl⟩
                  case measure => simp [intOf]; omega
                · have hd : decide ((1, n) ∈ D.take j) = false := by simp [his]
                  have hd' : decide ((1, n) ∈ D.take (j + 1)) = ((q.1 : Int) == ((1 : Nat) : Int) && (q.2 : Int) == (n : Int)) := by
                    rw [eq_key]; exact decide_eq_decide.2 (HQ.out.trans ⟨fun h => h.resolve_left his, .inr⟩)
                  have heq := eq_ask q.1 q.2 1 n
                  have HD : Hid _ := hd'
                  rw [hd]
                  clear hd his hd'
                  go_wp2
                  go_quiet (fail)
                  go_wp2
                  go_roundw
                  case rel => exact ⟨j + 1, by omega, by go_num, by rw [HD.out]; rfl, _, rfl⟩
                  case measure => simp [intOf]; omega
              · obtain rfl : j = D.length := by omega
                obtain ⟨W9, hW9⟩ : ∃ W9, W9 = W.drewN m := ⟨_, rfl⟩
                rw [← hW9]
                have z0 : W9.cell? ⟨w7.heap.size, 0, none⟩ = some (.int .i64 1) := by rw [hW9]; exact x0
                have z1 : W9.cell? ⟨w7.heap.size, 1, none⟩ = some (.int .i64 n) := by rw [hW9]; exact x1
                obtain ⟨hbt9, hB9, ho9⟩ : But b w3 W9 ∧ Bank b (ins D 1 n) (t + 1) X6 W9 ∧ W9.ownsRow w3.heap.size 31 2 (.slice dA D.length dC) D.length (encD D) := by
                  rw [hW9]; exact ⟨H8.out.1.drewN m, H8.out.2.1, H8.out.2.2⟩
                clear hW9 x0 x1
                by_cases hmem : (1, n) ∈ D
                · have hd : decide ((1, n) ∈ D.take D.length) = true := by simp [hmem]
                  have hins : ins D 1 n = D := if_pos hmem
                  rw [hins] at hB9
                  rw [hd]
                  have hT9 : Tl b w3 D (t + 1) X6 (.slice dA D.length dC) W9 := ⟨hbt9, hB9, ho9⟩
                  clear hd hmem hbt9 ho9 z0 z1 hins
                  go_wp2_with (first
                    | (go_at_call 10; refine (made_any b D (t + 1) X6 _ hB9 (by omega)).mono ?_; rintro e wq ⟨rfl, hw⟩; rw [hw]; clear hw wq)
                    | (go_at_call 11; refine (toldN_any b D (t + 1) X6 _ hB9 (by omega) (by omega)).mono ?_; rintro e wq ⟨rfl, hw⟩; rw [hw]; clear hw wq))
                  go_roundw
                  case rel => exact ⟨k + 1, by omega, by go_num, D, t + 1, X6, hT9, rfl, by omega, by omega, by omega⟩
                  case measure => simp [intOf]; omega
                · have hd : decide ((1, n) ∈ D.take D.length) = false := by simp [hmem]
                  have hins : ins D 1 n = D ++ [(1, n)] := if_neg hmem
                  rw [hins] at hB9
                  rw [hd]
                  have hs9 := hbt9.size
                  clear hd hmem
                  go_wp2_with (first
                    | (at_builtin; refine wpList_append_own _ rfl (.tmp 89) (.tmp 91) 22 rfl w3.heap.size 31 i0 (.agg #[.int .i64 0, .int .i64 0]) 2 16 Tryd.underlying22 hi hz0 hz1 hz2 rfl (by decide) _ _ _ rfl (ho9.alloc _) ⟨W9.heap.size, 0, none⟩ 1 1 [.int .i64 1, .int .i64 n] rfl rfl ?c1 ?c2 ?c3 ?c4 ?c5 ?_))
                  case c1 =>
                    intro i u hi
                    rw [add_at]
                    exact (Blk.new W9 #[.int .i64 1, .int .i64 n] 31).cell (by simpa using hi)
                  case c2 => intro u hu; simp at hu; rcases hu with rfl | rfl <;> rfl
                  case c3 => unfold maxLen; omega
                  case c4 => omega
                  case c5 => simp; omega
                  · intro v' w1 hown' hgrow _
                    have hB10 : Bank b (D ++ [(1, n)]) (t + 1) X6 w1 := (hB9.below ((Below.refl _ _).alloc (Nat.le_refl _) _) hB9.2.1).grown (ho9.alloc _) hgrow
                    have hT10 : Tl b w3 (D ++ [(1, n)]) (t + 1) X6 v' w1 := by
                      refine ⟨(hbt9.alloc _).grown hgrow (fun i hi => (ho9.lt i hi).1), hB10, ?_⟩
                      rw [encD_app]
                      simpa using hown'
                    obtain ⟨vA, vC, rfl⟩ := owns_slice hown'
                    have hlen10 : (D ++ [(1, n)]).length = D.length + 1 := by simp
                    have HL10 : Hid _ := hlen10
                    have hmade := made_any b _ (t + 1) X6 w1 hB10 (by omega)
                    rw [hlen10] at hmade
                    clear hown' hgrow ho9 hB9 hbt9 z0 z1 hins hlen10
                    go_wp2_with (first
                      | (go_at_call 10; refine hmade.mono ?_; rintro e wq ⟨rfl, hw⟩; rw [hw]; clear hw wq)
                      | (go_at_call 11; refine (toldN_any b _ (t + 1) X6 _ hB10 (by omega) (by omega)).mono ?_; rintro e wq ⟨rfl, hw⟩; rw [hw]; clear hw wq))
                    go_roundw
                    case rel => exact ⟨k + 1, by omega, by go_num, _, t + 1, X6, hT10, rfl, by rw [HL10.out]; omega, by omega, by omega⟩
                    case measure => simp [intOf]; omega
          · have hk2 : kap kk = 2 := by unfold kap; rw [if_neg k0, if_neg k1]
            rw [hk2] at HM
            have e0 : (kk != 0) = true := by simpa using k0
            have e1 : (kk != 1) = true := by simpa using k1
            go_wp2_with (first
              | (go_at_call 8; refine hask.mono ?_; rintro e w6 ⟨v, r, rfl, ans⟩; obtain ⟨X6, hbt6, hB6, hdone6, bel6, hv6, hr6, A, C, rfl⟩ := HM.out v r w6 ans; obtain ⟨p06, p16⟩ := HC.out w6 bel6; clear hask HM ans p0 p1)
              | (go_at_call 9; refine (same_any _ _ _ w6 hv6 hr6 HXI.out (by omega)).mono ?_; rintro e w7 ⟨rfl, m7, hw7⟩; have T7 : Hid (But b w3 w7 ∧ Bank b (ins D 2 n) (t + 1) X6 w7 ∧ w7.ownsRow w3.heap.size 31 2 (.slice dA D.length dC) D.length (encD D)) := by { rw [hw7]; exact ⟨hbt6.drewN _, hB6, hdone6⟩ }; rw [show w6.cell? _ = w7.cell? _ by rw [hw7]; rfl] at p06 p16; clear hw7 hbt6 hB6 hdone6 bel6 hv6 hr6))
            obtain ⟨W, hW⟩ : ∃ W, W = w7.alloc (.cells #[.int .i64 2, .int .i64 n] 31) := ⟨_, rfl⟩
            rw [← hW]
            obtain ⟨T8, hbox⟩ : (But b w3 W ∧ Bank b (ins D 2 n) (t + 1) X6 W ∧ W.ownsRow w3.heap.size 31 2 (.slice dA D.length dC) D.length (encD D)) ∧ Blk W w7.heap.size #[.int .i64 2, .int .i64 n] 31 := by
              rw [hW]; obtain ⟨g1, g2, g3, g4⟩ := boxed8 #[.int .i64 2, .int .i64 n] T7.out; exact ⟨⟨g1, g2, g3⟩, g4⟩
            have x0 := hbox.cell (o := 0) rfl
            have x1 := hbox.cell (o := 1) rfl
            simp only [List.getElem_toArray, List.getElem_cons_succ, List.getElem_cons_zero] at x0 x1
            have H8 : Hid _ := T8
            clear T7 T8 hW p06 p16 hbox
            go_loopw [11, 12] (fun isv j wy => ∃ jn : Nat, jn ≤ D.length ∧ j = .int .i64 jn ∧ isv = .bool (decide ((2, n) ∈ D.take jn)) ∧ ∃ m, wy = W.drewN m) (fun _ j _ => D.length - (intOf j).toNat)
            case atStart => exact ⟨0, by omega, rfl, by simp, 0, rfl⟩
            case round =>
              obtain ⟨j, hj, rfl, rfl, m, rfl⟩ := hrel
              by_cases hjt : j < D.length
              · have hjt' : (j : Int) < D.length := by omega
                have hin2 : (0 : Int) ≤ j ∧ (j : Int) < D.length := by omega
                obtain ⟨g, q, rfl, hq, y0, y1⟩ := done_at H8.out.2.2 hjt
                have HQ : Hid _ := take_mem (q := (2, n)) hq
                clear hq
                by_cases his : (2, n) ∈ D.take j
                · have hd : decide ((2, n) ∈ D.take j) = true := by simp [his]
                  have hd' : decide ((2, n) ∈ D.take (j + 1)) = true := by simp [HQ.out, his]
                  rw [hd]
                  clear hd his
                  go_wp2
                  go_quiet (fail)
                  go_wp2
                  go_roundw
                  case rel => exact ⟨j + 1, by omega, by go_num, by rw [hd'], _, rfl⟩
                  case measure => simp [intOf]; omega
                · have hd : decide ((2, n) ∈ D.take j) = false := by simp [his]
                  have hd' : decide ((2, n) ∈ D.take (j + 1)) = ((q.1 : Int) == ((2 : Nat) : Int) && (q.2 : Int) == (n : Int)) := by
                    rw [eq_key]; exact decide_eq_decide.2 (HQ.out.trans ⟨fun h => h.resolve_left his, .inr⟩)
                  have heq := eq_ask q.1 q.2 2 n
                  have HD : Hid _ := hd'
                  rw [hd]
                  clear hd his hd'
                  go_wp2
                  go_quiet (fail)
                  go_wp2
                  go_roundw
                  case rel => exact ⟨j + 1, by omega, by go_num, by rw [HD.out]; rfl, _, rfl⟩
                  case measure => simp [intOf]; omega
              · obtain rfl : j = D.length := by omega
                obtain ⟨W9, hW9⟩ : ∃ W9, W9 = W.drewN m := ⟨_, rfl⟩
                rw [← hW9]
                have z0 : W9.cell? ⟨w7.heap.size, 0, none⟩ = some (.int .i64 2) := by rw [hW9]; exact x0
                have z1 : W9.cell? ⟨w7.heap.size, 1, none⟩ = some (.int .i64 n) := by rw [hW9]; exact x1
                obtain ⟨hbt9, hB9, ho9⟩ : But b w3 W9 ∧ Bank b (ins D 2 n) (t + 1) X6 W9 ∧ W9.ownsRow w3.heap.size 31 2 (.slice dA D.length dC) D.length (encD D) := by
                  rw [hW9]; exact ⟨H8.out.1.drewN m, H8.out.2.1, H8.out.2.2⟩
                clear hW9 x0 x1
                by_cases hmem : (2, n) ∈ D
                · have hd : decide ((2, n) ∈ D.take D.length) = true := by simp [hmem]
                  have hins : ins D 2 n = D := if_pos hmem
                  rw [hins] at hB9
                  rw [hd]
                  have hT9 : Tl b w3 D (t + 1) X6 (.slice dA D.length dC) W9 := ⟨hbt9, hB9, ho9⟩
                  clear hd hmem hbt9 ho9 z0 z1 hins
                  go_wp2_with (first
                    | (go_at_call 10; refine (made_any b D (t + 1) X6 _ hB9 (by omega)).mono ?_; rintro e wq ⟨rfl, hw⟩; rw [hw]; clear hw wq)
                    | (go_at_call 11; refine (toldN_any b D (t + 1) X6 _ hB9 (by omega) (by omega)).mono ?_; rintro e wq ⟨rfl, hw⟩; rw [hw]; clear hw wq))
                  go_roundw
                  case rel => exact ⟨k + 1, by omega, by go_num, D, t + 1, X6, hT9, rfl, by omega, by omega, by omega⟩
                  case measure => simp [intOf]; omega
                · have hd : decide ((2, n) ∈ D.take D.length) = false := by simp [hmem]
                  have hins : ins D 2 n = D ++ [(2, n)] := if_neg hmem
                  rw [hins] at hB9
                  rw [hd]
                  have hs9 := hbt9.size
                  clear hd hmem
                  go_wp2_with (first
                    | (at_builtin; refine wpList_append_own _ rfl (.tmp 89) (.tmp 91) 22 rfl w3.heap.size 31 i0 (.agg #[.int .i64 0, .int .i64 0]) 2 16 Tryd.underlying22 hi hz0 hz1 hz2 rfl (by decide) _ _ _ rfl (ho9.alloc _) ⟨W9.heap.size, 0, none⟩ 1 1 [.int .i64 2, .int .i64 n] rfl rfl ?c1 ?c2 ?c3 ?c4 ?c5 ?_))
                  case c1 =>
                    intro i u hi
                    rw [add_at]
                    exact (Blk.new W9 #[.int .i64 2, .int .i64 n] 31).cell (by simpa using hi)
                  case c2 => intro u hu; simp at hu; rcases hu with rfl | rfl <;> rfl
                  case c3 => unfold maxLen; omega
                  case c4 => omega
                  case c5 => simp; omega
                  · intro v' w1 hown' hgrow _
                    have hB10 : Bank b (D ++ [(2, n)]) (t + 1) X6 w1 := (hB9.below ((Below.refl _ _).alloc (Nat.le_refl _) _) hB9.2.1).grown (ho9.alloc _) hgrow
                    have hT10 : Tl b w3 (D ++ [(2, n)]) (t + 1) X6 v' w1 := by
                      refine ⟨(hbt9.alloc _).grown hgrow (fun i hi => (ho9.lt i hi).1), hB10, ?_⟩
                      rw [encD_app]
                      simpa using hown'
                    obtain ⟨vA, vC, rfl⟩ := owns_slice hown'
                    have hlen10 : (D ++ [(2, n)]).length = D.length + 1 := by simp
                    have HL10 : Hid _ := hlen10
                    have hmade := made_any b _ (t + 1) X6 w1 hB10 (by omega)
                    rw [hlen10] at hmade
                    clear hown' hgrow ho9 hB9 hbt9 z0 z1 hins hlen10
                    go_wp2_with (first
                      | (go_at_call 10; refine hmade.mono ?_; rintro e wq ⟨rfl, hw⟩; rw [hw]; clear hw wq)
                      | (go_at_call 11; refine (toldN_any b _ (t + 1) X6 _ hB10 (by omega) (by omega)).mono ?_; rintro e wq ⟨rfl, hw⟩; rw [hw]; clear hw wq))
                    go_roundw
                    case rel => exact ⟨k + 1, by omega, by go_num, _, t + 1, X6, hT10, rfl, by rw [HL10.out]; omega, by omega, by omega⟩
                    case measure => simp [intOf]; omega
        · have ec : cOf kk nn = 1 := if_neg hr
          have ex : xsOf kk nn = [] := if_neg hr
          have ei : insOf D kk nn = D := if_neg hr
          have et : tOf t kk nn = t := if_neg hr
          have hmid : ∀ v r w6, Ans b kk nn D t v r wr w6 → ∃ X6, Tl b w3 D t X6 (.slice dA D.length dC) w6 ∧ Rd w6 v [] ∧ Rd w6 r [] ∧ ∃ A C, r = .slice A 0 C := by
            rintro v r w6 ⟨X, B, g1, g2, g3, g4, g5⟩
            rw [ex] at g1 g2
            rw [ei, et] at g4
            obtain ⟨A, C, hA⟩ := (Rd.of_owns g2).slice
            exact ⟨X, ⟨hbt.trans g5, g4, owns_but hdone g5 (by have := HSZ.out; omega)⟩, Rd.of_owns g1, Rd.of_owns g2, A, C, hA⟩
          have HM : Hid _ := hmid
          rw [ec] at hask
          clear hmid ec ex ei et hdone hbt
          go_wp2_with (first
            | (go_at_call 8; refine hask.mono ?_; rintro e w6 ⟨v, r, rfl, ans⟩; obtain ⟨X6, hTl6, hv6, hr6, A, C, rfl⟩ := HM.out v r w6 ans; clear hask HM ans)
            | (go_at_call 9; refine (same_any _ _ [] w6 hv6 hr6 (fun u hu => by cases hu) (by decide)).mono ?_; rintro e w7 ⟨rfl, m7, rfl⟩)
            | (go_at_call 10; refine (made_any b D t X6 _ (hTl6.bank.drewN _) (by omega)).mono ?_; rintro e wq ⟨rfl, hw⟩; rw [hw]; clear hw wq)
            | (go_at_call 11; refine (toldN_any b D t X6 _ (hTl6.bank.drewN _) t0 (by omega)).mono ?_; rintro e wq ⟨rfl, hw⟩; rw [hw]; clear hw wq))
          go_roundw
          case rel => exact ⟨k + 1, by omega, by go_num, D, t, X6, hTl6.drewN _, rfl, by omega, t0, by omega⟩
          case measure => simp [intOf]; omega
      · obtain rfl : k = len := by omega
        go_wp2
        go_ret
        exact ⟨rfl, bel4.trans (hTl.but.below (by omega) bel4.size)⟩

end Bank
end Go.Proofs.YtfmjdlaalkjfeaaDoor
