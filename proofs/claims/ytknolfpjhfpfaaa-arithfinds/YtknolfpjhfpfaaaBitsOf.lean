/-
  Bytes that are given, and the contract of the document's Of (psalteryref05). Conditions: the bytes stand in memory.
-/
import Derived.Test.YtknolfpjhfpfaaaBitsGet
import Derived.Deep.RegionLaw
namespace Go.Proofs.Ytknolfpjhfpfaaa
set_option linter.unusedVariables false
open Go.RowKit
namespace Bits

/-- bytes that are given: they lie where they lie, and are only read -/
def Given (w : World) (v : Value) (xs : List Nat) : Prop :=
  ∃ a c, v = .slice a xs.length c ∧ (∀ x ∈ xs, x < 256) ∧ (a = none → xs = [] ∧ c = 0) ∧ (xs = [] ∨ ∃ b off, a = some ⟨b, off, none⟩ ∧ b < w.heap.size ∧ ∀ (i x : Nat), xs[i]? = some x → w.cell? ⟨b, off + i, none⟩ = some (.int .u8 x))
theorem Given.below {N : Nat} {w w' : World} {v : Value} {xs : List Nat} (h : Given w v xs) (u : Below N w w') (hN : w.heap.size ≤ N) : Given w' v xs := by
  obtain ⟨a, c, rfl, hv, hnil, h | ⟨b, off, ha, hb, hx⟩⟩ := h
  · exact ⟨a, c, rfl, hv, hnil, .inl h⟩
  · refine ⟨a, c, rfl, hv, hnil, .inr ⟨b, off, ha, by have := u.size; omega, fun i x hi => ?_⟩⟩
    rw [u.cell (show b < N by omega)]
    exact hx i x hi
theorem Given.src {w : World} {v : Value} {xs : List Nat} (h : Given w v xs) : Src w v xs := by
  obtain ⟨a, c, rfl, hv, hnil, h | ⟨b, off, ha, hb, hx⟩⟩ := h
  · cases a with
    | none => obtain ⟨_, rfl⟩ := hnil rfl; subst h; exact .inl ⟨rfl, rfl⟩
    | some a => subst h; exact .inr ⟨a, c, rfl, fun i x hi => by simp at hi⟩
  · subst ha
    refine .inr ⟨_, c, rfl, fun i x hi => ?_⟩
    rw [Go.WideShapes.add_plain]
    exact hx i x hi
theorem open_bytes {H : Type} {enc : TypeId × Value → H} {w : World} {base : Nat} {spare : Nat → Bool} {held : Bool} {fuel : Nat} {a : Option Addr} {len cap : Nat} {x : DataW H × List MemPlace}
    (h : DataW.trod enc Try.prog w base spare held fuel 41 [.slice a len cap] = some x) : ∃ xs, Given w (.slice a len cap) xs := by
  rcases Go.ChangeShapes.open_ints Try.underlying41 Try.underlying5 (by kernel_rfl) h with ⟨hcs, _⟩ | ⟨a', len', cap', zs, hcs, hb, hl, hm, hzl, _, hc, hw⟩
  · simp at hcs
    obtain ⟨rfl, rfl, rfl⟩ := hcs
    exact ⟨[], none, _, rfl, (fun z hz => absurd hz (by simp)), fun _ => ⟨rfl, rfl⟩, .inl rfl⟩
  · simp at hcs
    obtain ⟨rfl, rfl, rfl⟩ := hcs
    have hlm : len ≤ zs.length := by rw [hzl]; split <;> omega
    have hr : ∀ z ∈ zs, 0 ≤ z ∧ z < 256 := fun z hz => by
      have u1 := hw z hz
      simp [Lit.wf, IntKind.min, IntKind.max, IntKind.bits, IntKind.signed] at u1
      omega
    refine ⟨(zs.take len).map Int.toNat, some a', cap, by simp; omega, fun z hz => ?_, (fun h => by cases h), ?_⟩
    · obtain ⟨y, hy, rfl⟩ := List.mem_map.1 hz
      have := hr y (List.mem_of_mem_take hy)
      omega
    · rcases Nat.eq_zero_or_pos len with h0 | h0
      · exact .inl (by rw [h0]; rfl)
      · obtain ⟨b, off, spot⟩ := a'
        have hspot : spot = none := by simpa [Addr.add] using World.cell?_spot (hc 0 (by omega))
        subst hspot
        refine .inr ⟨b, off, rfl, ?_, fun i x hi => ?_⟩
        · have := World.block_lt_of_cell? w _ (hc 0 (by omega))
          simpa [Addr.add] using this
        · obtain ⟨y, hy, rfl⟩ : ∃ y, (zs.take len)[i]? = some y ∧ y.toNat = x := by rw [List.getElem?_map] at hi; exact Option.map_eq_some_iff.1 hi
          have hlt : i < len := by have := (List.getElem?_eq_some_iff.1 hy).1; simp at this; omega
          rw [List.getElem?_take_of_lt hlt] at hy
          have k := hc i (by omega)
          rw [Go.WideShapes.add_plain] at k
          rw [k]
          have := hr y (List.mem_of_getElem? hy)
          simp [List.getD, hy]
          omega

/-- the cells of bits -/
def bitL (B : Nat → Bool) (L : Nat) : List Value := (List.range L).map fun i => .int .i64 ((B i).toNat : Nat)
theorem bitL_succ (B : Nat → Bool) (L : Nat) : bitL B (L + 1) = bitL B L ++ [.int .i64 ((B L).toNat : Nat)] := by simp [bitL, List.range_succ]

/-- the document's pad while Of fills it -/
def Part (w : World) (B : Nat → Bool) (L : Nat) (wr : World) : Prop :=
  ∃ s, Blk wr w.heap.size #[s, .int .i64 0, .int .i64 0] 53 ∧ wr.ownsRow (w.heap.size + 1) 3 1 s L (bitL B L) ∧ Below w.heap.size w wr ∧ w.heap.size + 1 ≤ wr.heap.size

theorem part_step {w wr w3 : World} {B : Nat → Bool} {L sc gg cap : Nat} {sa : Option Addr} {o : Obj} {y : Int} (hblk : Blk wr w.heap.size #[.slice sa L sc, .int .i64 0, .int .i64 0] 53)
    (hown : wr.ownsRow (w.heap.size + 1) 3 1 (.slice sa L sc) L (bitL B L)) (bel : Below w.heap.size w wr) (hsz : w.heap.size + 1 ≤ wr.heap.size)
    (hown3 : w3.ownsRow (w.heap.size + 1) 3 1 (.slice (some ⟨gg, 0, none⟩) (L + 1) cap) (L + 1) (bitL B L ++ [.int .i64 y])) (hy : y = ((B L).toNat : Nat))
    (hgrow : (wr.alloc o).drew.grownBy w3 (Value.slice sa L sc).ownBlock) : Part w B (L + 1) (w3.setCell ⟨w.heap.size, 0, none⟩ (.slice (some ⟨gg, 0, none⟩) (L + 1) cap)) := by
  subst hy
  have kN := own_ne hown (show w.heap.size < w.heap.size + 1 by omega)
  have lw := hblk.lt
  have b1 : Blk (wr.alloc o).drew w.heap.size #[.slice sa L sc, .int .i64 0, .int .i64 0] 53 := (hblk.alloc o).drew
  have b3 : Blk w3 w.heap.size #[.slice sa L sc, .int .i64 0, .int .i64 0] 53 := (hgrow.block _ b1.lt kN).trans b1
  have bel3 : Below w.heap.size w w3 := Below.grown ((bel.alloc (by omega) o).drew) hgrow (by show w.heap.size ≤ (wr.alloc o).heap.size; simp; omega) (fun k hk => by have := own_block hown k hk; omega)
  have bt : But w.heap.size w.heap.size w3 (w3.setCell ⟨w.heap.size, 0, none⟩ (.slice (some ⟨gg, 0, none⟩) (L + 1) cap)) := (But.refl w.heap.size w.heap.size w3).set (a := ⟨w.heap.size, 0, none⟩) (.inl rfl) _
  have s3 := hgrow.size
  refine ⟨_, b3.set 0 _, ?_, bel3.trans (bt.below (Nat.le_refl _) (Nat.le_refl _) bel3.size), ?_⟩
  · rw [bitL_succ]
    exact owns_but hown3 bt (by omega) (by omega)
  · have : (wr.alloc o).drew.heap.size = wr.heap.size + 1 := World.size_alloc _ _
    have := bt.size
    omega

set_option maxRecDepth 100000 in
set_option maxHeartbeats 2000000 in
theorem Of_any (v : Value) (xs : List Nat) (w : World) (hs : Given w v xs) (hn : xs.length ≤ 512) :
    Calls Try.prog 24 #[v] w fun e w' => e = .returned (.pointer (some ⟨w.heap.size, 0, none⟩)) ∧ Part w (bitsL xs) (8 * xs.length) w' := by
  obtain ⟨i0, hi0, hz0, hz1, hz2⟩ := info_parts info64
  have hG := hs
  obtain ⟨a, cp, rfl, hx, hnil, _⟩ := hs
  have hst : Part w (bitsL xs) 0 (w.alloc (.cells #[.slice none 0 0, .int .i64 0, .int .i64 0] 53)) :=
    ⟨_, Blk.new _ _ _, World.ownsRow_nil _ _ _ _, (Below.refl _ _).alloc (Nat.le_refl _) _, by simp⟩
  go_enter Try.func24, Try.ntmps24
  go_wp2
  go_loopw [4] (fun i wr => ∃ j : Nat, j ≤ xs.length ∧ i = .int .i64 j ∧ Part w (bitsL xs) (8 * j) wr) (fun i _ => xs.length - (intOf i).toNat)
  case atStart => exact ⟨0, by omega, rfl, hst⟩
  case round =>
    obtain ⟨j, hj, rfl, hP⟩ := hrel
    by_cases hlt : j < xs.length
    · obtain ⟨x, hxj⟩ : ∃ x, xs[j]? = some x := ⟨_, List.getElem?_eq_getElem hlt⟩
      have hx1 : x < 256 := hx _ (List.mem_of_getElem? hxj)
      obtain ⟨a', c', he', _, _, hnl | ⟨b0, off, rfl, hb0, hcells⟩⟩ := hG
      · rw [hnl] at hlt; simp at hlt
      cases he'
      have k0 := hcells j x hxj
      clear hcells
      have i1 : (0 : Int) ≤ (j : Int) := by omega
      have i2 : (j : Int) < (xs.length : Int) := by omega
      go_wp2
      go_loopw [5] (fun k wy => ∃ m : Nat, m ≤ 8 ∧ k = .int .i64 (7 - (m : Int)) ∧ Part w (bitsL xs) (8 * j + m) wy) (fun k _ => (intOf k + 1).toNat)
      case atStart => exact ⟨0, by omega, rfl, hP⟩
      case round =>
        clear hP
        obtain ⟨m, hm, rfl, s, hblk, hown, bel, hsz⟩ := hrel
        by_cases hlt2 : m < 8
        · obtain ⟨sa, sc, rfl⟩ := own_form hown
          have r0 : wr.cell? ⟨b0, off + j, none⟩ = some (.int .u8 x) := (bel.cell hb0).trans k0
          have r1 : wr.cell? ⟨w.heap.size, 0, none⟩ = some (.slice sa (8 * j + m) sc) := hblk.cell rfl
          have f1 : b0 ≠ w.heap.size := by omega
          have hjt : ((7 : Int) - m).toNat = 7 - m := by omega
          have j0 : (0 : Int) ≤ 7 - m := by omega
          have j1 : (7 : Int) - m ≤ 64 := by omega
          have v3 : IntKind.u64.wrap ((7 : Int) - m) = (7 : Int) - m := wrapu_id _ (by omega) (by omega)
          have v5 : IntKind.i64.wrap (x : Int) = x := wrap_id _ (by omega) (by omega)
          obtain ⟨y, e2, hye⟩ : ∃ y : Nat, (x : Int) / 2 ^ (7 - m) = y ∧ y = x / 2 ^ (7 - m) := ⟨_, by simp, rfl⟩
          have yb : Hid (y % 2 = (bitsL xs (8 * j + m)).toNat) := by
            show y % 2 = _
            unfold bitsL M.bitsOf
            rw [show (8 * j + m) / 8 = j by omega, show (8 * j + m) % 8 = m by omega, Nat.testBit_eq_decide_div_mod_eq]
            show y % 2 = (decide (xs.getD j 0 / 2 ^ (7 - m) % 2 = 1)).toNat
            rw [show xs.getD j 0 = x by simp [List.getD, hxj], ← hye]
            rcases Nat.mod_two_eq_zero_or_one y with e | e <;> rw [e] <;> rfl
          clear hye
          have kA : ∀ (o : Obj) (g i : Nat), g < wr.heap.size → (wr.alloc o).cell? ⟨g, i, none⟩ = wr.cell? ⟨g, i, none⟩ := fun o g i hg => ((Below.refl wr.heap.size wr).alloc (Nat.le_refl _) o).cell hg
          have kN := own_ne hown (show w.heap.size < w.heap.size + 1 by omega)
          have lw := hblk.lt
          have fr0 := hblk.free 0
          have kF : ∀ (o : Obj) (i : Nat), (wr.alloc o).frozen? ⟨w.heap.size, i, none⟩ = wr.frozen? ⟨w.heap.size, i, none⟩ := fun o i => ((Below.refl wr.heap.size wr).alloc (Nat.le_refl _) o).frozen lw
          go_wp2
          go_region_law ((refine step_append_lies _ (by rfl) _ _ _ (by rfl) (w.heap.size + 1) 3 i0 _ 1 8 Try.underlying29 hi0 hz0 hz1 hz2 rfl (by omega) _ (8 * j + m) (bitL (bitsL xs) (8 * j + m)) (by rfl) ((hown.alloc _).drew) ⟨wr.heap.size, 0, none⟩ 1 1 [.int .i64 ((y : Int) % 2)] (by rfl) (by rfl) (World.news_of_block (cs := #[.int .i64 ((y : Int) % 2)]) (t := 3) (fr := (0, 0)) (heap_alloc_new wr _)) (by simp [Value.oneCell']) (by omega) (by unfold maxLen; omega) (by omega) (by simp; omega) (wr.heap.size + 1) (by simp) ?_; intro gg cap w3 hown3 hgrow hat hlt3; have z1 : w3.cell? ⟨w.heap.size, 0, none⟩ = some (.slice sa (8 * j + m) sc) := (hgrow.cell_far _ (by simp; omega) kN).trans ((kA _ _ _ lw).trans r1); have z2 : w3.frozen? ⟨w.heap.size, 0, none⟩ = false := (hgrow.frozen_far _ (by simp; omega) kN).trans ((kF _ _).trans fr0)))
          all_goals (
            go_wp2
            go_roundw
            case rel => exact ⟨m + 1, by omega, by go_num, part_step (L := 8 * j + m) hblk hown bel hsz hown3 (by have q : y % 2 = (bitsL xs (8 * j + m)).toNat := yb; omega) hgrow⟩
            case measure => simp [intOf]; omega)
        · obtain rfl : m = 8 := by omega
          go_wp2
          go_roundw
          case rel => exact ⟨j + 1, by omega, by go_num, s, hblk, hown, bel, hsz⟩
          case measure => simp [intOf]; omega
    · obtain rfl : j = xs.length := by omega
      go_wp2
      go_ret
      exact ⟨rfl, hP⟩

theorem Part.made {w w' : World} {B : Nat → Bool} {n : Nat} (h : Part w B (8 * n) w') : RMade w w' w.heap.size n B := by
  obtain ⟨s, hblk, hown, bel, hsz⟩ := h
  obtain ⟨_, ⟨rfl, h0⟩ | ⟨g, cap, cur, rfl, hg, hh, h1, h2, h3, h4⟩⟩ := hown
  · exact ⟨w.heap.size, Nat.le_refl _, Nat.le_refl _, hblk.lt, hblk.lt, bel, _, hblk, none, 0, by rw [h0], fun h => by omega⟩
  · refine ⟨g, Nat.le_refl _, by omega, hblk.lt, (Array.getElem?_eq_some_iff.1 hh).1, bel, _, hblk, _, cap, rfl, fun _ => ⟨rfl, cur, hh, fun i hi => ?_⟩⟩
    have : (cur.toList.take (8 * n * 1))[i]? = (bitL B (8 * n))[i]? := by rw [h4]
    rw [List.getElem?_take_of_lt (by omega), Array.getElem?_toList] at this
    rw [this]
    simp [bitL, hi]

end Bits
end Go.Proofs.Ytknolfpjhfpfaaa
