/-
  What the law that finds what was put rests on: bits in bytes, symbols that were put and are kept, appends of given bytes. Conditions: as told at each.
-/
import Derived.Test.YtknolfpjhfpfaaaArithAny
namespace Go.Proofs.Ytknolfpjhfpfaaa
set_option linter.unusedVariables false
open Go.RowKit
namespace Ari
open Bits (Blk But add_at wrap_id bytesL bitsL)
open Num (Ints)

/-- append of a slice that may be nil to a row of one's own -/
theorem wpList_append_opt {P : Program} (w : World) {ops : Array Oper} {rest : List Oper} {o : Oper} {a : Act} {Q : Exit → Act → World → Prop}
    (hg : o.guard = none) (s x : Operand) (t : TypeId) (hop : o.op = Op.call { callee := Callee.builtin Builtin.append, args := #[s, x], argTypes := #[t, t] })
    (base : Nat) (e : TypeId) (i : TypeInfo) (z : Value) (size bytes : Nat) (h1 : P.underlying t = some (.slice e)) (h2 : P.info? e = some i) (h3 : i.zero = some z) (h4 : i.size = size) (h5 : i.bytes = bytes) (h6 : z.cells.size = size) (h7 : 0 < size)
    (v : Value) (n : Nat) (xs : List Value) (hs : a.eval s = v) (hown : w.ownsRow base e size v n xs) (ao : Option Addr) (m c : Nat) (news : List Value) (hx : a.eval x = .slice ao m c) (hn : news.length = m * size)
    (hnone : ao = none → m = 0 ∧ c = 0) (hc : ∀ ad, ao = some ad → ∀ j u, news[j]? = some u → w.cell? (ad.add j) = some u) (h1c : ∀ u ∈ news, u.oneCell' = true) (b1 : n + m ≤ maxLen) (b2 : (n + m) * bytes ≤ 140737488355328) (b3 : base ≤ w.heap.size)
    (hK : ∀ v' w', w'.ownsRow base e size v' (n + m) (xs ++ news) → w.grownBy w' v.ownBlock → wpList P ops Q rest (a.put o.dst v') w') :
    wpList P ops Q (o :: rest) a w := by
  cases ao with
  | some ad => exact wpList_append_own w hg s x t hop base e i z size bytes h1 h2 h3 h4 h5 h6 h7 v n xs hs hown ad m c news hx hn (hc ad rfl) h1c b1 b2 b3 (fun v' w' k1 k2 _ => hK v' w' k1 k2)
  | none =>
    obtain ⟨rfl, rfl⟩ := hnone rfl
    have hnews : news = [] := List.eq_nil_of_length_eq_zero (by simpa using hn)
    subst hnews
    refine wpList_plain hg fun K hK' => ?_
    have hrun := run_append_owned_none (P := P) w base t o.type e i size h1 h2 _ n xs hown
    unfold Oper.wp
    simp [execOp, hop, resolve, invoke, builtin, hs, hx, hrun, Result.andThen]
    exact hK' _ _ (hK v w (by simpa using hown) (World.grownBy.refl _ _))

/-- the last byte, with what stands behind the last bit -/
def lastOr (l : List Bool) (tl : List Nat) : List Nat := if l.length % 8 ≠ 0 ∧ 0 < tl.length then (bytL l).set (l.length / 8) (M.byteOf (bitF l) (l.length / 8) ||| tl.getD 0 0 / 2 ^ (l.length % 8)) else bytL l
theorem lastOr_length (l : List Bool) (tl : List Nat) : (lastOr l tl).length = (l.length + 7) / 8 := by
  unfold lastOr; split <;> simp [bytL_length]
theorem bytL_getD {l : List Bool} {j : Nat} (h : j < (l.length + 7) / 8) : (bytL l).getD j 0 = M.byteOf (bitF l) j := Bits.bytesL_getD _ h
theorem agree_bytes (l : List Bool) (tl : List Nat) (ht : ∀ x ∈ tl, x < 256) : M.Agree (bitsL (lastOr l tl ++ tl)) l := by
  intro i b hi
  have hlt := (List.getElem?_eq_some_iff.1 hi).1
  have hb : bitF l i = b := by unfold bitF List.getD; rw [hi]; rfl
  have hj : i / 8 < (l.length + 7) / 8 := by omega
  unfold bitsL M.bitsOf
  have e1 : (lastOr l tl ++ tl).getD (i / 8) 0 = (lastOr l tl).getD (i / 8) 0 := by
    unfold List.getD
    rw [List.getElem?_append_left (by rw [lastOr_length]; exact hj)]
  show ((lastOr l tl ++ tl).getD (i / 8) 0).testBit (7 - i % 8) = b
  rw [e1]
  have h0 : (M.byteOf (bitF l) (i / 8)).testBit (7 - i % 8) = b := by
    rw [← hb, Nat.testBit_eq_decide_div_mod_eq, M.at_byte]
    cases bitF l i <;> rfl
  unfold lastOr
  split
  · next hc =>
    by_cases hq : i / 8 = l.length / 8
    · have e2 : ((bytL l).set (l.length / 8) (M.byteOf (bitF l) (l.length / 8) ||| tl.getD 0 0 / 2 ^ (l.length % 8))).getD (i / 8) 0 = M.byteOf (bitF l) (i / 8) ||| tl.getD 0 0 / 2 ^ (l.length % 8) := by
        unfold List.getD
        rw [hq, List.getElem?_set_self (by rw [bytL_length]; omega)]
        rfl
      rw [e2, Nat.testBit_or, h0, Nat.testBit_div_two_pow]
      have hx : tl.getD 0 0 < 256 := getD_lt ht 0
      have p : 2 ^ 8 ≤ 2 ^ (7 - i % 8 + l.length % 8) := Nat.pow_le_pow_right (by decide) (by omega)
      have : (tl.getD 0 0).testBit (7 - i % 8 + l.length % 8) = false := Nat.testBit_lt_two_pow (Nat.lt_of_lt_of_le hx p)
      rw [this, Bool.or_false]
    · have e2 : ((bytL l).set (l.length / 8) (M.byteOf (bitF l) (l.length / 8) ||| tl.getD 0 0 / 2 ^ (l.length % 8))).getD (i / 8) 0 = M.byteOf (bitF l) (i / 8) := by
        rw [← bytL_getD hj]
        unfold List.getD
        rw [List.getElem?_set_ne (by omega)]
      rw [e2]; exact h0
  · rw [bytL_getD hj]; exact h0
theorem or_lt {x y : Nat} (hx : x < 256) (hy : y < 256) : x ||| y < 256 := Nat.or_lt_two_pow (n := 8) hx hy
theorem lastOr_lt (l : List Bool) (tl : List Nat) (ht : ∀ x ∈ tl, x < 256) : ∀ x ∈ lastOr l tl, x < 256 := by
  intro x hx
  unfold lastOr at hx
  split at hx
  · rcases List.mem_or_eq_of_mem_set hx with h | h
    · exact bytL_lt l x h
    · rw [h]; exact or_lt (M.byteOf_lt _ _) (Nat.lt_of_le_of_lt (Nat.div_le_self _ _) (getD_lt ht 0))
  · exact bytL_lt l x hx

/-- a symbol that was put: its table's slice, the table, the symbol -/
abbrev Done := Value × List Int × Nat
def flat (ds : List Done) : List Value := ds.flatMap fun d => [d.1, .int .i64 (d.2.2 : Nat)]
def zs_ (ds : List Done) : List (List Int × Nat) := ds.map fun d => d.2
theorem flat_append (ds : List Done) (d : Done) : flat (ds ++ [d]) = flat ds ++ [d.1, .int .i64 (d.2.2 : Nat)] := by simp [flat]
theorem flat_length (ds : List Done) : (flat ds).length = ds.length * 2 := by
  induction ds with
  | nil => rfl
  | cons d ds ih => simp only [flat, List.flatMap_cons, List.length_append, List.length_cons, List.length_nil] at ih ⊢; omega
theorem flat_get : ∀ {ds : List Done} {i : Nat} {d : Done}, ds[i]? = some d → (flat ds)[i * 2]? = some d.1 ∧ (flat ds)[i * 2 + 1]? = some (.int .i64 (d.2.2 : Nat))
  | [], i, d, h => by simp at h
  | e :: ds, 0, d, h => by
    simp at h; subst h
    exact ⟨rfl, rfl⟩
  | e :: ds, i + 1, d, h => by
    have := flat_get (ds := ds) (i := i) (d := d) (by simpa using h)
    show (e.1 :: Value.int .i64 (e.2.2 : Nat) :: flat ds)[(i + 1) * 2]? = _ ∧ (e.1 :: Value.int .i64 (e.2.2 : Nat) :: flat ds)[(i + 1) * 2 + 1]? = _
    rw [show (i + 1) * 2 = i * 2 + 1 + 1 by omega, show i * 2 + 1 + 1 + 1 = (i * 2 + 1) + 1 + 1 by omega]
    simpa using this

/-- blocks of another type, when a row grows -/
theorem blk_grown {w w' : World} {o : Obj} {v : Value} {N n size k : Nat} {e t : TypeId} {xs : List Value} {cur : Array Value} (hk : Blk w k cur t) (hown : w.ownsRow N e size v n xs) (hg : (w.alloc o).grownBy w' v.ownBlock) (ht : t ≠ e) : Blk w' k cur t := by
  have hlt := hk.lt
  refine (hg.block k (by simp; omega) fun hs => ?_).trans (hk.alloc o)
  obtain ⟨_, ⟨rfl, _⟩ | ⟨g, cap, cur', rfl, hgN, hh, _⟩⟩ := hown
  · cases hs
  · obtain rfl : k = g := by simpa [Value.ownBlock] using hs
    exact ht (hk.same hh).2
theorem CodAt.grown {w w' : World} {o : Obj} {v : Value} {b N N' n size : Nat} {e : TypeId} {xs : List Value} {c : M.Cod} {en : Bool} (h : CodAt w b N' c en) (hown : w.ownsRow N e size v n xs) (hg : (w.alloc o).grownBy w' v.ownBlock) (h1 : 70 ≠ e) (h2 : 5 ≠ e) : CodAt w' b N' c en := by
  obtain ⟨s, hb, hrow, hbN, hNs⟩ := h
  refine ⟨s, blk_grown hb hown hg h1, ?_, hbN, by have := hg.size; simp at this; omega⟩
  obtain ⟨h0, h1 | ⟨g', cap', cur, hv, hg', hh, h3⟩⟩ := hrow
  · exact ⟨h0, .inl h1⟩
  · exact ⟨h0, .inr ⟨g', cap', cur, hv, hg', blk_grown hh hown hg h2, h3⟩⟩
theorem own_form {w : World} {N n size : Nat} {e : TypeId} {v : Value} {xs : List Value} (h : w.ownsRow N e size v n xs) : ∃ a cap, v = .slice a n cap := by
  obtain ⟨_, ⟨rfl, h0⟩ | ⟨g, cap, cur, rfl, _⟩⟩ := h
  · exact ⟨none, 0, by rw [h0]⟩
  · exact ⟨_, cap, rfl⟩
theorem infoOne : (Try.prog.info? 31).map (fun i => (i.zero, i.size, i.bytes)) = some (some (.agg #[.slice none 0 0, .int .i64 0]), 2, 32) := by kernel_rfl

end Ari
end Go.Proofs.Ytknolfpjhfpfaaa
