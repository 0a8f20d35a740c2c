import Derived.Test.YtcaifpjbjghhaaaGreatDoorSubA00
import Derived.Test.YtcaifpjbjghhaaaGreatDoorSubA01
import Derived.Test.YtcaifpjbjghhaaaGreatDoorSubA02
import Derived.Test.YtcaifpjbjghhaaaGreatDoorSubA03
import Derived.Test.YtcaifpjbjghhaaaGreatDoorSubA04
import Derived.Test.YtcaifpjbjghhaaaGreatDoorSubA05
import Derived.Test.YtcaifpjbjghhaaaGreatDoorSubA06
import Derived.Test.YtcaifpjbjghhaaaGreatDoorSubA07
import Derived.Test.YtcaifpjbjghhaaaGreatDoorSubA08
import Derived.Test.YtcaifpjbjghhaaaGreatDoorSubA09
import Derived.Test.YtcaifpjbjghhaaaGreatDoorSubA10
import Derived.Test.YtcaifpjbjghhaaaGreatDoorSubA11
import Derived.Test.YtcaifpjbjghhaaaGreatDoorSubA12
import Derived.Test.YtcaifpjbjghhaaaGreatDoorSubA13
import Derived.Test.YtcaifpjbjghhaaaGreatDoorSubA14
import Derived.Test.YtcaifpjbjghhaaaGreatDoorSubA15
import Derived.Test.YtcaifpjbjghhaaaGreatDoorSubA16
import Derived.Test.YtcaifpjbjghhaaaGreatDoorSubA17
import Derived.Test.YtcaifpjbjghhaaaGreatDoorSubA18
import Derived.Test.YtcaifpjbjghhaaaGreatDoorSubA19
import Derived.Test.YtcaifpjbjghhaaaGreatDoorSubA20
import Derived.Test.YtcaifpjbjghhaaaGreatDoorSubA21
import Derived.Test.YtcaifpjbjghhaaaGreatDoorSubA22
import Derived.Test.YtcaifpjbjghhaaaGreatDoorSubA23
import Derived.Test.YtcaifpjbjghhaaaGreatDoorSubA24
import Derived.Test.YtcaifpjbjghhaaaGreatDoorSubA25
import Derived.Test.YtcaifpjbjghhaaaGreatDoorSubA26
import Derived.Test.YtcaifpjbjghhaaaGreatDoorSubA27
import Derived.Test.YtcaifpjbjghhaaaGreatDoorSubA28
import Derived.Test.YtcaifpjbjghhaaaGreatDoorSubA29
import Derived.Test.YtcaifpjbjghhaaaGreatDoorSubA30
import Derived.Test.YtcaifpjbjghhaaaGreatDoorSubA31
import Derived.Test.YtcaifpjbjghhaaaGreatDoorSubA32
import Derived.Test.YtcaifpjbjghhaaaGreatDoorSubA33
import Derived.Test.YtcaifpjbjghhaaaGreatDoorSubA34
import Derived.Test.YtcaifpjbjghhaaaGreatDoorSubA35
import Derived.Test.YtcaifpjbjghhaaaGreatDoorSubA36
import Derived.Test.YtcaifpjbjghhaaaGreatDoorSubA37
import Derived.Test.YtcaifpjbjghhaaaGreatDoorSubA38
import Derived.Test.YtcaifpjbjghhaaaGreatDoorSubA39
import Derived.Test.YtcaifpjbjghhaaaGreatDoorSubA40
import Derived.Test.YtcaifpjbjghhaaaGreatDoorSubA41
import Derived.Test.YtcaifpjbjghhaaaGreatDoorSubA42
import Derived.Test.YtcaifpjbjghhaaaGreatDoorSubA43
import Derived.Test.YtcaifpjbjghhaaaGreatDoorSubA44
import Derived.Test.YtcaifpjbjghhaaaGreatDoorSubTurnedB04
/-
  A frame that is made, parsed, packed again and turned into planes: the calls behind one another. Conditions: as told at each.
-/
namespace Go.Proofs.YtcaifpjbjghhaaaGreatDoor
set_option linter.unusedVariables false
open Go.RowKit
namespace Sub
open Bank (Blk But)
open Byt (Given)
open Poly (Reads cell_keep alloc_size Spl Joi enc)
open _root_.Go.Proofs.YtcaifpjbjghhaaaGreatDoor.Form (fv fc bel1 box_cells blk_below of_drew)

/-- the frame of samples x behind lines L -/
def frameOf (f : M.Fmt) (C B N r n : Nat) (sl : Int) (L : Nat → List Int) (x : List Int) : List Nat := M.frb f C B N r sl (M.an f C B N r sl (M.enX B N C x L)) n
theorem lay_ok {aj az ac E B C N hi : Nat} {pf : Nat → Nat} (h1 : aj < hi) (h2 : az + C < hi) (h3 : E ≤ hi) (h4 : ac < E) (h5 : ∀ i, i < N → ac < pf i ∧ pf i + C < E) : (lay aj az ac B C N pf).ok hi C B N :=
  ⟨⟨h1, Nat.le_refl _⟩, ⟨by show az < hi; omega, Nat.le_refl _⟩, ⟨by show ac < hi; omega, Nat.le_refl _⟩, fun y hy => ⟨by show az + 1 + y < hi; omega, Nat.le_refl _⟩, fun i hi' => ⟨by show pf i < hi; have := h5 i hi'; omega, Nat.le_refl _⟩, fun i hi' y hy => ⟨by show pf i + 1 + y < hi; have := h5 i hi'; omega, Nat.le_refl _⟩⟩

theorem back_steps (p l C B N r n : Nat) (f : M.Fmt) (lo g : Nat → Nat) (L : Nat → List Int) (lo' hi' : Nat) (x : List Int) (v : Value) (W : World) (hT : ∀ wx, Lns g C W wx → Alloc.Tabs wx) (hF : Sb f C B N r) (he : Enc p l C B f lo g L W) (hx : Reads .i16 lo' hi' W v x) (hh : hi' ≤ W.heap.size) (hl : x.length = C * (N * B)) (hn : M.pay f = n) :
    ∃ sl, Sh f C B r (M.anS f N B (M.enX B N C x L)) sl ∧
    Calls Tryz.prog 30 #[.pointer (some ⟨p, 0, none⟩), v] W fun e W2 => ∃ g0 cap, e = .returned (.tuple #[.slice (some ⟨g0, 0, none⟩) n cap, .int .i64 0]) ∧ W.heap.size ≤ g0 ∧ Given W2 (.slice (some ⟨g0, 0, none⟩) n cap) (frameOf f C B N r n sl L x) ∧ Enc p l C B f lo g (M.enL B N C x L) W2 ∧ Lns g C W W2 ∧
      Calls Tryz.prog 24 #[fv f, .slice (some ⟨g0, 0, none⟩) n cap] W2 fun e W3 => ∃ aj az ac, e = .returned (.tuple #[pa (.slice (some ⟨aj, 0, none⟩) B B) (.slice (some ⟨az, 0, none⟩) C C) (.slice (some ⟨ac, 0, none⟩) N N), .int .i64 0]) ∧ Below W2.heap.size W2 W3 ∧
        ∀ W4, Below W3.heap.size W3 W4 → Calls Tryz.prog 23 #[fv f, pa (.slice (some ⟨aj, 0, none⟩) B B) (.slice (some ⟨az, 0, none⟩) C C) (.slice (some ⟨ac, 0, none⟩) N N)] W4 fun e W5 => ∃ g1 c1, e = .returned (.tuple #[.slice (some ⟨g1, 0, none⟩) n c1, .int .i64 0]) ∧ Below W4.heap.size W4 W5 ∧ Given W5 (.slice (some ⟨g1, 0, none⟩) n c1) (frameOf f C B N r n sl L x) ∧
          Calls Tryz.prog 15 #[fv f, pa (.slice (some ⟨aj, 0, none⟩) B B) (.slice (some ⟨az, 0, none⟩) C C) (.slice (some ⟨ac, 0, none⟩) N N)] W5 fun e W6 => ∃ b o c, e = .returned (.tuple #[.slice (some ⟨b, o, none⟩) C c, .int .i64 0]) ∧ Below W5.heap.size W5 W6 := by
  have hends := M.ends (f := f) (.inl hF.ok)
  rw [hn] at hends
  have hbit : M.bitS f ≤ 8 * (n : Int) := by have := hends.2.2.2.2; unfold M.bitF at this; rw [if_pos hF.ok.1] at this; exact this
  have n7 : 7 ≤ n := by have := hends.2.2.1; omega
  have c2 := hF.c2
  have b8 := hF.b8
  have n16 := hF.n16
  obtain ⟨sl, hS⟩ := sh_of hF (Z := M.anS f N B (M.enX B N C x L)) (fun c _ b _ => M.anS_bd _ _ _ _ _ _)
  refine ⟨sl, hS, (Feed_ok p l C B N r n f lo g L sl lo' hi' x v W hT hF he hx hh hl hS hn).mono ?_⟩
  rintro e W2 ⟨u, rfl, ho, he2, hl2⟩
  obtain ⟨au, cu, rfl⟩ := Poly.own_form ho
  change W2.ownsRow W.heap.size _ 1 _ n ((frameOf f C B N r n sl L x).map fun x : Nat => Value.int .u8 x) at ho
  have hlen : (frameOf f C B N r n sl L x).length = n := M.frb_length
  have hlt : ∀ y ∈ frameOf f C B N r n sl L x, y < 256 := M.frb_lt
  have hg : Given W2 (.slice au n cu) (frameOf f C B N r n sl L x) := Byt.given_own (by rw [hlen]; exact ho) hlt
  obtain ⟨g0, rfl, hg0⟩ : ∃ g0, au = some ⟨g0, 0, none⟩ ∧ W.heap.size ≤ g0 := by
    rcases id ho.2 with ⟨_, h0⟩ | ⟨g0, cap, cur, h1, h2, _⟩
    · omega
    · cases h1; exact ⟨g0, rfl, h2⟩
  have hfr := fun sl' hS' => frame_is (sl' := sl') hF (m := M.an f C B N r sl (M.enX B N C x L)) (n := n) hS (M.an_ok hF) hn (fun c _ b _ => M.anS_bd _ _ _ _ _ _) hS'
  obtain ⟨sl', hS'⟩ := psc_sh (xs := frameOf f C B N r n sl L x) hF hlen hn
  obtain ⟨rfl, _, hisF⟩ := hfr sl' hS'
  refine ⟨g0, cu, rfl, hg0, hg, he2, hl2, ?_⟩
  have hT2 := hT W2 hl2
  refine (Parse_any f C B N r n _ (frameOf f C B N r n sl' L x) sl' W2 hT2 hF hS' hg hlen hn).mono ?_
  rintro e W3 ⟨b3, ⟨_, aj, az, ac, E, pf, rfl, got⟩ | ⟨hno, _⟩⟩
  · refine ⟨aj, az, ac, rfl, b3, fun W4 b4 => ?_⟩
    have hall := M.all_get (Bt := Bits.bitsL (frameOf f C B N r n sl' L x)) (n := (frameOf f C B N r n sl' L x).length) (N := N) (sl := sl') hF (by rw [hlen]; exact hbit) hS'
    have hsc := M.sc_sh (Bt := Bits.bitsL (frameOf f C B N r n sl' L x)) (n := (frameOf f C B N r n sl' L x).length) (r := r) hF (by rw [hlen]; exact hbit)
    have hms : (pnb f C B N r sl' (frameOf f C B N r n sl' L x)).s = psc f C B (frameOf f C B N r n sl' L x) := hall.1
    have hread : M.Read f C B N r sl' (Bits.bitsL (frameOf f C B N r n sl' L x)) (pnb f C B N r sl' (frameOf f C B N r n sl' L x)) := hall.2
    have hiF := hisF
    obtain ⟨hok, hfb⟩ := hiF
    have hfb' : M.frb f C B N r sl' (pnb f C B N r sl' (frameOf f C B N r n sl' L x)) n = frameOf f C B N r n sl' L x := by
      have := hfb
      rw [show (M.frb f C B N r sl' (M.an f C B N r sl' (M.enX B N C x L)) n).length = n from hlen] at this
      exact this
    obtain ⟨PN, hPN⟩ : ∃ PN, pnb f C B N r sl' (frameOf f C B N r n sl' L x) = PN := ⟨_, rfl⟩
    have hokm : okM f C B N r sl' PN := by rw [← hPN]; exact hok
    rw [hPN] at got hms hread hfb'
    have hj : ∀ b, b < B → -9223372036854775808 ≤ PN.j b ∧ PN.j b ≤ 9223372036854775807 := fun b hb => by
      rw [hread.j b hb]
      have := M.fv_lt (Bits.bitsL (frameOf f C B N r n sl' L x)) (32 + b) 1
      split <;> omega
    have hZ : ∀ c, c < C → ∀ b, b < B → 0 ≤ PN.s c b ∧ PN.s c b ≤ 15 := by rw [hms]; exact hsc.1
    have hSP : Sh f C B r PN.s sl' := by rw [hms]; exact hS'
    have gh := got.hi
    have ok4 : (lay aj az ac B C N pf).ok W3.heap.size C B N := lay_ok gh.1 gh.2.1 gh.2.2 got.ap.e got.made.q.lo
    have b24 : Below W2.heap.size W2 W4 := b3.trans (b4.mono b3.size)
    have sees3 := got.made.sees
    have sees : ∀ wx, Below W3.heap.size W3 wx → Sees (lay aj az ac B C N pf) C B N PN wx := fun wx hb => sees3.keep ok4 fun k hk => hb.block k hk
    have hT4 : ∀ wx, Below W2.heap.size W2 wx → Alloc.Tabs wx := fun wx hb => hT2.below hb (Nat.le_refl _)
    refine (Pack_laid W3.heap.size f C B N r n (lay aj az ac B C N pf) PN sl' W4 (hT4 W4 b24) hF hSP ok4 (sees W4 b4) b4.size hZ hj hn).mono ?_
    rintro e W5 ⟨b5, ⟨_, u5, rfl, ho5⟩ | ⟨hno, _⟩⟩
    · rw [hfb'] at ho5
      obtain ⟨a5, c5, rfl⟩ := Poly.own_form ho5
      obtain ⟨g5, rfl⟩ : ∃ g5, a5 = some ⟨g5, 0, none⟩ := by
        rcases id ho5.2 with ⟨_, h0⟩ | ⟨g5, cap, cur, h1, _⟩
        · omega
        · cases h1; exact ⟨g5, rfl⟩
      have b35 : Below W3.heap.size W3 W5 := b4.trans (b5.mono b4.size)
      have b25 : Below W2.heap.size W2 W5 := b3.trans (b35.mono b3.size)
      refine ⟨g5, c5, rfl, b5, Byt.given_own (by rw [hlen]; exact ho5) hlt, ?_⟩
      have hs5 := sees W5 b35
      have hr : ∀ wx, Below W5.heap.size W5 wx → Calls Tryz.prog 52 #[fv f, pa (.slice (some ⟨aj, 0, none⟩) B B) (.slice (some ⟨az, 0, none⟩) C C) (.slice (some ⟨ac, 0, none⟩) N N)] wx fun e w' => e = .returned (.int .i64 0) ∧ Below wx.heap.size wx w' := fun wx hb => by
        have hbx : Below W3.heap.size W3 wx := b35.trans (hb.mono b35.size)
        have hsx := sees wx hbx
        refine (refuse_laid W3.heap.size f C B N r (rl B PN.j) PN.q PN.s sl' _ _ _ wx (hT4 wx (b25.trans (hb.mono b25.size))) hF hSP ((hsx.v1 ok4).reads' fun j hj' => wf64.2 (hj j hj')) (hsx.v2 ok4) (hsx.v3 ok4) hbx.size (by rw [rl_length]; omega) hZ).mono ?_
        rintro e w' ⟨h1, ⟨h2, _⟩ | ⟨_, h2⟩⟩
        · exact ⟨h2, h1⟩
        · exact absurd hokm h2
      refine (Planes_ok W3.heap.size f C B N r _ _ _ PN sl' W5 (hT4 W5 b25) hF hSP (hs5.v1 ok4) (hs5.v2 ok4) (hs5.v3 ok4) b35.size hZ hr).mono ?_
      rintro e W6 ⟨v6, rfl, b6, h6⟩
      obtain ⟨b, o, c, rfl, _⟩ := h6
      exact ⟨b, o, c, rfl, b6⟩
    · exact absurd hokm hno
  · exact absurd hisF hno

end Sub
end Go.Proofs.YtcaifpjbjghhaaaGreatDoor

/-
  Contract of an encoder's Reset; samples that are copied into a new block. Conditions: as told at each.
-/
namespace Go.Proofs.YtcaifpjbjghhaaaGreatDoor
set_option linter.unusedVariables false
open Go.RowKit
namespace Sub
open Bank (Blk But)
open Poly (Reads cell_keep alloc_size Spl Joi enc enc_length enc_get add_off enc_one fit16)
open _root_.Go.Proofs.YtcaifpjbjghhaaaGreatDoor.Form (fv fc bel1 box_cells blk_below of_drew)

theorem Enc.fed {p l C B : Nat} {f : M.Fmt} {lo g : Nat → Nat} {L L' : Nat → List Int} {w w2 : World} {q : Nat} {xs : List Int} (h : Enc p l C B f lo g L w) (hq : q < C) (hb : But (g q) w w2) (hx : Spl (lo q) (g q) B xs w2) (hL : L' q = xs) (ho : ∀ c, c ≠ q → L' c = L c) : Enc p l C B f lo g L' w2 :=
  ⟨hb.blk h.obj (by have := h.gl hq; omega), h.spl.fed hq hb hx hL ho, h.lp⟩

set_option maxRecDepth 100000 in
set_option maxHeartbeats 1000000 in
theorem EncReset_ok (p l C B : Nat) (f : M.Fmt) (lo g : Nat → Nat) (L : Nat → List Int) (w : World) (he : Enc p l C B f lo g L w) (C2 : C ≤ 2) (B1 : 1 ≤ B) :
    Calls Tryz.prog 37 #[.pointer (some ⟨p, 0, none⟩)] w fun e w' => e = .returned (.tuple #[]) ∧ Enc p l C B f lo g (fun _ => List.replicate (10 * B) 0) w' ∧ Lns g C w w' := by
  have xs := oc_cells he.obj
  obtain ⟨x0, x1, x2, x3, x4, x5, x6, x7, x8, x9, x10⟩ := xs
  have HE : Hid (Enc p l C B f lo g (fun c => if c < 0 then List.replicate (10 * B) 0 else L c) w) := he.ext fun c _ => by simp
  have i1 : (C : Int) ≤ 2 := by omega
  have i2 : (0 : Int) ≤ C := by omega
  clear he
  go_enter Tryz.func37, Tryz.ntmps37
  go_wp2
  go_loopw [11] (fun i wr => ∃ q : Nat, q ≤ C ∧ i = .int .i64 q ∧ Enc p l C B f lo g (fun c => if c < q then List.replicate (10 * B) 0 else L c) wr ∧ Lns g C w wr) (fun i _ => C - (intOf i).toNat)
  case atStart => exact ⟨0, by omega, rfl, HE.out, Lns.refl _ _ _⟩
  case round =>
    clear HE x0 x1 x2 x3 x4 x5 x6 x7 x8 x9 x10
    obtain ⟨q, hq, rfl, he, hl⟩ := hrel
    by_cases hlt : q < C
    · have hlt' : (q : Int) < C := by omega
      have t9 : wr.cell? ⟨l, q, none⟩ = some (.pointer (some ⟨g q + 1, 0, none⟩)) := he.spl.top' hlt
      have spq : Spl (lo q) (g q) B (L q) wr := by
        have := he.spl.obj q hlt
        simp only [Nat.lt_irrefl, if_false] at this
        exact this
      have hrs := Poly.splitReset (lo q) (g q) B (L q) wr spq B1
      have hnx : ∀ w2, Spl (lo q) (g q) B (List.replicate (10 * B) 0) w2 → But (g q) wr w2 → Enc p l C B f lo g (fun c => if c < q + 1 then List.replicate (10 * B) 0 else L c) w2 ∧ Lns g C w w2 := fun w2 k1 k2 =>
        ⟨he.fed hlt k2 k1 (by simp) fun c hc => by
          by_cases e : c < q
          · rw [if_pos e, if_pos (by omega)]
          · rw [if_neg e, if_neg (by omega)], hl.trans (Lns.of_but k2 hlt)⟩
      have HNx : Hid _ := hnx
      clear he hl spq hnx
      go_wp2_with (go_at_call 95; refine hrs.mono ?_; clear hrs; rintro e w2 ⟨rfl, k1, k2⟩; obtain ⟨e2, l2⟩ := HNx.out w2 k1 k2; have E2 : Hid (Enc _ _ _ _ _ _ _ _ _) := e2; have L2 : Hid (Lns _ _ _ _) := l2; clear k1 k2 e2 l2)
      go_roundw
      case rel => exact ⟨q + 1, by omega, by go_num, E2.out, L2.out⟩
      case measure => simp [intOf]; omega
    · obtain rfl : C = q := by omega
      have E2 : Hid (Enc p l C B f lo g (fun _ => List.replicate (10 * B) 0) wr) := he.ext fun c hc => by simp [hc]
      have L2 : Hid (Lns g C w wr) := hl
      clear he hl
      go_wp2
      go_end0
      exact ⟨rfl, E2.out, L2.out⟩

/-- what is left of a list that is read -/
theorem Reads.rest {k : IntKind} {lo hi L c b off : Nat} {w : World} {zs : List Int} (h : Reads k lo hi w (.slice (some ⟨b, off, none⟩) L c) zs) {a : Nat} (ha : a < L) : Reads k lo hi w (.slice (some ⟨b, off + a, none⟩) (L - a) (c - a)) (zs.drop a) := by
  obtain ⟨a', c', he, hc, hw, hx⟩ := h
  cases he
  rcases hx with h0 | ⟨b', o', h1, h2, h3, h4⟩
  · rw [h0] at ha; simp at ha
  · cases h1
    have hl : (zs.drop a).length = zs.length - a := by simp
    refine ⟨_, c - a, by rw [hl], by rw [hl]; omega, fun z hz => hw z (List.mem_of_mem_drop hz), .inr ⟨b, off + a, rfl, h2, h3, fun j hj => ?_⟩⟩
    rw [hl] at hj
    have := h4 (a + j) (by omega)
    rw [← Nat.add_assoc] at this
    rw [this]
    congr 2
    rw [List.getD_eq_getElem?_getD, List.getD_eq_getElem?_getD, List.getElem?_drop]
theorem sp_tk (N k : Nat) (q : List Int) (hk : k = min q.length N) : splice (enc .i16 (List.replicate N 0)) 0 (enc .i16 (q.take k)) = enc .i16 (M.tk N q) := by
  unfold splice
  have e : enc .i16 (q.take k) ++ (enc .i16 (List.replicate N 0)).drop (0 + (enc .i16 (q.take k)).length) = enc .i16 (q.take k ++ (List.replicate N 0).drop k) := by
    rw [enc_length, List.length_take, show min k q.length = k by omega]
    simp [enc]
  rw [e, List.take_zero, List.nil_append]
  congr 1
  refine M.eq_of_getD (by rw [M.tk_length]; simp; omega) fun i hi => ?_
  simp at hi
  rw [M.getD_append, M.tk_get (by omega)]
  split
  · rename_i h; simp at h; rw [M.getD_take (by omega)]
  · rename_i h
    simp at h
    rw [List.drop_replicate, M.getD_rep, M.getD_out (by omega)]
/-- copied into a new block of n samples -/
theorem copy_tk {wr : World} {g n lo hi b off m c : Nat} {q : List Int} (h : Blk wr g (enc .i16 (List.replicate n 0)).toArray 182) (hq : Reads .i16 lo hi wr (.slice (some ⟨b, off, none⟩) m c) q) (hm : 0 < m) :
    ∃ k : Nat, ∀ ty : TypeId, (Builtin.copy_ #[55, 55] ty #[.slice (some ⟨g, 0, none⟩) n n, .slice (some ⟨b, off, none⟩) m c]).run Tryz.prog wr = .ok (goInt k) (wr.setRow g (enc .i16 (M.tk n q)).toArray) := by
  have hlq : q.length = m := by obtain ⟨_, _, he, _⟩ := hq; cases he; rfl
  obtain ⟨b', o', he, q0, q1, hcx⟩ := hq.cell (by omega)
  cases he
  refine ⟨(enc .i16 (q.take (min m n))).length, fun ty => ?_⟩
  have hcp := run_copy_row (P := Tryz.prog) wr 55 55 ty 182 g 0 n n ⟨b, off, none⟩ m c _ 182 (enc .i16 (q.take (min m n))) Tryz.underlying55 (by kernel_rfl) h
    (by rw [enc_length, List.length_take, hlq]; show min (min m n) m = min m n; omega) (fun j v hv => by
      rw [add_off]
      have hj : j < (q.take (min m n)).length := by have := (List.getElem?_eq_some_iff.1 hv).1; rw [enc_length] at this; exact this
      rw [enc_get hj] at hv
      rw [← Option.some.inj hv]
      have hj2 : j < min m n := by rw [List.length_take, hlq] at hj; omega
      rw [M.getD_take hj2]
      exact hcx j (by omega)) (by rw [enc_length, List.length_take, hlq]; simp [enc_length]; omega) (enc_one _ _)
  rw [hcp]
  have hs := sp_tk n (min m n) q (by rw [hlq])
  unfold splice at hs
  rw [List.append_assoc]
  rw [show (enc .i16 (List.replicate n 0)).toArray.toList = enc .i16 (List.replicate n 0) from rfl, hs]
theorem given_keep {w w' : World} {g0 n cap : Nat} {xs : List Nat} (h : Byt.Given w (.slice (some ⟨g0, 0, none⟩) n cap) xs) (hs : w.heap.size ≤ w'.heap.size) (hk : w'.heap[g0]? = w.heap[g0]?) : Byt.Given w' (.slice (some ⟨g0, 0, none⟩) n cap) xs := by
  obtain ⟨a, c, he, h1, h2, h3, h4⟩ := h
  cases he
  refine ⟨_, _, rfl, h1, h2, h3, ?_⟩
  rcases h4 with h4 | ⟨b, off, hb, hl, hx⟩
  · exact .inl h4
  · cases hb
    exact .inr ⟨g0, 0, rfl, by omega, fun i x hi => (cell_keep hk).trans (hx i x hi)⟩
theorem setRow_below {N : Nat} {a w : World} {g : Nat} (h : Below N a w) (hg : N ≤ g) (cs : Array Value) : Below N a (w.setRow g cs) := by
  refine ⟨h.os, h.tape, h.output, ?_, fun k hk => ?_⟩
  · have := h.size
    have e : (w.setRow g cs).heap.size = w.heap.size := by simp [World.setRow]
    omega
  · exact (setRow_other w g k cs (by omega)).trans (h.block k hk)

end Sub
end Go.Proofs.YtcaifpjbjghhaaaGreatDoor

/-
  A frame in which something was turned, by plain arithmetic. No walk. Conditions: as told at each.
-/
namespace Go.Proofs.YtcaifpjbjghhaaaGreatDoor
set_option linter.unusedVariables false
namespace M.Trn

theorem horn_xor : ∀ (b0 b1 b2 b3 b4 b5 b6 b7 : Bool) (s : Fin 8), (horn [b0, b1, b2, b3, b4, b5, b6, b7] 0 ^^^ 2 ^ (7 - s.val)) = horn (([b0, b1, b2, b3, b4, b5, b6, b7]).set s.val (!([b0, b1, b2, b3, b4, b5, b6, b7].getD s.val false))) 0 := by decide +kernel
theorem xor_byte (B : Nat → Bool) (i : Nat) : byteOf B (i / 8) ^^^ 2 ^ (7 - i % 8) = byteOf (upd B i (!B i)) (i / 8) := by
  have h := horn_xor (B (8 * (i / 8))) (B (8 * (i / 8) + 1)) (B (8 * (i / 8) + 2)) (B (8 * (i / 8) + 3)) (B (8 * (i / 8) + 4)) (B (8 * (i / 8) + 5)) (B (8 * (i / 8) + 6)) (B (8 * (i / 8) + 7)) ⟨i % 8, by omega⟩
  refine Eq.trans h ?_
  obtain ⟨q, hq⟩ : ∃ q, q = i / 8 := ⟨_, rfl⟩
  rw [← hq]
  have e : i = 8 * q + i % 8 := by omega
  rcases (by omega : i % 8 = 0 ∨ i % 8 = 1 ∨ i % 8 = 2 ∨ i % 8 = 3 ∨ i % 8 = 4 ∨ i % 8 = 5 ∨ i % 8 = 6 ∨ i % 8 = 7) with k | k | k | k | k | k | k | k <;> (rw [k] at e; subst e; simp [byteOf, upd])
/-- m bits turned from place f on -/
def flip (B : Nat → Bool) (f T : Nat) : Nat → Nat → Bool
  | 0 => B
  | m + 1 => if T.testBit m then upd (flip B f T m) (f + m) (!(flip B f T m (f + m))) else flip B f T m
/-- whether one of the first m was turned -/
def anyT (T : Nat) : Nat → Bool
  | 0 => false
  | m + 1 => T.testBit m || anyT T m
theorem flip_at (B : Nat → Bool) (f T m i : Nat) : flip B f T m i = (B i ^^ (decide (f ≤ i ∧ i < f + m) && T.testBit (i - f))) := by
  induction m generalizing i with
  | zero => rw [decide_eq_false (by omega)]; simp [flip]
  | succ m ih =>
    show (if T.testBit m then upd (flip B f T m) (f + m) (!(flip B f T m (f + m))) else flip B f T m) i = _
    by_cases hi : i = f + m
    · subst hi
      rw [decide_eq_true (show f ≤ f + m ∧ f + m < f + (m + 1) by omega), show f + m - f = m by omega, Bool.true_and]
      have h0 : flip B f T m (f + m) = B (f + m) := by rw [ih, decide_eq_false (by omega)]; simp
      cases hT : T.testBit m
      · simp [h0]
      · simp [upd, h0]
    · have e : decide (f ≤ i ∧ i < f + (m + 1)) = decide (f ≤ i ∧ i < f + m) := by
        by_cases c : f ≤ i ∧ i < f + m
        · rw [decide_eq_true c, decide_eq_true (by omega)]
        · rw [decide_eq_false c, decide_eq_false (by omega)]
      rw [e, ← ih]
      split
      · unfold upd; rw [if_neg hi]
      · rfl
theorem anyT_false (T m : Nat) (h : anyT T m = false) : ∀ j, j < m → T.testBit j = false := by
  induction m with
  | zero => intro j hj; omega
  | succ m ih =>
    have h' : (T.testBit m || anyT T m) = false := h
    rw [Bool.or_eq_false_iff] at h'
    intro j hj
    rcases Nat.lt_or_ge j m with c | c
    · exact ih h'.2 j c
    · obtain rfl : j = m := by omega
      exact h'.1
theorem anyT_true (T m : Nat) (h : anyT T m = true) : ∃ j, j < m ∧ T.testBit j = true := by
  induction m with
  | zero => cases h
  | succ m ih =>
    have h' : (T.testBit m || anyT T m) = true := h
    rcases Bool.or_eq_true_iff.1 h' with c | c
    · exact ⟨m, by omega, c⟩
    · obtain ⟨j, hj, e⟩ := ih c
      exact ⟨j, by omega, e⟩
theorem flip_none (B : Nat → Bool) (f T m : Nat) (h : anyT T m = false) : flip B f T m = B := by
  funext i
  rw [flip_at]
  by_cases c : f ≤ i ∧ i < f + m
  · rw [anyT_false T m h (i - f) (by omega)]; simp
  · rw [decide_eq_false c]; simp

/-- bits as a list of bytes -/
def listOf (B : Nat → Bool) (L : Nat) : List Nat := (List.range L).map (byteOf B)
theorem listOf_length (B : Nat → Bool) (L : Nat) : (listOf B L).length = L := by simp [listOf]
theorem listOf_lt (B : Nat → Bool) (L : Nat) : ∀ x ∈ listOf B L, x < 256 := by
  intro x hx
  obtain ⟨j, _, rfl⟩ := List.mem_map.1 hx
  exact byteOf_lt B j
theorem listOf_getElem (B : Nat → Bool) (L i x : Nat) (h : (listOf B L)[i]? = some x) : i < L ∧ x = byteOf B i := by
  have hlt := (List.getElem?_eq_some_iff.1 h).1
  rw [listOf_length] at hlt
  simp [listOf, hlt] at h
  exact ⟨hlt, h.symm⟩
theorem bitL_listOf (B : Nat → Bool) (L i : Nat) (h : i < 8 * L) : bitL (listOf B L) i = B i := by
  have e : bitL (listOf B L) i = bitsOf (byteOf B) i := by
    unfold bitL bitsOf
    simp [listOf, List.getD, show i / 8 < L by omega]
  rw [e, bitsOf_byteOf]
theorem listOf_bitL (ys : List Nat) (h : ∀ x ∈ ys, x < 256) : listOf (bitL ys) ys.length = ys := by
  refine List.ext_getElem (by rw [listOf_length]) fun j h1 h2 => ?_
  simp only [listOf, List.getElem_map, List.getElem_range]
  have e : ys.getD j 0 = ys[j] := by simp [List.getD, List.getElem?_eq_getElem h2]
  have := byteOf_bitsOf (fun i => ys.getD i 0) j (by show ys.getD j 0 < 256; rw [e]; exact h _ (List.getElem_mem h2))
  exact this.trans e

end M.Trn
namespace Sub
open M (run fsum frb fmH)
open M.Trn

/-- the bytes of a frame that the format alone tells -/
theorem frb_head {f : M.Fmt} {C B N r n t : Nat} {sl : Int} {m : Nb} (hn : 4 ≤ n) (ht : t < 3) : (frb f C B N r sl m n)[t]? = some (M.byteOf (fun j => (fmH f 8).getD j false) t) := by
  have hh : ∀ j, j < 24 → (M.frm f C B N r sl m).getD j false = (fmH f 8).getD j false := fun j hj => by
    have hl := M.fmH_length f
    unfold M.frm
    rw [List.getD_eq_getElem?_getD, List.getD_eq_getElem?_getD, List.append_assoc, List.append_assoc, List.getElem?_append_left (by rw [hl]; omega)]
  unfold M.frb M.raw
  rw [List.getElem?_set_ne (by omega)]
  have := Bits.bytesL_getD (n := n) (fun j => (M.frm f C B N r sl m).getD j false) (i := t) (by omega)
  have hl : (Bits.bytesL n fun j => (M.frm f C B N r sl m).getD j false).length = n := Bits.bytesL_length _ _
  rw [List.getD_eq_getElem?_getD, List.getElem?_eq_getElem (by omega)] at this
  rw [List.getElem?_eq_getElem (by omega)]
  congr 1
  refine Eq.trans this ?_
  exact M.byteOf_congr (n := 3) (fun i hi => hh i (by omega)) ht
theorem sbyt_set (xs : List Nat) (v : Nat) (h : 4 ≤ xs.length) : sbyt (xs.set 3 v) = sbyt xs := by
  match xs, h with
  | a :: b :: c :: d :: tl, _ => rfl
/-- its sum -/
theorem frb_sum {f : M.Fmt} {C B N r n : Nat} {sl : Int} {m : Nb} (hn : 4 ≤ n) : (frb f C B N r sl m n)[3]? = some (fsum f C B (frb f C B N r sl m n)) := by
  have hr : (M.raw f C B N r sl m n).length = n := M.raw_length
  have e : fsum f C B (frb f C B N r sl m n) = fsum f C B (M.raw f C B N r sl m n) := by
    unfold M.fsum M.frb
    rw [sbyt_set _ _ (by omega)]
  rw [e]
  unfold M.frb
  rw [List.getElem?_set_self (by omega)]
/-- what any frame is -/
structure Frm (f : M.Fmt) (C B : Nat) (xs : List Nat) : Prop where
  head : ∀ t, t < 3 → xs[t]? = some (M.byteOf (fun j => (fmH f 8).getD j false) t)
  sum : xs[3]? = some (fsum f C B xs)
theorem frm_of {f : M.Fmt} {C B N r n : Nat} {sl : Int} {m : Nb} (hn : 4 ≤ n) : Frm f C B (frb f C B N r sl m n) := ⟨fun t ht => frb_head hn ht, frb_sum hn⟩
theorem isF_frm {f : M.Fmt} {C B N r : Nat} {sl : Int} {xs : List Nat} (h : isF f C B N r sl xs) (hn : 4 ≤ xs.length) : Frm f C B xs := by
  have := frm_of (f := f) (C := C) (B := B) (N := N) (r := r) (sl := sl) (m := pnb f C B N r sl xs) hn
  rw [h.2] at this
  exact this
/-- one of the first four bytes is another -/
theorem head_turned {f : M.Fmt} {C B : Nat} {xs : List Nat} (h : Frm f C B xs) {t y : Nat} (ht : t < 4) (hl : 4 ≤ xs.length) (hy : xs[t]? ≠ some y) : ¬ Frm f C B (xs.set t y) := fun k => by
  have e : (xs.set t y)[t]? = some y := List.getElem?_set_self (by omega)
  by_cases h3 : t < 3
  · exact hy ((h.head t h3).trans ((k.head t h3).symm.trans e))
  · obtain rfl : t = 3 := by omega
    have ks := k.sum
    have : fsum f C B (xs.set 3 y) = fsum f C B xs := by unfold M.fsum; rw [sbyt_set _ _ hl]
    rw [this] at ks
    exact hy (h.sum.trans (ks.symm.trans e))
theorem bitL_sbyt {xs : List Nat} (hl : 4 ≤ xs.length) (i : Nat) : M.bitL (sbyt xs) i = M.bitL xs (if i < 16 then i + 8 else i + 16) := by
  match xs, hl with
  | a :: b :: c :: d :: tl, _ =>
    show M.bitL ([b, c] ++ tl) i = _
    rw [M.bitL_append]
    show (if i < 16 then M.bitL [b, c] i else M.bitL tl (i - 16)) = _
    by_cases h : i < 16
    · rw [if_pos h, if_pos h]
      unfold M.bitL M.bitsOf
      rcases (by omega : i / 8 = 0 ∨ i / 8 = 1) with e | e
      · rw [e, show (i + 8) / 8 = 1 by omega, show (i + 8) % 8 = i % 8 by omega]; rfl
      · rw [e, show (i + 8) / 8 = 2 by omega, show (i + 8) % 8 = i % 8 by omega]; rfl
    · rw [if_neg h, if_neg h]
      unfold M.bitL M.bitsOf
      rw [show (i + 16) / 8 = (i - 16) / 8 + 4 by omega, show (i + 16) % 8 = (i - 16) % 8 by omega]
      rfl
/-- bits of joins and scales are turned, side by side, eight at most -/
theorem side_turned {f : M.Fmt} {C B n F K T : Nat} {xs : List Nat} (h : Frm f C B xs) (hx : ∀ x ∈ xs, x < 256) (hl : xs.length = n) (hn : 4 ≤ n) (hF : 32 ≤ F) (hK : K ≤ 8) (hend : F + K ≤ 16 + sbits f B C) (hb : 16 + sbits f B C ≤ 8 * n) (hany : anyT T K = true) : ¬ Frm f C B (listOf (flip (M.bitL xs) F T K) n) := fun k => by
  obtain ⟨j, hj, hT⟩ := anyT_true T K hany
  have hs16 : 16 ≤ sbits f B C := by unfold sbits; omega
  have e3 : (listOf (flip (M.bitL xs) F T K) n)[3]? = xs[3]? := by
    have e := listOf_bitL xs hx
    rw [hl] at e
    conv => rhs; rw [← e]
    unfold listOf
    rw [List.getElem?_map, List.getElem?_map, List.getElem?_range (by omega)]
    show some (M.byteOf (flip (M.bitL xs) F T K) 3) = some (M.byteOf (M.bitL xs) 3)
    congr 1
    exact M.byteOf_congr (n := 4) (fun i hi => by rw [flip_at, decide_eq_false (by omega)]; simp) (by omega)
  have es := k.sum.symm.trans (e3.trans h.sum)
  have es' : fsum f C B (listOf (flip (M.bitL xs) F T K) n) = fsum f C B xs := Option.some.inj es
  unfold M.fsum at es'
  have hl2 : 4 ≤ (listOf (flip (M.bitL xs) F T K) n).length := by rw [listOf_length]; exact hn
  rw [M.run_congr 8 29 15 _ (fun i => M.bitL (sbyt xs) i ^^ (decide (F - 16 ≤ i ∧ i < F - 16 + K) && T.testBit (i - (F - 16)))) _ fun i hi => by
    rw [bitL_sbyt hl2, bitL_listOf _ _ _ (by split <;> omega), flip_at, bitL_sbyt (by omega)]
    by_cases h16 : i < 16
    · rw [if_pos h16, decide_eq_false (by omega), decide_eq_false (by omega)]; simp
    · rw [if_neg h16]
      by_cases c : F - 16 ≤ i ∧ i < F - 16 + K
      · rw [decide_eq_true c, decide_eq_true (by omega), show i + 16 - F = i - (F - 16) by omega]
      · rw [decide_eq_false c, decide_eq_false (by omega)]; simp] at es'
  have hxr := M.run_xor 8 29 15 0 (M.bitL (sbyt xs)) (fun i => decide (F - 16 ≤ i ∧ i < F - 16 + K) && T.testBit (i - (F - 16))) (sbits f B C)
  rw [Nat.xor_zero, es', ] at hxr
  have hz : run 8 29 (fun i => decide (F - 16 ≤ i ∧ i < F - 16 + K) && T.testBit (i - (F - 16))) 0 (sbits f B C) = 0 := by
    have := congrArg (fun z => run 8 29 (M.bitL (sbyt xs)) 15 (sbits f B C) ^^^ z) hxr
    simp only [Nat.xor_self, ← Nat.xor_assoc, Nat.zero_xor] at this
    exact this.symm
  obtain ⟨a, ha⟩ : ∃ a, a = min (F - 16) (sbits f B C - 8) := ⟨_, rfl⟩
  refine M.run_burst 8 29 a (sbits f B C - 8 - a) (fun i => decide (F - 16 ≤ i ∧ i < F - 16 + K) && T.testBit (i - (F - 16))) (by omega) (by decide) (by decide) (fun i hi => ?_) (fun i h1 h2 => ?_) (F - 16 - a + j) (by omega) ?_ ?_
  · show (decide (F - 16 ≤ i ∧ i < F - 16 + K) && _) = false
    rw [decide_eq_false (by omega)]; rfl
  · show (decide (F - 16 ≤ i ∧ i < F - 16 + K) && _) = false
    rw [decide_eq_false (by omega)]; rfl
  · show (decide (F - 16 ≤ a + (F - 16 - a + j) ∧ a + (F - 16 - a + j) < F - 16 + K) && T.testBit (a + (F - 16 - a + j) - (F - 16))) = true
    rw [decide_eq_true (by omega), show a + (F - 16 - a + j) - (F - 16) = j by omega, hT]; rfl
  · rw [show a + 8 + (sbits f B C - 8 - a) = sbits f B C by omega]
    exact hz
end Sub
end Go.Proofs.YtcaifpjbjghhaaaGreatDoor

