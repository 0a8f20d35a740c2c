import Derived.Test.YtcaifpjbjghhaaaGreatDoorSubBackB02
import Derived.Test.YtcaifpjbjghhaaaGreatDoorSubA00
import Derived.Test.YtcaifpjbjghhaaaGreatDoorSubA01
import Derived.Test.YtcaifpjbjghhaaaGreatDoorSubA02
import Derived.Test.YtcaifpjbjghhaaaGreatDoorSubA03
import Derived.Test.YtcaifpjbjghhaaaGreatDoorSubA04
import Derived.Test.YtcaifpjbjghhaaaGreatDoorSubA05
import Derived.Test.YtcaifpjbjghhaaaGreatDoorSubA06
import Derived.Test.YtcaifpjbjghhaaaGreatDoorSubA07
import Derived.Test.YtcaifpjbjghhaaaGreatDoorSubA08
import Derived.Test.YtcaifpjbjghhaaaGreatDoorSubA09
import Derived.Test.YtcaifpjbjghhaaaGreatDoorSubA10
import Derived.Test.YtcaifpjbjghhaaaGreatDoorSubA11
import Derived.Test.YtcaifpjbjghhaaaGreatDoorSubA12
import Derived.Test.YtcaifpjbjghhaaaGreatDoorSubA13
import Derived.Test.YtcaifpjbjghhaaaGreatDoorSubA14
import Derived.Test.YtcaifpjbjghhaaaGreatDoorSubA15
import Derived.Test.YtcaifpjbjghhaaaGreatDoorSubA16
import Derived.Test.YtcaifpjbjghhaaaGreatDoorSubA17
import Derived.Test.YtcaifpjbjghhaaaGreatDoorSubA18
import Derived.Test.YtcaifpjbjghhaaaGreatDoorSubA19
import Derived.Test.YtcaifpjbjghhaaaGreatDoorSubA20
import Derived.Test.YtcaifpjbjghhaaaGreatDoorSubA21
import Derived.Test.YtcaifpjbjghhaaaGreatDoorSubA22
import Derived.Test.YtcaifpjbjghhaaaGreatDoorSubA23
import Derived.Test.YtcaifpjbjghhaaaGreatDoorSubA24
import Derived.Test.YtcaifpjbjghhaaaGreatDoorSubA25
import Derived.Test.YtcaifpjbjghhaaaGreatDoorSubA26
import Derived.Test.YtcaifpjbjghhaaaGreatDoorSubA27
import Derived.Test.YtcaifpjbjghhaaaGreatDoorSubA28
import Derived.Test.YtcaifpjbjghhaaaGreatDoorSubA29
import Derived.Test.YtcaifpjbjghhaaaGreatDoorSubA30
import Derived.Test.YtcaifpjbjghhaaaGreatDoorSubA31
import Derived.Test.YtcaifpjbjghhaaaGreatDoorSubA32
import Derived.Test.YtcaifpjbjghhaaaGreatDoorSubA33
import Derived.Test.YtcaifpjbjghhaaaGreatDoorSubA34
import Derived.Test.YtcaifpjbjghhaaaGreatDoorSubA35
import Derived.Test.YtcaifpjbjghhaaaGreatDoorSubA36
import Derived.Test.YtcaifpjbjghhaaaGreatDoorSubA37
import Derived.Test.YtcaifpjbjghhaaaGreatDoorSubA38
import Derived.Test.YtcaifpjbjghhaaaGreatDoorSubA39
import Derived.Test.YtcaifpjbjghhaaaGreatDoorSubA40
import Derived.Test.YtcaifpjbjghhaaaGreatDoorSubA41
import Derived.Test.YtcaifpjbjghhaaaGreatDoorSubA42
import Derived.Test.YtcaifpjbjghhaaaGreatDoorSubA43
import Derived.Test.YtcaifpjbjghhaaaGreatDoorSubA44
import Derived.Test.YtcaifpjbjghhaaaGreatDoorSubBackB04
/-
  A frame that is made, parsed, packed again and turned into planes: the calls behind one another. Conditions: as told at each.
-/
namespace Go.Proofs.YtcaifpjbjghhaaaGreatDoor
set_option linter.unusedVariables false
open Go.RowKit
namespace Sub
open Bank (Blk But)
open Byt (Given)
open Poly (Reads cell_keep alloc_size Spl Joi enc)
open _root_.Go.Proofs.YtcaifpjbjghhaaaGreatDoor.Form (fv fc bel1 box_cells blk_below of_drew)

/-- the frame of samples x behind lines L -/
def frameOf (f : M.Fmt) (C B N r n : Nat) (sl : Int) (L : Nat → List Int) (x : List Int) : List Nat := M.frb f C B N r sl (M.an f C B N r sl (M.enX B N C x L)) n
theorem lay_ok {aj az ac E B C N hi : Nat} {pf : Nat → Nat} (h1 : aj < hi) (h2 : az + C < hi) (h3 : E ≤ hi) (h4 : ac < E) (h5 : ∀ i, i < N → ac < pf i ∧ pf i + C < E) : (lay aj az ac B C N pf).ok hi C B N :=
  ⟨⟨h1, Nat.le_refl _⟩, ⟨by show az < hi; omega, Nat.le_refl _⟩, ⟨by show ac < hi; omega, Nat.le_refl _⟩, fun y hy => ⟨by show az + 1 + y < hi; omega, Nat.le_refl _⟩, fun i hi' => ⟨by show pf i < hi; have := h5 i hi'; omega, Nat.le_refl _⟩, fun i hi' y hy => ⟨by show pf i + 1 + y < hi; have := h5 i hi'; omega, Nat.le_refl _⟩⟩

theorem back_steps (p l C B N r n : Nat) (f : M.Fmt) (lo g : Nat → Nat) (L : Nat → List Int) (lo' hi' : Nat) (x : List Int) (v : Value) (W : World) (hT : ∀ wx, Lns g C W wx → Alloc.Tabs wx) (hF : Sb f C B N r) (he : Enc p l C B f lo g L W) (hx : Reads .i16 lo' hi' W v x) (hh : hi' ≤ W.heap.size) (hl : x.length = C * (N * B)) (hn : M.pay f = n) :
    ∃ sl, Sh f C B r (M.anS f N B (M.enX B N C x L)) sl ∧
    Calls Tryz.prog 30 #[.pointer (some ⟨p, 0, none⟩), v] W fun e W2 => ∃ g0 cap, e = .returned (.tuple #[.slice (some ⟨g0, 0, none⟩) n cap, .int .i64 0]) ∧ W.heap.size ≤ g0 ∧ Given W2 (.slice (some ⟨g0, 0, none⟩) n cap) (frameOf f C B N r n sl L x) ∧ Enc p l C B f lo g (M.enL B N C x L) W2 ∧ Lns g C W W2 ∧
      Calls Tryz.prog 24 #[fv f, .slice (some ⟨g0, 0, none⟩) n cap] W2 fun e W3 => ∃ aj az ac, e = .returned (.tuple #[pa (.slice (some ⟨aj, 0, none⟩) B B) (.slice (some ⟨az, 0, none⟩) C C) (.slice (some ⟨ac, 0, none⟩) N N), .int .i64 0]) ∧ Below W2.heap.size W2 W3 ∧
        ∀ W4, Below W3.heap.size W3 W4 → Calls Tryz.prog 23 #[fv f, pa (.slice (some ⟨aj, 0, none⟩) B B) (.slice (some ⟨az, 0, none⟩) C C) (.slice (some ⟨ac, 0, none⟩) N N)] W4 fun e W5 => ∃ g1 c1, e = .returned (.tuple #[.slice (some ⟨g1, 0, none⟩) n c1, .int .i64 0]) ∧ Below W4.heap.size W4 W5 ∧ Given W5 (.slice (some ⟨g1, 0, none⟩) n c1) (frameOf f C B N r n sl L x) ∧
          Calls Tryz.prog 15 #[fv f, pa (.slice (some ⟨aj, 0, none⟩) B B) (.slice (some ⟨az, 0, none⟩) C C) (.slice (some ⟨ac, 0, none⟩) N N)] W5 fun e W6 => ∃ b o c, e = .returned (.tuple #[.slice (some ⟨b, o, none⟩) C c, .int .i64 0]) ∧ Below W5.heap.size W5 W6 := by
  have hends := M.ends (f := f) (.inl hF.ok)
  rw [hn] at hends
  have hbit : M.bitS f ≤ 8 * (n : Int) := by have := hends.2.2.2.2; unfold M.bitF at this; rw [if_pos hF.ok.1] at this; exact this
  have n7 : 7 ≤ n := by have := hends.2.2.1; omega
  have c2 := hF.c2
  have b8 := hF.b8
  have n16 := hF.n16
  obtain ⟨sl, hS⟩ := sh_of hF (Z := M.anS f N B (M.enX B N C x L)) (fun c _ b _ => M.anS_bd _ _ _ _ _ _)
  refine ⟨sl, hS, (Feed_ok p l C B N r n f lo g L sl lo' hi' x v W hT hF he hx hh hl hS hn).mono ?_⟩
  rintro e W2 ⟨u, rfl, ho, he2, hl2⟩
  obtain ⟨au, cu, rfl⟩ := Poly.own_form ho
  change W2.ownsRow W.heap.size _ 1 _ n ((frameOf f C B N r n sl L x).map fun x : Nat => Value.int .u8 x) at ho
  have hlen : (frameOf f C B N r n sl L x).length = n := M.frb_length
  have hlt : ∀ y ∈ frameOf f C B N r n sl L x, y < 256 := M.frb_lt
  have hg : Given W2 (.slice au n cu) (frameOf f C B N r n sl L x) := Byt.given_own (by rw [hlen]; exact ho) hlt
  obtain ⟨g0, rfl, hg0⟩ : ∃ g0, au = some ⟨g0, 0, none⟩ ∧ W.heap.size ≤ g0 := by
    rcases id ho.2 with ⟨_, h0⟩ | ⟨g0, cap, cur, h1, h2, _⟩
    · omega
    · cases h1; exact ⟨g0, rfl, h2⟩
  have hfr := fun sl' hS' => frame_is (sl' := sl') hF (m := M.an f C B N r sl (M.enX B N C x L)) (n := n) hS (M.an_ok hF) hn (fun c _ b _ => M.anS_bd _ _ _ _ _ _) hS'
  obtain ⟨sl', hS'⟩ := psc_sh (xs := frameOf f C B N r n sl L x) hF hlen hn
  obtain ⟨rfl, _, hisF⟩ := hfr sl' hS'
  refine ⟨g0, cu, rfl, hg0, hg, he2, hl2, ?_⟩
  have hT2 := hT W2 hl2
  refine (Parse_any f C B N r n _ (frameOf f C B N r n sl' L x) sl' W2 hT2 hF hS' hg hlen hn).mono ?_
  rintro e W3 ⟨b3, ⟨_, aj, az, ac, E, pf, rfl, got⟩ | ⟨hno, _⟩⟩
  · refine ⟨aj, az, ac, rfl, b3, fun W4 b4 => ?_⟩
    have hall := M.all_get (Bt := Bits.bitsL (frameOf f C B N r n sl' L x)) (n := (frameOf f C B N r n sl' L x).length) (N := N) (sl := sl') hF (by rw [hlen]; exact hbit) hS'
    have hsc := M.sc_sh (Bt := Bits.bitsL (frameOf f C B N r n sl' L x)) (n := (frameOf f C B N r n sl' L x).length) (r := r) hF (by rw [hlen]; exact hbit)
    have hms : (pnb f C B N r sl' (frameOf f C B N r n sl' L x)).s = psc f C B (frameOf f C B N r n sl' L x) := hall.1
    have hread : M.Read f C B N r sl' (Bits.bitsL (frameOf f C B N r n sl' L x)) (pnb f C B N r sl' (frameOf f C B N r n sl' L x)) := hall.2
    have hiF := hisF
    obtain ⟨hok, hfb⟩ := hiF
    have hfb' : M.frb f C B N r sl' (pnb f C B N r sl' (frameOf f C B N r n sl' L x)) n = frameOf f C B N r n sl' L x := by
      have := hfb
      rw [show (M.frb f C B N r sl' (M.an f C B N r sl' (M.enX B N C x L)) n).length = n from hlen] at this
      exact this
    obtain ⟨PN, hPN⟩ : ∃ PN, pnb f C B N r sl' (frameOf f C B N r n sl' L x) = PN := ⟨_, rfl⟩
    have hokm : okM f C B N r sl' PN := by rw [← hPN]; exact hok
    rw [hPN] at got hms hread hfb'
    have hj : ∀ b, b < B → -9223372036854775808 ≤ PN.j b ∧ PN.j b ≤ 9223372036854775807 := fun b hb => by
      rw [hread.j b hb]
      have := M.fv_lt (Bits.bitsL (frameOf f C B N r n sl' L x)) (32 + b) 1
      split <;> omega
    have hZ : ∀ c, c < C → ∀ b, b < B → 0 ≤ PN.s c b ∧ PN.s c b ≤ 15 := by rw [hms]; exact hsc.1
    have hSP : Sh f C B r PN.s sl' := by rw [hms]; exact hS'
    have gh := got.hi
    have ok4 : (lay aj az ac B C N pf).ok W3.heap.size C B N := lay_ok gh.1 gh.2.1 gh.2.2 got.ap.e got.made.q.lo
    have b24 : Below W2.heap.size W2 W4 := b3.trans (b4.mono b3.size)
    have sees3 := got.made.sees
    have sees : ∀ wx, Below W3.heap.size W3 wx → Sees (lay aj az ac B C N pf) C B N PN wx := fun wx hb => sees3.keep ok4 fun k hk => hb.block k hk
    have hT4 : ∀ wx, Below W2.heap.size W2 wx → Alloc.Tabs wx := fun wx hb => hT2.below hb (Nat.le_refl _)
    refine (Pack_laid W3.heap.size f C B N r n (lay aj az ac B C N pf) PN sl' W4 (hT4 W4 b24) hF hSP ok4 (sees W4 b4) b4.size hZ hj hn).mono ?_
    rintro e W5 ⟨b5, ⟨_, u5, rfl, ho5⟩ | ⟨hno, _⟩⟩
    · rw [hfb'] at ho5
      obtain ⟨a5, c5, rfl⟩ := Poly.own_form ho5
      obtain ⟨g5, rfl⟩ : ∃ g5, a5 = some ⟨g5, 0, none⟩ := by
        rcases id ho5.2 with ⟨_, h0⟩ | ⟨g5, cap, cur, h1, _⟩
        · omega
        · cases h1; exact ⟨g5, rfl⟩
      have b35 : Below W3.heap.size W3 W5 := b4.trans (b5.mono b4.size)
      have b25 : Below W2.heap.size W2 W5 := b3.trans (b35.mono b3.size)
      refine ⟨g5, c5, rfl, b5, Byt.given_own (by rw [hlen]; exact ho5) hlt, ?_⟩
      have hs5 := sees W5 b35
      have hr : ∀ wx, Below W5.heap.size W5 wx → Calls Tryz.prog 52 #[fv f, pa (.slice (some ⟨aj, 0, none⟩) B B) (.slice (some ⟨az, 0, none⟩) C C) (.slice (some ⟨ac, 0, none⟩) N N)] wx fun e w' => e = .returned (.int .i64 0) ∧ Below wx.heap.size wx w' := fun wx hb => by
        have hbx : Below W3.heap.size W3 wx := b35.trans (hb.mono b35.size)
        have hsx := sees wx hbx
        refine (refuse_laid W3.heap.size f C B N r (rl B PN.j) PN.q PN.s sl' _ _ _ wx (hT4 wx (b25.trans (hb.mono b25.size))) hF hSP ((hsx.v1 ok4).reads' fun j hj' => wf64.2 (hj j hj')) (hsx.v2 ok4) (hsx.v3 ok4) hbx.size (by rw [rl_length]; omega) hZ).mono ?_
        rintro e w' ⟨h1, ⟨h2, _⟩ | ⟨_, h2⟩⟩
        · exact ⟨h2, h1⟩
        · exact absurd hokm h2
      refine (Planes_ok W3.heap.size f C B N r _ _ _ PN sl' W5 (hT4 W5 b25) hF hSP (hs5.v1 ok4) (hs5.v2 ok4) (hs5.v3 ok4) b35.size hZ hr).mono ?_
      rintro e W6 ⟨v6, rfl, b6, h6⟩
      obtain ⟨b, o, c, rfl, _⟩ := h6
      exact ⟨b, o, c, rfl, b6⟩
    · exact absurd hokm hno
  · exact absurd hisF hno

end Sub
end Go.Proofs.YtcaifpjbjghhaaaGreatDoor

/-
  Contract of an encoder's Reset; samples that are copied into a new block. Conditions: as told at each.
-/
namespace Go.Proofs.YtcaifpjbjghhaaaGreatDoor
set_option linter.unusedVariables false
open Go.RowKit
namespace Sub
open Bank (Blk But)
open Poly (Reads cell_keep alloc_size Spl Joi enc enc_length enc_get add_off enc_one fit16)
open _root_.Go.Proofs.YtcaifpjbjghhaaaGreatDoor.Form (fv fc bel1 box_cells blk_below of_drew)

theorem Enc.fed {p l C B : Nat} {f : M.Fmt} {lo g : Nat → Nat} {L L' : Nat → List Int} {w w2 : World} {q : Nat} {xs : List Int} (h : Enc p l C B f lo g L w) (hq : q < C) (hb : But (g q) w w2) (hx : Spl (lo q) (g q) B xs w2) (hL : L' q = xs) (ho : ∀ c, c ≠ q → L' c = L c) : Enc p l C B f lo g L' w2 :=
  ⟨hb.blk h.obj (by have := h.gl hq; omega), h.spl.fed hq hb hx hL ho, h.lp⟩

set_option maxRecDepth 100000 in
set_option maxHeartbeats 1000000 in
theorem EncReset_ok (p l C B : Nat) (f : M.Fmt) (lo g : Nat → Nat) (L : Nat → List Int) (w : World) (he : Enc p l C B f lo g L w) (C2 : C ≤ 2) (B1 : 1 ≤ B) :
    Calls Tryz.prog 37 #[.pointer (some ⟨p, 0, none⟩)] w fun e w' => e = .returned (.tuple #[]) ∧ Enc p l C B f lo g (fun _ => List.replicate (10 * B) 0) w' ∧ Lns g C w w' := by
  have xs := oc_cells he.obj
  obtain ⟨x0, x1, x2, x3, x4, x5, x6, x7, x8, x9, x10⟩ := xs
  have HE : Hid (Enc p l C B f lo g (fun c => if c < 0 then List.replicate (10 * B) 0 else L c) w) := he.ext fun c _ => by simp
  have i1 : (C : Int) ≤ 2 := by omega
  have i2 : (0 : Int) ≤ C := by omega
  clear he
  go_enter Tryz.func37, Tryz.ntmps37
  go_wp2
  go_loopw [11] (fun i wr => ∃ q : Nat, q ≤ C ∧ i = .int .i64 q ∧ Enc p l C B f lo g (fun c => if c < q then List.replicate (10 * B) 0 else L c) wr ∧ Lns g C w wr) (fun i _ => C - (intOf i).toNat)
  case atStart => exact ⟨0, by omega, rfl, HE.out, Lns.refl _ _ _⟩
  case round =>
    clear HE x0 x1 x2 x3 x4 x5 x6 x7 x8 x9 x10
    obtain ⟨q, hq, rfl, he, hl⟩ := hrel
    by_cases hlt : q < C
    · have hlt' : (q : Int) < C := by omega
      have t9 : wr.cell? ⟨l, q, none⟩ = some (.pointer (some ⟨g q + 1, 0, none⟩)) := he.spl.top' hlt
      have spq : Spl (lo q) (g q) B (L q) wr := by
        have := he.spl.obj q hlt
        simp only [Nat.lt_irrefl, if_false] at this
        exact this
      have hrs := Poly.splitReset (lo q) (g q) B (L q) wr spq B1
      have hnx : ∀ w2, Spl (lo q) (g q) B (List.replicate (10 * B) 0) w2 → But (g q) wr w2 → Enc p l C B f lo g (fun c => if c < q + 1 then List.replicate (10 * B) 0 else L c) w2 ∧ Lns g C w w2 := fun w2 k1 k2 =>
        ⟨he.fed hlt k2 k1 (by simp) fun c hc => by
          by_cases e : c < q
          · rw [if_pos e, if_pos (by omega)]
          · rw [if_neg e, if_neg (by omega)], hl.trans (Lns.of_but k2 hlt)⟩
      have HNx : Hid _ := hnx
      clear he hl spq hnx
      go_wp2_with (go_at_call 95; refine hrs.mono ?_; clear hrs; rintro e w2 ⟨rfl, k1, k2⟩; obtain ⟨e2, l2⟩ := HNx.out w2 k1 k2; have E2 : Hid (Enc _ _ _ _ _ _ _ _ _) := e2; have L2 : Hid (Lns _ _ _ _) := l2; clear k1 k2 e2 l2)
      go_roundw
      case rel => exact ⟨q + 1, by omega, by go_num, E2.out, L2.out⟩
      case measure => simp [intOf]; omega
    · obtain rfl : C = q := by omega
      have E2 : Hid (Enc p l C B f lo g (fun _ => List.replicate (10 * B) 0) wr) := he.ext fun c hc => by simp [hc]
      have L2 : Hid (Lns g C w wr) := hl
      clear he hl
      go_wp2
      go_end0
      exact ⟨rfl, E2.out, L2.out⟩

/-- what is left of a list that is read -/
theorem Reads.rest {k : IntKind} {lo hi L c b off : Nat} {w : World} {zs : List Int} (h : Reads k lo hi w (.slice (some ⟨b, off, none⟩) L c) zs) {a : Nat} (ha : a < L) : Reads k lo hi w (.slice (some ⟨b, off + a, none⟩) (L - a) (c - a)) (zs.drop a) := by
  obtain ⟨a', c', he, hc, hw, hx⟩ := h
  cases he
  rcases hx with h0 | ⟨b', o', h1, h2, h3, h4⟩
  · rw [h0] at ha; simp at ha
  · cases h1
    have hl : (zs.drop a).length = zs.length - a := by simp
    refine ⟨_, c - a, by rw [hl], by rw [hl]; omega, fun z hz => hw z (List.mem_of_mem_drop hz), .inr ⟨b, off + a, rfl, h2, h3, fun j hj => ?_⟩⟩
    rw [hl] at hj
    have := h4 (a + j) (by omega)
    rw [← Nat.add_assoc] at this
    rw [this]
    congr 2
    rw [List.getD_eq_getElem?_getD, List.getD_eq_getElem?_getD, List.getElem?_drop]
theorem sp_tk (N k : Nat) (q : List Int) (hk : k = min q.length N) : splice (enc .i16 (List.replicate N 0)) 0 (enc .i16 (q.take k)) = enc .i16 (M.tk N q) := by
  unfold splice
  have e : enc .i16 (q.take k) ++ (enc .i16 (List.replicate N 0)).drop (0 + (enc .i16 (q.take k)).length) = enc .i16 (q.take k ++ (List.replicate N 0).drop k) := by
    rw [enc_length, List.length_take, show min k q.length = k by omega]
    simp [enc]
  rw [e, List.take_zero, List.nil_append]
  congr 1
  refine M.eq_of_getD (by rw [M.tk_length]; simp; omega) fun i hi => ?_
  simp at hi
  rw [M.getD_append, M.tk_get (by omega)]
  split
  · rename_i h; simp at h; rw [M.getD_take (by omega)]
  · rename_i h
    simp at h
    rw [List.drop_replicate, M.getD_rep, M.getD_out (by omega)]
/-- copied into a new block of n samples -/
theorem copy_tk {wr : World} {g n lo hi b off m c : Nat} {q : List Int} (h : Blk wr g (enc .i16 (List.replicate n 0)).toArray 182) (hq : Reads .i16 lo hi wr (.slice (some ⟨b, off, none⟩) m c) q) (hm : 0 < m) :
    ∃ k : Nat, ∀ ty : TypeId, (Builtin.copy_ #[55, 55] ty #[.slice (some ⟨g, 0, none⟩) n n, .slice (some ⟨b, off, none⟩) m c]).run Tryz.prog wr = .ok (goInt k) (wr.setRow g (enc .i16 (M.tk n q)).toArray) := by
  have hlq : q.length = m := by obtain ⟨_, _, he, _⟩ := hq; cases he; rfl
  obtain ⟨b', o', he, q0, q1, hcx⟩ := hq.cell (by omega)
  cases he
  refine ⟨(enc .i16 (q.take (min m n))).length, fun ty => ?_⟩
  have hcp := run_copy_row (P := Tryz.prog) wr 55 55 ty 182 g 0 n n ⟨b, off, none⟩ m c _ 182 (enc .i16 (q.take (min m n))) Tryz.underlying55 (by kernel_rfl) h
    (by rw [enc_length, List.length_take, hlq]; show min (min m n) m = min m n; omega) (fun j v hv => by
      rw [add_off]
      have hj : j < (q.take (min m n)).length := by have := (List.getElem?_eq_some_iff.1 hv).1; rw [enc_length] at this; exact this
      rw [enc_get hj] at hv
      rw [← Option.some.inj hv]
      have hj2 : j < min m n := by rw [List.length_take, hlq] at hj; omega
      rw [M.getD_take hj2]
      exact hcx j (by omega)) (by rw [enc_length, List.length_take, hlq]; simp [enc_length]; omega) (enc_one _ _)
  rw [hcp]
  have hs := sp_tk n (min m n) q (by rw [hlq])
  unfold splice at hs
  rw [List.append_assoc]
  rw [show (enc .i16 (List.replicate n 0)).toArray.toList = enc .i16 (List.replicate n 0) from rfl, hs]
theorem given_keep {w w' : World} {g0 n cap : Nat} {xs : List Nat} (h : Byt.Given w (.slice (some ⟨g0, 0, none⟩) n cap) xs) (hs : w.heap.size ≤ w'.heap.size) (hk : w'.heap[g0]? = w.heap[g0]?) : Byt.Given w' (.slice (some ⟨g0, 0, none⟩) n cap) xs := by
  obtain ⟨a, c, he, h1, h2, h3, h4⟩ := h
  cases he
  refine ⟨_, _, rfl, h1, h2, h3, ?_⟩
  rcases h4 with h4 | ⟨b, off, hb, hl, hx⟩
  · exact .inl h4
  · cases hb
    exact .inr ⟨g0, 0, rfl, by omega, fun i x hi => (cell_keep hk).trans (hx i x hi)⟩
theorem setRow_below {N : Nat} {a w : World} {g : Nat} (h : Below N a w) (hg : N ≤ g) (cs : Array Value) : Below N a (w.setRow g cs) := by
  refine ⟨h.os, h.tape, h.output, ?_, fun k hk => ?_⟩
  · have := h.size
    have e : (w.setRow g cs).heap.size = w.heap.size := by simp [World.setRow]
    omega
  · exact (setRow_other w g k cs (by omega)).trans (h.block k hk)

end Sub
end Go.Proofs.YtcaifpjbjghhaaaGreatDoor

/-
  The law SubBack: frames of any samples. Conditions: the polynomial's numbers and the offsets stand as their initialisers lay them; one goroutine.
-/
namespace Go.Proofs.YtcaifpjbjghhaaaGreatDoor
set_option linter.unusedVariables false
open Go.RowKit
namespace Sub
open Bank (Blk But)
open Byt (Given)
open Poly (Reads cell_keep alloc_size Spl Joi enc)
open _root_.Go.Proofs.YtcaifpjbjghhaaaGreatDoor.Form (fv fc bel1 box_cells blk_below of_drew)

set_option maxRecDepth 100000 in
set_option maxHeartbeats 1000000 in
/-- no format of Sub -/
theorem back_none (f : M.Fmt) (v : Value) (x : List Int) (w : World) (hT : Wave.Tab w ∧ Alloc.Tabs w) (hx : Reads .i16 0 w.heap.size w v x) (hn : ¬ M.okS f) :
    Calls Tryz.prog 7 #[fv f, v] w fun e w' => e = .returned (.bool true) ∧ Below w.heap.size w w' := by
  obtain ⟨va, vc, rfl⟩ := hx.form
  have bel := bel1 w (.cells (fc f) 23)
  have hal := alive_any (w.alloc (.cells (fc f) 23)) (Bank.tab_below bel (Nat.le_refl _) hT.1) (hT.2.below bel (Nat.le_refl _))
  have HB : Hid (Below w.heap.size w _) := bel
  have hnw := fun wx => Bank.new_any wx
  have HNw : Hid (∀ wx, Calls _ _ _ wx _) := hnw
  have hne := fun b wx => NewEncoder_no (.pointer (some ⟨b, 0, none⟩)) ⟨_, rfl⟩ f 110 (by decide) wx fun wy => ofSplitter_form _ ⟨_, rfl⟩ f wy hn
  have HNe : Hid (∀ b wx, Calls _ _ _ wx _) := hne
  have hcl : ∀ wx, Below (w.alloc (.cells (fc f) 23)).heap.size (w.alloc (.cells (fc f) 23)) wx → Blk wx w.heap.size (fc f) 23 := fun wx hb => blk_below hb (Blk.new w _ _) (by simp)
  have HCl : Hid _ := hcl
  generalize x.length = xl at *
  clear hnw hne hcl hT hx bel hn
  obtain ⟨c_, r_, h_, b_, k_, m_, j_, p_, l_, y_⟩ := f
  unfold fv at HNe
  unfold fv
  dsimp only at HNe ⊢
  obtain ⟨W1, hW1⟩ : ∃ W1, w.alloc (.cells (fc ⟨c_, r_, h_, b_, k_, m_, j_, p_, l_, y_⟩) 23) = W1 := ⟨_, rfl⟩
  rw [hW1] at hal HB HCl
  unfold fc at hW1
  dsimp only at hW1
  go_enter Tryz.func7, Tryz.ntmps7
  go_wp2_with (first
    | (go_at_call 11; refine hal.mono ?_; clear hal; rintro e w1 ⟨rfl, b1⟩; have B1 : Hid (Below _ _ w1) := b1; clear b1))
  have C0 : Hid ((fun wx => wx.cell? ⟨w.heap.size, 0, none⟩ = some (.int .i64 c_) ∧ wx.cell? ⟨w.heap.size, 1, none⟩ = some (.int .i64 r_) ∧ wx.cell? ⟨w.heap.size, 2, none⟩ = some (.int .i64 h_) ∧ wx.cell? ⟨w.heap.size, 3, none⟩ = some (.int .i64 b_) ∧ wx.cell? ⟨w.heap.size, 4, none⟩ = some (.int .i64 k_) ∧ wx.cell? ⟨w.heap.size, 5, none⟩ = some (.int .i64 m_) ∧ wx.cell? ⟨w.heap.size, 6, none⟩ = some (.int .i64 j_) ∧ wx.cell? ⟨w.heap.size, 7, none⟩ = some (.int .i64 p_) ∧ wx.cell? ⟨w.heap.size, 8, none⟩ = some (.int .i64 l_) ∧ wx.cell? ⟨w.heap.size, 9, none⟩ = some (.int .i64 y_)) w1.drew) := show _ ∧ _ from box_cells (f := ⟨c_, r_, h_, b_, k_, m_, j_, p_, l_, y_⟩) (HCl.out w1 B1.out)
  go_region_held3 (fun wx => wx.cell? ⟨w.heap.size, 0, none⟩ = some (.int .i64 c_) ∧ wx.cell? ⟨w.heap.size, 1, none⟩ = some (.int .i64 r_) ∧ wx.cell? ⟨w.heap.size, 2, none⟩ = some (.int .i64 h_) ∧ wx.cell? ⟨w.heap.size, 3, none⟩ = some (.int .i64 b_) ∧ wx.cell? ⟨w.heap.size, 4, none⟩ = some (.int .i64 k_) ∧ wx.cell? ⟨w.heap.size, 5, none⟩ = some (.int .i64 m_) ∧ wx.cell? ⟨w.heap.size, 6, none⟩ = some (.int .i64 j_) ∧ wx.cell? ⟨w.heap.size, 7, none⟩ = some (.int .i64 p_) ∧ wx.cell? ⟨w.heap.size, 8, none⟩ = some (.int .i64 l_) ∧ wx.cell? ⟨w.heap.size, 9, none⟩ = some (.int .i64 y_))
    (first | exact C0.out | exact C1.out | exact C2.out)
    (first
      | (go_at_call 28; refine (HNw.out _).mono ?_; clear HNw; rintro e w2 ⟨rfl, s2, hB2, b2⟩; have B2 : Hid (Below W1.heap.size W1 w2) := B1.out.trans ((of_drew b2).mono B1.out.size); have C1 : Hid ((fun wx => wx.cell? ⟨w.heap.size, 0, none⟩ = some (.int .i64 c_) ∧ wx.cell? ⟨w.heap.size, 1, none⟩ = some (.int .i64 r_) ∧ wx.cell? ⟨w.heap.size, 2, none⟩ = some (.int .i64 h_) ∧ wx.cell? ⟨w.heap.size, 3, none⟩ = some (.int .i64 b_) ∧ wx.cell? ⟨w.heap.size, 4, none⟩ = some (.int .i64 k_) ∧ wx.cell? ⟨w.heap.size, 5, none⟩ = some (.int .i64 m_) ∧ wx.cell? ⟨w.heap.size, 6, none⟩ = some (.int .i64 j_) ∧ wx.cell? ⟨w.heap.size, 7, none⟩ = some (.int .i64 p_) ∧ wx.cell? ⟨w.heap.size, 8, none⟩ = some (.int .i64 l_) ∧ wx.cell? ⟨w.heap.size, 9, none⟩ = some (.int .i64 y_)) w2) := show _ ∧ _ from box_cells (f := ⟨c_, r_, h_, b_, k_, m_, j_, p_, l_, y_⟩) (HCl.out w2 B2.out); clear hB2 b2 s2)
      | (go_at_call 27; refine (HNe.out _ _).mono ?_; clear HNe; rintro e w3 ⟨rfl, b3⟩; have B3 : Hid (Below W1.heap.size W1 w3) := B2.out.trans (b3.mono B2.out.size); have C2 : Hid ((fun wx => wx.cell? ⟨w.heap.size, 0, none⟩ = some (.int .i64 c_) ∧ wx.cell? ⟨w.heap.size, 1, none⟩ = some (.int .i64 r_) ∧ wx.cell? ⟨w.heap.size, 2, none⟩ = some (.int .i64 h_) ∧ wx.cell? ⟨w.heap.size, 3, none⟩ = some (.int .i64 b_) ∧ wx.cell? ⟨w.heap.size, 4, none⟩ = some (.int .i64 k_) ∧ wx.cell? ⟨w.heap.size, 5, none⟩ = some (.int .i64 m_) ∧ wx.cell? ⟨w.heap.size, 6, none⟩ = some (.int .i64 j_) ∧ wx.cell? ⟨w.heap.size, 7, none⟩ = some (.int .i64 p_) ∧ wx.cell? ⟨w.heap.size, 8, none⟩ = some (.int .i64 l_) ∧ wx.cell? ⟨w.heap.size, 9, none⟩ = some (.int .i64 y_)) w3) := show _ ∧ _ from box_cells (f := ⟨c_, r_, h_, b_, k_, m_, j_, p_, l_, y_⟩) (HCl.out w3 B3.out); clear b3))
  all_goals (
    clear C0 C1 C2 HCl
    go_wp2
    go_ret
    exact ⟨rfl, HB.out.trans (B3.out.mono HB.out.size)⟩)

set_option maxRecDepth 100000 in
set_option maxHeartbeats 8000000 in
theorem back_some (f : M.Fmt) (C B N r PN : Nat) (v : Value) (x : List Int) (w : World) (hT : Wave.Tab w ∧ Alloc.Tabs w) (hx : Reads .i16 0 w.heap.size w v x) (hF : Sb f C B N r) (hn : M.pay f = PN) :
    Calls Tryz.prog 7 #[fv f, v] w fun e w' => e = .returned (.bool true) ∧ Below w.heap.size w w' := by
  have n16 := hF.n16
  have c2 := hF.c2
  have b8 := hF.b8
  obtain ⟨W1, hW1⟩ : ∃ W1, w.alloc (.cells (fc f) 23) = W1 := ⟨_, rfl⟩
  have sz1 : W1.heap.size = w.heap.size + 1 := by rw [← hW1]; simp
  have bel : Below w.heap.size w W1 := by rw [← hW1]; exact bel1 _ _
  have hf1 : Blk W1 w.heap.size (fc f) 23 := by rw [← hW1]; exact Blk.new w _ _
  have hal := alive_any W1 (Bank.tab_below bel (Nat.le_refl _) hT.1) (hT.2.below bel (Nat.le_refl _))
  have HB : Hid (Below w.heap.size w W1) := bel
  have hnw := fun wx => Bank.new_any wx
  have HNw : Hid (∀ wx, Calls _ _ _ wx _) := hnw
  have hne := fun b X wx (hb : Below w.heap.size w wx) hB => NewEncoder_ok b f C B N r X wx (Bank.tab_below hb (Nat.le_refl _) hT.1) hB hF
  have HNe : Hid _ := hne
  have hcl : ∀ wx, Below W1.heap.size W1 wx → Blk wx w.heap.size (fc f) 23 := fun wx hb => blk_below hb hf1 (by omega)
  have HCl : Hid _ := hcl
  have HTb : Hid (∀ wx, Below w.heap.size w wx → Alloc.Tabs wx) := fun wx hb => hT.2.below hb (Nat.le_refl _)
  have HRd : Hid (∀ wx, Below w.heap.size w wx → Reads .i16 0 w.heap.size wx v x) := fun wx hb => hx.below hb (Nat.le_refl _)
  have hpy : ∀ wx, Calls Tryz.prog 36 #[fv f] wx fun e w' => e = .returned (.int .i64 (PN : Int)) ∧ Below wx.heap.size wx w' := fun wx => by
    have ok := hF.ok
    have := Form.rPayload_S f wx ok.1 ok.2.2.2.1 ok.2.2.1 ok.2.2.2.2.1 ⟨by have := ok.2.2.2.2.2.2.2.1; omega, by have := ok.2.2.2.2.2.2.2.2.2.1; omega⟩
    have e : (M.bitS f + 7) / 8 = (PN : Int) := by rw [← hn]; unfold M.pay; rw [if_pos ok.1]
    rw [e] at this
    exact this
  have HPy : Hid (∀ wx, Calls _ _ _ wx _) := hpy
  obtain ⟨NN, hNN⟩ : ∃ NN, C * (N * B) = NN := ⟨_, rfl⟩
  obtain ⟨CB, hCB⟩ : ∃ CB, C * B = CB := ⟨_, rfl⟩
  have hNN2 : CB * N = NN := by rw [← hCB, ← hNN, Nat.mul_assoc, Nat.mul_comm B N]
  have hCB1 : CB ≤ 16 := by rw [← hCB]; have := Nat.mul_le_mul (show C ≤ 2 by omega) (show B ≤ 8 by omega); omega
  have hNNb : NN ≤ 256 := by rw [← hNN2]; have := Nat.mul_le_mul hCB1 (show N ≤ 16 by omega); omega
  have hNN1 : 1 ≤ NN := by rw [← hNN]; exact Nat.mul_pos (by omega) (Nat.mul_pos (by omega) (by omega))
  have hw1 : IntKind.i64.wrap ((C : Int) * (B : Int)) = (CB : Int) := by rw [← hCB]; push_cast; exact wrap_id _ (by rw [show (C : Int) * (B : Int) = ((CB : Nat) : Int) by rw [← hCB]; push_cast; rfl]; omega) (by rw [show (C : Int) * (B : Int) = ((CB : Nat) : Int) by rw [← hCB]; push_cast; rfl]; omega)
  have hw2 : IntKind.i64.wrap ((CB : Int) * (N : Int)) = (NN : Int) := by rw [← hNN2]; push_cast; exact wrap_id _ (by rw [show (CB : Int) * (N : Int) = ((NN : Nat) : Int) by rw [← hNN2]; push_cast; rfl]; omega) (by rw [show (CB : Int) * (N : Int) = ((NN : Nat) : Int) by rw [← hNN2]; push_cast; rfl]; omega)
  obtain ⟨Z, hZ⟩ : ∃ Z : Nat → List Int, (fun _ => List.replicate (10 * B) 0) = Z := ⟨_, rfl⟩
  obtain ⟨sl0, hS0⟩ := sh_of hF (Z := M.anS f N B (M.enX B N C (M.tk NN x) Z)) (fun c _ b _ => M.anS_bd _ _ _ _ _ _)
  obtain ⟨FR0, hFR0⟩ : ∃ FR0, frameOf f C B N r PN sl0 Z (M.tk NN x) = FR0 := ⟨_, rfl⟩
  have HS0 : Hid (∀ sl, Sh f C B r (M.anS f N B (M.enX B N C (M.tk NN x) Z)) sl → frameOf f C B N r PN sl Z (M.tk NN x) = FR0) := fun sl hS => by rw [hS.one hS0]; exact hFR0
  have hbs := fun (p l : Nat) (lo g : Nat → Nat) (L : Nat → List Int) (lo' hi' : Nat) (y : List Int) (u : Value) (W : World) hT he hy hh hl => back_steps p l C B N r PN f lo g L lo' hi' y u W hT hF he hy hh hl hn
  have HBs : Hid _ := hbs
  have HRs : Hid (∀ (p l : Nat) (lo g : Nat → Nat) (L : Nat → List Int) (W : World), Enc p l C B f lo g L W → Calls Tryz.prog 37 #[.pointer (some ⟨p, 0, none⟩)] W fun e w' => e = .returned (.tuple #[]) ∧ Enc p l C B f lo g Z w' ∧ Lns g C W w') := fun p l lo g L W he => by rw [← hZ]; exact EncReset_ok p l C B f lo g L W he (by omega) (by omega)
  have HNN : Hid (C * (N * B) = NN) := hNN
  obtain ⟨va, vc, rfl⟩ := hx.form
  obtain ⟨xl, hxl⟩ : ∃ xl, x.length = xl := ⟨_, rfl⟩
  have HXl : Hid (x.length = xl) := hxl
  rw [hxl] at HRd ⊢
  have hN := hF.hN
  have hC := hF.hC
  have hBB := hF.hB
  have i1 : (C : Int) ≤ 2 := by omega
  have i2 : (B : Int) ≤ 8 := by omega
  have i3 : (N : Int) ≤ 16 := by omega
  have i5 : (0 : Int) ≤ NN := by omega
  rw [hZ] at HNe
  have hmk := fun wx => Poly.make16 wx NN (by omega)
  clear hnw hne hcl hpy hT hx bel hf1 hF hn hNN hCB hNN2 hS0 hFR0 hbs hxl hZ n16 c2 b8
  obtain ⟨c_, r_, h_, b_, k_, m_, j_, p_, l_, y_⟩ := f
  obtain rfl : h_ = C := hC
  obtain rfl : b_ = B := hBB
  obtain rfl : k_ = N := hN
  unfold fv at HNe HPy HBs
  unfold fv
  unfold pa at HBs
  unfold fc at hW1
  dsimp only at HNe HPy HBs hW1 ⊢
  go_enter Tryz.func7, Tryz.ntmps7
  go_wp2_with (first
    | (go_at_call 11; refine hal.mono ?_; clear hal; rintro e w1 ⟨rfl, b1⟩; have B1 : Hid (Below _ _ w1) := b1; clear b1))
  have C0 : Hid ((fun wx => wx.cell? ⟨w.heap.size, 0, none⟩ = some (.int .i64 c_) ∧ wx.cell? ⟨w.heap.size, 1, none⟩ = some (.int .i64 r_) ∧ wx.cell? ⟨w.heap.size, 2, none⟩ = some (.int .i64 (C : Int)) ∧ wx.cell? ⟨w.heap.size, 3, none⟩ = some (.int .i64 (B : Int)) ∧ wx.cell? ⟨w.heap.size, 4, none⟩ = some (.int .i64 (N : Int)) ∧ wx.cell? ⟨w.heap.size, 5, none⟩ = some (.int .i64 m_) ∧ wx.cell? ⟨w.heap.size, 6, none⟩ = some (.int .i64 j_) ∧ wx.cell? ⟨w.heap.size, 7, none⟩ = some (.int .i64 p_) ∧ wx.cell? ⟨w.heap.size, 8, none⟩ = some (.int .i64 l_) ∧ wx.cell? ⟨w.heap.size, 9, none⟩ = some (.int .i64 y_)) w1.drew) := show _ ∧ _ from box_cells (f := ⟨c_, r_, C, B, N, m_, j_, p_, l_, y_⟩) (HCl.out w1 B1.out)
  go_region_held3 (fun wx => wx.cell? ⟨w.heap.size, 0, none⟩ = some (.int .i64 c_) ∧ wx.cell? ⟨w.heap.size, 1, none⟩ = some (.int .i64 r_) ∧ wx.cell? ⟨w.heap.size, 2, none⟩ = some (.int .i64 (C : Int)) ∧ wx.cell? ⟨w.heap.size, 3, none⟩ = some (.int .i64 (B : Int)) ∧ wx.cell? ⟨w.heap.size, 4, none⟩ = some (.int .i64 (N : Int)) ∧ wx.cell? ⟨w.heap.size, 5, none⟩ = some (.int .i64 m_) ∧ wx.cell? ⟨w.heap.size, 6, none⟩ = some (.int .i64 j_) ∧ wx.cell? ⟨w.heap.size, 7, none⟩ = some (.int .i64 p_) ∧ wx.cell? ⟨w.heap.size, 8, none⟩ = some (.int .i64 l_) ∧ wx.cell? ⟨w.heap.size, 9, none⟩ = some (.int .i64 y_))
    (first | exact C0.out | exact C1.out | exact C2.out)
    (first
      | (go_at_call 28; refine (HNw.out _).mono ?_; clear HNw; rintro e w2 ⟨rfl, s2, hB2, b2⟩; have B2 : Hid (Below W1.heap.size W1 w2) := B1.out.trans ((of_drew b2).mono B1.out.size); have C1 : Hid ((fun wx => wx.cell? ⟨w.heap.size, 0, none⟩ = some (.int .i64 c_) ∧ wx.cell? ⟨w.heap.size, 1, none⟩ = some (.int .i64 r_) ∧ wx.cell? ⟨w.heap.size, 2, none⟩ = some (.int .i64 (C : Int)) ∧ wx.cell? ⟨w.heap.size, 3, none⟩ = some (.int .i64 (B : Int)) ∧ wx.cell? ⟨w.heap.size, 4, none⟩ = some (.int .i64 (N : Int)) ∧ wx.cell? ⟨w.heap.size, 5, none⟩ = some (.int .i64 m_) ∧ wx.cell? ⟨w.heap.size, 6, none⟩ = some (.int .i64 j_) ∧ wx.cell? ⟨w.heap.size, 7, none⟩ = some (.int .i64 p_) ∧ wx.cell? ⟨w.heap.size, 8, none⟩ = some (.int .i64 l_) ∧ wx.cell? ⟨w.heap.size, 9, none⟩ = some (.int .i64 y_)) w2) := show _ ∧ _ from box_cells (f := ⟨c_, r_, C, B, N, m_, j_, p_, l_, y_⟩) (HCl.out w2 B2.out); have hne := HNe.out _ _ w2 (HB.out.trans (B2.out.mono HB.out.size)) hB2; have HNe2 : Hid (Calls _ _ _ _ _) := hne; have Z2 : Hid (w1.drew.heap.size < w2.heap.size) := (show w1.drew.heap.size < w2.heap.size by omega); clear hB2 b2 s2 hne)
      | (go_at_call 27; refine HNe2.out.mono ?_; clear HNe2; rintro e w3 ⟨p, l, lo, g, rfl, hl3, en3, bt3⟩; have B3 : Hid (Below W1.heap.size W1 w3) := Poly.below_but B2.out bt3 (Nat.le_refl _) (by show W1.heap.size ≤ w1.heap.size; exact B1.out.size); have C2 : Hid ((fun wx => wx.cell? ⟨w.heap.size, 0, none⟩ = some (.int .i64 c_) ∧ wx.cell? ⟨w.heap.size, 1, none⟩ = some (.int .i64 r_) ∧ wx.cell? ⟨w.heap.size, 2, none⟩ = some (.int .i64 (C : Int)) ∧ wx.cell? ⟨w.heap.size, 3, none⟩ = some (.int .i64 (B : Int)) ∧ wx.cell? ⟨w.heap.size, 4, none⟩ = some (.int .i64 (N : Int)) ∧ wx.cell? ⟨w.heap.size, 5, none⟩ = some (.int .i64 m_) ∧ wx.cell? ⟨w.heap.size, 6, none⟩ = some (.int .i64 j_) ∧ wx.cell? ⟨w.heap.size, 7, none⟩ = some (.int .i64 p_) ∧ wx.cell? ⟨w.heap.size, 8, none⟩ = some (.int .i64 l_) ∧ wx.cell? ⟨w.heap.size, 9, none⟩ = some (.int .i64 y_)) w3) := show _ ∧ _ from box_cells (f := ⟨c_, r_, C, B, N, m_, j_, p_, l_, y_⟩) (HCl.out w3 B3.out); have E3 : Hid (Enc p l C B ⟨c_, r_, C, B, N, m_, j_, p_, l_, y_⟩ lo g Z w3) := en3; have Z3 : Hid (w2.heap.size ≤ l) := hl3; clear hl3 en3 bt3))
  all_goals (
    obtain ⟨x0, x1, x2, x3, x4, x5, x6, x7, x8, x9⟩ := C2.out
    have F3 : Hid (Blk w3 w.heap.size (fc ⟨c_, r_, C, B, N, m_, j_, p_, l_, y_⟩) 23) := HCl.out w3 B3.out
    have hwl : w.heap.size < l := by have := Z3.out; have := B2.out.size; omega
    clear C0 C1 C2 HCl Z3 Z2
    by_cases hlen : 1000 < xl
    · have hl1 : (1000 : Int) < (xl : Int) := by omega
      go_wp2
      go_ret
      exact ⟨rfl, HB.out.trans (B3.out.mono HB.out.size)⟩
    · have hl1 : ¬ ((1000 : Int) < (xl : Int)) := by omega
      have hl2 : (xl : Int) ≤ 1000 := by omega
      go_wp2
      go_loopw [8, 9] (fun v i wr => ∃ k a : Nat, i = .int .i64 a ∧ a = k * NN ∧ (∃ L, Enc p l C B ⟨c_, r_, C, B, N, m_, j_, p_, l_, y_⟩ lo g L wr ∧ (a = 0 → L = Z)) ∧ Below w.heap.size w wr ∧ Blk wr w.heap.size (fc ⟨c_, r_, C, B, N, m_, j_, p_, l_, y_⟩) 23 ∧ ((a = 0 ∧ v = .slice none 0 0) ∨ (0 < a ∧ ∃ g0 cap, v = .slice (some ⟨g0, 0, none⟩) PN cap ∧ p < g0 ∧ Given wr (.slice (some ⟨g0, 0, none⟩) PN cap) FR0))) (fun _ i _ => xl - (intOf i).toNat)
      case atStart => exact ⟨0, 0, rfl, by simp, ⟨Z, E3.out, fun _ => rfl⟩, HB.out.trans (B3.out.mono HB.out.size), F3.out, .inl ⟨rfl, rfl⟩⟩
      case round =>
        clear x0 x1 x2 x3 x4 x5 x6 x7 x8 x9 E3 F3
        obtain ⟨k, a, rfl, hk, ⟨L, he, hLz⟩, hbw, hfb, hv⟩ := hrel
        by_cases hlt : a < xl
        · have hlt' : (a : Int) < (xl : Int) := by omega
          have hplt := he.lt
          have rd := HRd.out wr hbw
          obtain ⟨xb, xo, rfl, q0, q1, hcx⟩ := rd.cell (by rw [HXl.out]; omega)
          have hxc : xl ≤ vc := by obtain ⟨a', c', h1, h2, _⟩ := rd; cases h1; exact h2
          have hcut := fun wx => cut_rest xb xo xl vc a hlt hxc wx
          have bz : Below wr.heap.size wr (wr.alloc (.cells (enc .i16 (List.replicate NN 0)).toArray 182)) := bel1 _ _
          have rd1 := Reads.rest (rd.below bz (by have := hbw.size; omega)) hlt
          obtain ⟨ck, hcp⟩ := copy_tk (Blk.new wr (enc .i16 (List.replicate NN 0)).toArray 182) rd1 (by omega)
          have bz2 := setRow_below bz (Nat.le_refl _) (enc .i16 (M.tk NN (x.drop a))).toArray
          have hrd : Reads .i16 wr.heap.size (wr.heap.size + 1) ((wr.alloc (.cells (enc .i16 (List.replicate NN 0)).toArray 182)).setRow wr.heap.size (enc .i16 (M.tk NN (x.drop a))).toArray) (.slice (some ⟨wr.heap.size, 0, none⟩) NN NN) (M.tk NN (x.drop a)) := by
            have hff : M.fits16 (M.tk NN (x.drop a)) := M.tk_fits (Poly.fit16.1 (by obtain ⟨_, _, _, _, hw, _⟩ := rd1; exact hw))
            have := Poly.reads_blk (Poly.Blk.setRow (Blk.new wr (enc .i16 (List.replicate NN 0)).toArray 182) (enc .i16 (M.tk NN (x.drop a))).toArray) (Poly.fit16.2 hff)
            rw [M.tk_length] at this
            exact this
          have hsz : ((wr.alloc (.cells (enc .i16 (List.replicate NN 0)).toArray 182)).setRow wr.heap.size (enc .i16 (M.tk NN (x.drop a))).toArray).heap.size = wr.heap.size + 1 := by simp [World.setRow]
          have HSz : Hid (((wr.alloc (.cells (enc .i16 (List.replicate NN 0)).toArray 182)).setRow wr.heap.size (enc .i16 (M.tk NN (x.drop a))).toArray).heap.size = wr.heap.size + 1) := hsz
          have hgl : ∀ c, c < C → w.heap.size < g c := fun c hc => by have := he.gl hc; omega
          obtain ⟨sl, hS, hst⟩ := HBs.out p l lo g L wr.heap.size (wr.heap.size + 1) (M.tk NN (x.drop a)) _ _ (fun wx hl => HTb.out wx ((hbw.trans (bz2.mono hbw.size)).trans (hl.to_below (fun c hc => by have := hgl c hc; omega) (by have := bz2.size; have := hbw.size; omega)))) (he.below bz2 hplt) hrd (Nat.le_of_eq hsz.symm) (by rw [M.tk_length, HNN.out])
          have HSt : Hid (Calls _ _ _ _ _) := hst
          have HBw : Hid (∀ W2, Lns g C ((wr.alloc (.cells (enc .i16 (List.replicate NN 0)).toArray 182)).setRow wr.heap.size (enc .i16 (M.tk NN (x.drop a))).toArray) W2 → Below w.heap.size w W2) := fun W2 hl => (hbw.trans (bz2.mono hbw.size)).trans (hl.to_below (fun c hc => by have := hgl c hc; omega) (by have := bz2.size; have := hbw.size; omega))
          have HFw : Hid (∀ W2, Lns g C ((wr.alloc (.cells (enc .i16 (List.replicate NN 0)).toArray 182)).setRow wr.heap.size (enc .i16 (M.tk NN (x.drop a))).toArray) W2 → Blk W2 w.heap.size (fc ⟨c_, r_, C, B, N, m_, j_, p_, l_, y_⟩) 23) := fun W2 hl => hl.blk (blk_below bz2 hfb hfb.lt) fun c hc => by have := hgl c hc; omega
          have HFr : Hid (a = 0 → frameOf ⟨c_, r_, C, B, N, m_, j_, p_, l_, y_⟩ C B N r PN sl L (M.tk NN (x.drop a)) = FR0) := fun h => by
            rw [hLz h, h, List.drop_zero]
            exact HS0.out sl (by rw [hLz h, h, List.drop_zero] at hS; exact hS)
          have HKg : Hid (∀ g0 cap, p < g0 → Given wr (.slice (some ⟨g0, 0, none⟩) PN cap) FR0 → ∀ W2, Lns g C ((wr.alloc (.cells (enc .i16 (List.replicate NN 0)).toArray 182)).setRow wr.heap.size (enc .i16 (M.tk NN (x.drop a))).toArray) W2 → ∀ W7, Below W2.heap.size W2 W7 → Given W7 (.slice (some ⟨g0, 0, none⟩) PN cap) FR0) := fun g0 cap hp hgv W2 hl W7 hb => by
            have hlg := hgv.below bz2 (Nat.le_refl _)
            rcases Nat.lt_or_ge g0 (((wr.alloc (.cells (enc .i16 (List.replicate NN 0)).toArray 182)).setRow wr.heap.size (enc .i16 (M.tk NN (x.drop a))).toArray)).heap.size with h1 | h1
            · exact (given_keep hlg hl.size (hl.block g0 h1 fun c hc => by have := he.gl hc; omega)).below hb (Nat.le_refl _)
            · obtain ⟨_, _, h2, _, _, _, h4⟩ := hlg
              cases h2
              rcases h4 with h4 | ⟨_, _, h5, h6, _⟩
              · exact ⟨_, _, rfl, (by rw [h4]; exact Nat.zero_le _), (by rw [h4]; intro x hx; cases hx), (by intro h; cases h), .inl h4⟩
              · cases h5; omega
          have HPl0 : Hid (p < wr.heap.size) := hplt
          have xs := box_cells hfb; dsimp only at xs; obtain ⟨x0, x1, x2, x3, x4, x5, x6, x7, x8, x9⟩ := xs
          generalize (enc .i16 (List.replicate NN 0)).toArray = cs at *
          generalize (enc .i16 (M.tk NN (x.drop a))).toArray = cs2 at *
          obtain ⟨FR, hFR⟩ : ∃ FR, frameOf ⟨c_, r_, C, B, N, m_, j_, p_, l_, y_⟩ C B N r PN sl L (M.tk NN (x.drop a)) = FR := ⟨_, rfl⟩
          rw [hFR] at HSt HFr
          clear hst he hLz hbw hfb rd hcx bz rd1 bz2 hrd hS hFR hsz
          rcases hv with ⟨ha0, rfl⟩ | ⟨ha0, gf, cf, rfl, hgf, hgv⟩
          · have hz : ((a : Int) == 0) = true := by simp; omega
            have HA0 : Hid (a = 0) := ha0
            have HK : Hid (a = k * NN) := hk
            clear ha0 hk
            go_wp2_with (first
              | (go_at_call 30; refine HSt.out.mono ?_; clear HSt; rintro e W2 ⟨g0, cap, rfl, hg0, gv, e2, l2, hpar⟩; have HPar : Hid (Calls _ _ _ _ _) := hpar; have GV : Hid (Given _ _ _) := gv; have E2 : Hid (Enc _ _ _ _ _ _ _ _ _) := e2; have L2 : Hid (Lns g C _ W2) := l2; have F2 : Hid (Blk W2 w.heap.size (fc ⟨c_, r_, C, B, N, m_, j_, p_, l_, y_⟩) 23) := HFw.out W2 l2; have G0 : Hid (_ ≤ g0) := hg0; have xs := box_cells F2.out; dsimp only at xs; obtain ⟨x0, x1, x2, x3, x4, x5, x6, x7, x8, x9⟩ := xs; clear hg0 gv e2 l2 hpar)
              | (go_at_call 24; refine HPar.out.mono ?_; clear HPar x0 x1 x2 x3 x4 x5 x6 x7 x8 x9; rintro e W3 ⟨aj, az, ac, rfl, b3, hpk⟩; have B3 : Hid (Below W2.heap.size W2 W3) := b3; have b4 := bel1 W3 (.cells #[.slice (some ⟨aj, 0, none⟩) B B, .slice (some ⟨az, 0, none⟩) C C, .slice (some ⟨ac, 0, none⟩) N N] 33); have HPk : Hid (Calls _ _ _ _ _) := hpk _ b4; have B4 : Hid (Below W3.heap.size W3 (W3.alloc (.cells #[.slice (some ⟨aj, 0, none⟩) B B, .slice (some ⟨az, 0, none⟩) C C, .slice (some ⟨ac, 0, none⟩) N N] 33))) := b4; have F4 : Hid (Blk (W3.alloc (.cells #[.slice (some ⟨aj, 0, none⟩) B B, .slice (some ⟨az, 0, none⟩) C C, .slice (some ⟨ac, 0, none⟩) N N] 33)) w.heap.size (fc ⟨c_, r_, C, B, N, m_, j_, p_, l_, y_⟩) 23) := (blk_below b3 F2.out F2.out.lt).alloc _; have xs := box_cells F4.out; dsimp only at xs; obtain ⟨x0, x1, x2, x3, x4, x5, x6, x7, x8, x9⟩ := xs; clear b3 b4 hpk)
              | (go_at_call 23; refine HPk.out.mono ?_; clear HPk x0 x1 x2 x3 x4 x5 x6 x7 x8 x9; rintro e W5 ⟨g1, c1, rfl, b5, gv5, hpl⟩; have B5 : Hid (Below _ _ W5) := b5; have GV5 : Hid (Given _ _ _) := gv5; have HPl : Hid (Calls _ _ _ _ _) := hpl; have F5 : Hid (Blk W5 w.heap.size (fc ⟨c_, r_, C, B, N, m_, j_, p_, l_, y_⟩) 23) := blk_below b5 F4.out F4.out.lt; have xs := box_cells F5.out; dsimp only at xs; obtain ⟨x0, x1, x2, x3, x4, x5, x6, x7, x8, x9⟩ := xs; have P5 := blk_below b5 (Blk.new W3 #[.slice (some ⟨aj, 0, none⟩) B B, .slice (some ⟨az, 0, none⟩) C C, .slice (some ⟨ac, 0, none⟩) N N] 33) (Blk.new W3 #[.slice (some ⟨aj, 0, none⟩) B B, .slice (some ⟨az, 0, none⟩) C C, .slice (some ⟨ac, 0, none⟩) N N] 33).lt; have y0 : W5.cell? ⟨W3.heap.size, 0, none⟩ = some (.slice (some ⟨aj, 0, none⟩) B B) := P5.cell rfl; have y1 : W5.cell? ⟨W3.heap.size, 1, none⟩ = some (.slice (some ⟨az, 0, none⟩) C C) := P5.cell rfl; have y2 : W5.cell? ⟨W3.heap.size, 2, none⟩ = some (.slice (some ⟨ac, 0, none⟩) N N) := P5.cell rfl; clear b5 gv5 hpl P5)
              | (go_at_call 15; refine HPl.out.mono ?_; clear HPl x0 x1 x2 x3 x4 x5 x6 x7 x8 x9 y0 y1 y2; rintro e W6 ⟨pb, po, pc_, rfl, b6⟩; have B6 : Hid (Below W5.heap.size W5 W6) := b6; have F6 : Hid (Blk W6 w.heap.size (fc ⟨c_, r_, C, B, N, m_, j_, p_, l_, y_⟩) 23) := blk_below b6 F5.out F5.out.lt; have xs := box_cells F6.out; dsimp only at xs; obtain ⟨x0, x1, x2, x3, x4, x5, x6, x7, x8, x9⟩ := xs; clear b6)
              | (go_at_call 36; refine (HPy.out _).mono ?_; clear x0 x1 x2 x3 x4 x5 x6 x7 x8 x9; rintro e W7 ⟨rfl, b7⟩; have B7 : Hid (Below W6.heap.size W6 W7) := b7; have F7 : Hid (Blk W7 w.heap.size (fc ⟨c_, r_, C, B, N, m_, j_, p_, l_, y_⟩) 23) := blk_below b7 F6.out F6.out.lt; have xs := box_cells F7.out; dsimp only at xs; obtain ⟨x0, x1, x2, x3, x4, x5, x6, x7, x8, x9⟩ := xs; have b57 : Below W5.heap.size W5 W7 := B6.out.trans (b7.mono B6.out.size); have b24 : Below W2.heap.size W2 (W3.alloc (.cells #[.slice (some ⟨aj, 0, none⟩) B B, .slice (some ⟨az, 0, none⟩) C C, .slice (some ⟨ac, 0, none⟩) N N] 33)) := B3.out.trans (B4.out.mono B3.out.size); have b25 : Below W2.heap.size W2 W5 := b24.trans (B5.out.mono b24.size); have b27 : Below W2.heap.size W2 W7 := b25.trans (b57.mono b25.size); have z1 := Byt.run_str (GV5.out.below b57 (Nat.le_refl _)); have gv7 := GV.out.below b27 (Nat.le_refl _); have z2 := Byt.run_str gv7; have GV7 : Hid (Given W7 _ _) := gv7; have B27 : Hid (Below W2.heap.size W2 W7) := b27; clear b7 b57 b24 b25 b27 gv7))
            have hp2 := E2.out.lt
            have b07 : Below w.heap.size w W7 := HBw.out W2 L2.out |>.trans (B27.out.mono (HBw.out W2 L2.out).size)
            go_roundw
            case rel => exact ⟨k + 1, a + NN, by go_num, by rw [Nat.succ_mul, ← HK.out], ⟨_, E2.out.below B27.out hp2, fun h => by omega⟩, b07, F7.out, .inr ⟨by omega, g0, cap, rfl, by have := HPl0.out; have := G0.out; have := HSz.out; omega, by have := GV7.out; rw [HFr.out HA0.out] at this; exact this⟩⟩
            case measure => simp [intOf]; omega
          · have hz : ((a : Int) == 0) = false := by simp; omega
            have HGv : Hid (Given wr _ _) := hgv
            have HK : Hid (a = k * NN) := hk
            clear hgv hk
            go_wp2_with (first
              | (go_at_call 30; refine HSt.out.mono ?_; clear HSt; rintro e W2 ⟨g0, cap, rfl, hg0, gv, e2, l2, hpar⟩; have HPar : Hid (Calls _ _ _ _ _) := hpar; have GV : Hid (Given _ _ _) := gv; have E2 : Hid (Enc _ _ _ _ _ _ _ _ _) := e2; have L2 : Hid (Lns g C _ W2) := l2; have F2 : Hid (Blk W2 w.heap.size (fc ⟨c_, r_, C, B, N, m_, j_, p_, l_, y_⟩) 23) := HFw.out W2 l2; have G0 : Hid (_ ≤ g0) := hg0; have xs := box_cells F2.out; dsimp only at xs; obtain ⟨x0, x1, x2, x3, x4, x5, x6, x7, x8, x9⟩ := xs; clear hg0 gv e2 l2 hpar)
              | (go_at_call 24; refine HPar.out.mono ?_; clear HPar x0 x1 x2 x3 x4 x5 x6 x7 x8 x9; rintro e W3 ⟨aj, az, ac, rfl, b3, hpk⟩; have B3 : Hid (Below W2.heap.size W2 W3) := b3; have b4 := bel1 W3 (.cells #[.slice (some ⟨aj, 0, none⟩) B B, .slice (some ⟨az, 0, none⟩) C C, .slice (some ⟨ac, 0, none⟩) N N] 33); have HPk : Hid (Calls _ _ _ _ _) := hpk _ b4; have B4 : Hid (Below W3.heap.size W3 (W3.alloc (.cells #[.slice (some ⟨aj, 0, none⟩) B B, .slice (some ⟨az, 0, none⟩) C C, .slice (some ⟨ac, 0, none⟩) N N] 33))) := b4; have F4 : Hid (Blk (W3.alloc (.cells #[.slice (some ⟨aj, 0, none⟩) B B, .slice (some ⟨az, 0, none⟩) C C, .slice (some ⟨ac, 0, none⟩) N N] 33)) w.heap.size (fc ⟨c_, r_, C, B, N, m_, j_, p_, l_, y_⟩) 23) := (blk_below b3 F2.out F2.out.lt).alloc _; have xs := box_cells F4.out; dsimp only at xs; obtain ⟨x0, x1, x2, x3, x4, x5, x6, x7, x8, x9⟩ := xs; clear b3 b4 hpk)
              | (go_at_call 23; refine HPk.out.mono ?_; clear HPk x0 x1 x2 x3 x4 x5 x6 x7 x8 x9; rintro e W5 ⟨g1, c1, rfl, b5, gv5, hpl⟩; have B5 : Hid (Below _ _ W5) := b5; have GV5 : Hid (Given _ _ _) := gv5; have HPl : Hid (Calls _ _ _ _ _) := hpl; have F5 : Hid (Blk W5 w.heap.size (fc ⟨c_, r_, C, B, N, m_, j_, p_, l_, y_⟩) 23) := blk_below b5 F4.out F4.out.lt; have xs := box_cells F5.out; dsimp only at xs; obtain ⟨x0, x1, x2, x3, x4, x5, x6, x7, x8, x9⟩ := xs; have P5 := blk_below b5 (Blk.new W3 #[.slice (some ⟨aj, 0, none⟩) B B, .slice (some ⟨az, 0, none⟩) C C, .slice (some ⟨ac, 0, none⟩) N N] 33) (Blk.new W3 #[.slice (some ⟨aj, 0, none⟩) B B, .slice (some ⟨az, 0, none⟩) C C, .slice (some ⟨ac, 0, none⟩) N N] 33).lt; have y0 : W5.cell? ⟨W3.heap.size, 0, none⟩ = some (.slice (some ⟨aj, 0, none⟩) B B) := P5.cell rfl; have y1 : W5.cell? ⟨W3.heap.size, 1, none⟩ = some (.slice (some ⟨az, 0, none⟩) C C) := P5.cell rfl; have y2 : W5.cell? ⟨W3.heap.size, 2, none⟩ = some (.slice (some ⟨ac, 0, none⟩) N N) := P5.cell rfl; clear b5 gv5 hpl P5)
              | (go_at_call 15; refine HPl.out.mono ?_; clear HPl x0 x1 x2 x3 x4 x5 x6 x7 x8 x9 y0 y1 y2; rintro e W6 ⟨pb, po, pc_, rfl, b6⟩; have B6 : Hid (Below W5.heap.size W5 W6) := b6; have F6 : Hid (Blk W6 w.heap.size (fc ⟨c_, r_, C, B, N, m_, j_, p_, l_, y_⟩) 23) := blk_below b6 F5.out F5.out.lt; have xs := box_cells F6.out; dsimp only at xs; obtain ⟨x0, x1, x2, x3, x4, x5, x6, x7, x8, x9⟩ := xs; clear b6)
              | (go_at_call 36; refine (HPy.out _).mono ?_; clear x0 x1 x2 x3 x4 x5 x6 x7 x8 x9; rintro e W7 ⟨rfl, b7⟩; have B7 : Hid (Below W6.heap.size W6 W7) := b7; have F7 : Hid (Blk W7 w.heap.size (fc ⟨c_, r_, C, B, N, m_, j_, p_, l_, y_⟩) 23) := blk_below b7 F6.out F6.out.lt; have xs := box_cells F7.out; dsimp only at xs; obtain ⟨x0, x1, x2, x3, x4, x5, x6, x7, x8, x9⟩ := xs; have b57 : Below W5.heap.size W5 W7 := B6.out.trans (b7.mono B6.out.size); have b24 : Below W2.heap.size W2 (W3.alloc (.cells #[.slice (some ⟨aj, 0, none⟩) B B, .slice (some ⟨az, 0, none⟩) C C, .slice (some ⟨ac, 0, none⟩) N N] 33)) := B3.out.trans (B4.out.mono B3.out.size); have b25 : Below W2.heap.size W2 W5 := b24.trans (B5.out.mono b24.size); have b27 : Below W2.heap.size W2 W7 := b25.trans (b57.mono b25.size); have z1 := Byt.run_str (GV5.out.below b57 (Nat.le_refl _)); have gv7 := GV.out.below b27 (Nat.le_refl _); have z2 := Byt.run_str gv7; have GV7 : Hid (Given W7 _ _) := gv7; have B27 : Hid (Below W2.heap.size W2 W7) := b27; clear b7 b57 b24 b25 b27 gv7))
            have hp2 := E2.out.lt
            have b07 : Below w.heap.size w W7 := HBw.out W2 L2.out |>.trans (B27.out.mono (HBw.out W2 L2.out).size)
            go_roundw
            case rel => exact ⟨k + 1, a + NN, by go_num, by rw [Nat.succ_mul, ← HK.out], ⟨_, E2.out.below B27.out hp2, fun h => by omega⟩, b07, F7.out, .inr ⟨by omega, gf, cf, rfl, hgf, HKg.out gf cf hgf HGv.out W2 L2.out W7 B27.out⟩⟩
            case measure => simp [intOf]; omega
        · have hbw' := hbw
          have hcond : (xl = 0) ∨ (0 < xl) := by omega
          rcases hcond with hx0 | hx0
          · have hl0 : ((xl : Int) == 0) = true := by simp; omega
            have hlt2 : ¬ ((a : Int) < (xl : Int)) := by omega
            have HBw : Hid (Below w.heap.size w wr) := hbw
            clear hx0 hk he hLz hbw hbw' hv hfb
            go_wp2
            go_ret
            exact ⟨rfl, HBw.out⟩
          · have hl0 : ((xl : Int) == 0) = false := by simp; omega
            have hlt2 : ¬ ((a : Int) < (xl : Int)) := by omega
            rcases hv with ⟨ha0, _⟩ | ⟨ha0, gf, cf, rfl, hgf, hgv⟩
            · exact absurd ha0 (by omega)
            have hplt := he.lt
            have rd := HRd.out wr hbw
            obtain ⟨xb, xo, rfl, q0, q1, hcx⟩ := rd.cell (by rw [HXl.out]; exact hx0)
            have hgl : ∀ c, c < C → w.heap.size < g c := fun c hc => by have := he.gl hc; omega
            have hnxt : ∀ w4, Enc p l C B ⟨c_, r_, C, B, N, m_, j_, p_, l_, y_⟩ lo g Z w4 → Lns g C wr w4 → ∃ ck : Nat, (∀ ty : TypeId, (Builtin.copy_ #[55, 55] ty #[.slice (some ⟨w4.heap.size, 0, none⟩) NN NN, .slice (some ⟨xb, xo, none⟩) xl vc]).run Tryz.prog (w4.alloc (.cells (enc .i16 (List.replicate NN 0)).toArray 182)) = .ok (goInt ck) ((w4.alloc (.cells (enc .i16 (List.replicate NN 0)).toArray 182)).setRow w4.heap.size (enc .i16 (M.tk NN x)).toArray)) ∧
                Calls Tryz.prog 30 #[.pointer (some ⟨p, 0, none⟩), .slice (some ⟨w4.heap.size, 0, none⟩) NN NN] ((w4.alloc (.cells (enc .i16 (List.replicate NN 0)).toArray 182)).setRow w4.heap.size (enc .i16 (M.tk NN x)).toArray) fun e W2 => ∃ g1 cap, e = .returned (.tuple #[.slice (some ⟨g1, 0, none⟩) PN cap, .int .i64 0]) ∧ Given W2 (.slice (some ⟨g1, 0, none⟩) PN cap) FR0 ∧ Given W2 (.slice (some ⟨gf, 0, none⟩) PN cf) FR0 ∧ Below w.heap.size w W2 := by
              intro w4 he4 hl4
              have hb4 : Below w.heap.size w w4 := hbw'.trans (hl4.to_below (fun c hc => by have := hgl c hc; omega) hbw'.size)
              have bz : Below w4.heap.size w4 (w4.alloc (.cells (enc .i16 (List.replicate NN 0)).toArray 182)) := bel1 _ _
              have rd1 := (HRd.out w4 hb4).below bz (by have := hb4.size; omega)
              obtain ⟨ck, hcp⟩ := copy_tk (Blk.new w4 (enc .i16 (List.replicate NN 0)).toArray 182) rd1 hx0
              have bz2 := setRow_below bz (Nat.le_refl _) (enc .i16 (M.tk NN x)).toArray
              have hrd : Reads .i16 w4.heap.size (w4.heap.size + 1) ((w4.alloc (.cells (enc .i16 (List.replicate NN 0)).toArray 182)).setRow w4.heap.size (enc .i16 (M.tk NN x)).toArray) (.slice (some ⟨w4.heap.size, 0, none⟩) NN NN) (M.tk NN x) := by
                have hff : M.fits16 (M.tk NN x) := M.tk_fits (Poly.fit16.1 (by obtain ⟨_, _, _, _, hw, _⟩ := rd1; exact hw))
                have := Poly.reads_blk (Poly.Blk.setRow (Blk.new w4 (enc .i16 (List.replicate NN 0)).toArray 182) (enc .i16 (M.tk NN x)).toArray) (Poly.fit16.2 hff)
                rw [M.tk_length] at this
                exact this
              have hsz : ((w4.alloc (.cells (enc .i16 (List.replicate NN 0)).toArray 182)).setRow w4.heap.size (enc .i16 (M.tk NN x)).toArray).heap.size = w4.heap.size + 1 := by simp [World.setRow]
              have hW : ∀ W2, Lns g C ((w4.alloc (.cells (enc .i16 (List.replicate NN 0)).toArray 182)).setRow w4.heap.size (enc .i16 (M.tk NN x)).toArray) W2 → Below w.heap.size w W2 := fun W2 hl => (hb4.trans (bz2.mono hb4.size)).trans (hl.to_below (fun c hc => by have := hgl c hc; omega) (by have := hb4.size; omega))
              obtain ⟨sl, hS, hst⟩ := HBs.out p l lo g Z w4.heap.size (w4.heap.size + 1) (M.tk NN x) _ _ (fun wx hl => HTb.out wx (hW wx hl)) (he4.below bz2 he4.lt) hrd (Nat.le_of_eq hsz.symm) (by rw [M.tk_length, HNN.out])
              refine ⟨ck, hcp, hst.mono ?_⟩
              rintro e W2 ⟨g1, cap, rfl, _, gv, _, l2, _⟩
              rw [HS0.out sl hS] at gv
              refine ⟨g1, cap, rfl, gv, ?_, hW W2 l2⟩
              have hgne : ∀ c, c < C → gf ≠ g c := fun c hc => by have := he.gl hc; omega
              obtain ⟨a', c', he', h1, h2, h3, h4⟩ := hgv
              cases he'
              refine ⟨_, _, rfl, h1, h2, h3, ?_⟩
              rcases h4 with h4 | ⟨b', off', hb', hl', hx'⟩
              · exact .inl h4
              · cases hb'
                have h4s := hl4.size
                have l2s := l2.size
                refine .inr ⟨gf, 0, rfl, by omega, fun i y hi => ?_⟩
                refine (cell_keep ?_).trans (hx' i y hi)
                exact (l2.block gf (by omega) hgne).trans ((bz2.block gf (by omega)).trans (hl4.block gf hl' hgne))
            have HNxt : Hid _ := hnxt
            have hrs := HRs.out p l lo g L wr he
            have xs := box_cells hfb; dsimp only at xs; obtain ⟨x0, x1, x2, x3, x4, x5, x6, x7, x8, x9⟩ := xs
            generalize (enc .i16 (List.replicate NN 0)).toArray = cs at *
            generalize (enc .i16 (M.tk NN x)).toArray = cs2 at *
            clear hnxt he hLz hbw hbw' hfb rd hcx hgv hk ha0 hx0
            go_wp2_with (first
              | (go_at_call 37; refine hrs.mono ?_; clear hrs; rintro e w4 ⟨rfl, e4, l4⟩; obtain ⟨ck, hcp, hfd⟩ := HNxt.out w4 e4 l4; have HFd : Hid (Calls _ _ _ _ _) := hfd; clear HNxt e4 l4 hfd)
              | (go_at_call 30; refine HFd.out.mono ?_; clear HFd; rintro e W2 ⟨g1, cap, rfl, gv1, gv2, bw2⟩; have z1 := Byt.run_str gv1; have z2 := Byt.run_str gv2; have BW2 : Hid (Below w.heap.size w W2) := bw2; clear gv1 gv2 bw2))
            go_ret
            exact ⟨rfl, BW2.out⟩)

set_option maxRecDepth 100000 in
theorem SubBack_walk (f : M.Fmt) (v : Value) (x : List Int) (w : World) (hT : Wave.Tab w ∧ Alloc.Tabs w) (hx : Reads .i16 0 w.heap.size w v x) :
    Calls Tryz.prog 7 #[fv f, v] w fun e w' => e = .returned (.bool true) ∧ Below w.heap.size w w' := by
  by_cases h : M.okS f
  · obtain ⟨C, B, N, r, hF⟩ := sb_of h
    have hends := M.ends (f := f) (.inl h)
    exact back_some f C B N r (M.pay f).toNat v x w hT hx hF (by have := hends.2.2.1; omega)
  · exact back_none f v x w hT hx h

end Sub
end Go.Proofs.YtcaifpjbjghhaaaGreatDoor

