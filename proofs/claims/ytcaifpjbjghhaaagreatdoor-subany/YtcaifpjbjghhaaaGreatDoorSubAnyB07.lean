import Derived.Maps.AppendAt
import Derived.Test.YtcaifpjbjghhaaaGreatDoorSubA00
import Derived.Test.YtcaifpjbjghhaaaGreatDoorSubA01
import Derived.Test.YtcaifpjbjghhaaaGreatDoorSubA02
import Derived.Test.YtcaifpjbjghhaaaGreatDoorSubA03
import Derived.Test.YtcaifpjbjghhaaaGreatDoorSubA04
import Derived.Test.YtcaifpjbjghhaaaGreatDoorSubA05
import Derived.Test.YtcaifpjbjghhaaaGreatDoorSubA06
import Derived.Test.YtcaifpjbjghhaaaGreatDoorSubA07
import Derived.Test.YtcaifpjbjghhaaaGreatDoorSubA08
import Derived.Test.YtcaifpjbjghhaaaGreatDoorSubA09
import Derived.Test.YtcaifpjbjghhaaaGreatDoorSubA10
import Derived.Test.YtcaifpjbjghhaaaGreatDoorSubA11
import Derived.Test.YtcaifpjbjghhaaaGreatDoorSubA12
import Derived.Test.YtcaifpjbjghhaaaGreatDoorSubA13
import Derived.Test.YtcaifpjbjghhaaaGreatDoorSubA14
import Derived.Test.YtcaifpjbjghhaaaGreatDoorSubA15
import Derived.Test.YtcaifpjbjghhaaaGreatDoorSubA16
import Derived.Test.YtcaifpjbjghhaaaGreatDoorSubA17
import Derived.Test.YtcaifpjbjghhaaaGreatDoorSubA18
import Derived.Test.YtcaifpjbjghhaaaGreatDoorSubA19
import Derived.Test.YtcaifpjbjghhaaaGreatDoorSubA20
import Derived.Test.YtcaifpjbjghhaaaGreatDoorSubA21
import Derived.Test.YtcaifpjbjghhaaaGreatDoorSubA22
import Derived.Test.YtcaifpjbjghhaaaGreatDoorSubA23
import Derived.Test.YtcaifpjbjghhaaaGreatDoorSubA24
import Derived.Test.YtcaifpjbjghhaaaGreatDoorSubA25
import Derived.Test.YtcaifpjbjghhaaaGreatDoorSubA26
import Derived.Test.YtcaifpjbjghhaaaGreatDoorSubA27
import Derived.Test.YtcaifpjbjghhaaaGreatDoorSubA28
import Derived.Test.YtcaifpjbjghhaaaGreatDoorSubA29
import Derived.Test.YtcaifpjbjghhaaaGreatDoorSubA30
import Derived.Test.YtcaifpjbjghhaaaGreatDoorSubA31
import Derived.Test.YtcaifpjbjghhaaaGreatDoorSubA32
import Derived.Test.YtcaifpjbjghhaaaGreatDoorSubA33
import Derived.Test.YtcaifpjbjghhaaaGreatDoorSubA34
import Derived.Test.YtcaifpjbjghhaaaGreatDoorSubA35
import Derived.Test.YtcaifpjbjghhaaaGreatDoorSubA36
import Derived.Test.YtcaifpjbjghhaaaGreatDoorSubA37
import Derived.Test.YtcaifpjbjghhaaaGreatDoorSubA38
import Derived.Test.YtcaifpjbjghhaaaGreatDoorSubA39
import Derived.Test.YtcaifpjbjghhaaaGreatDoorSubA40
import Derived.Test.YtcaifpjbjghhaaaGreatDoorSubA41
import Derived.Test.YtcaifpjbjghhaaaGreatDoorSubA42
import Derived.Test.YtcaifpjbjghhaaaGreatDoorSubA43
import Derived.Test.YtcaifpjbjghhaaaGreatDoorSubA44
import Derived.Test.YtcaifpjbjghhaaaGreatDoorSubAnyB00
import Derived.Test.YtcaifpjbjghhaaaGreatDoorSubAnyB01
import Derived.Test.YtcaifpjbjghhaaaGreatDoorSubAnyB02
import Derived.Test.YtcaifpjbjghhaaaGreatDoorSubAnyB03
import Derived.Test.YtcaifpjbjghhaaaGreatDoorSubAnyB04
import Derived.Test.YtcaifpjbjghhaaaGreatDoorSubAnyB05
import Derived.Test.YtcaifpjbjghhaaaGreatDoorSubAnyB06
/-
  A frame that is made, parsed, packed again and turned into planes: the calls behind one another. Conditions: as told at each.
-/
namespace Go.Proofs.YtcaifpjbjghhaaaGreatDoor
set_option linter.unusedVariables false
open Go.RowKit
namespace Sub
open Bank (Blk But)
open Byt (Given)
open Poly (Reads cell_keep alloc_size Spl Joi enc)
open _root_.Go.Proofs.YtcaifpjbjghhaaaGreatDoor.Form (fv fc bel1 box_cells blk_below of_drew)

/-- the frame of samples x behind lines L -/
def frameOf (f : M.Fmt) (C B N r n : Nat) (sl : Int) (L : Nat → List Int) (x : List Int) : List Nat := M.frb f C B N r sl (M.an f C B N r sl (M.enX B N C x L)) n
theorem lay_ok {aj az ac E B C N hi : Nat} {pf : Nat → Nat} (h1 : aj < hi) (h2 : az + C < hi) (h3 : E ≤ hi) (h4 : ac < E) (h5 : ∀ i, i < N → ac < pf i ∧ pf i + C < E) : (lay aj az ac B C N pf).ok hi C B N :=
  ⟨⟨h1, Nat.le_refl _⟩, ⟨by show az < hi; omega, Nat.le_refl _⟩, ⟨by show ac < hi; omega, Nat.le_refl _⟩, fun y hy => ⟨by show az + 1 + y < hi; omega, Nat.le_refl _⟩, fun i hi' => ⟨by show pf i < hi; have := h5 i hi'; omega, Nat.le_refl _⟩, fun i hi' y hy => ⟨by show pf i + 1 + y < hi; have := h5 i hi'; omega, Nat.le_refl _⟩⟩

theorem back_steps (p l C B N r n : Nat) (f : M.Fmt) (lo g : Nat → Nat) (L : Nat → List Int) (lo' hi' : Nat) (x : List Int) (v : Value) (W : World) (hT : ∀ wx, Lns g C W wx → Alloc.Tabs wx) (hF : Sb f C B N r) (he : Enc p l C B f lo g L W) (hx : Reads .i16 lo' hi' W v x) (hh : hi' ≤ W.heap.size) (hl : x.length = C * (N * B)) (hn : M.pay f = n) :
    ∃ sl, Sh f C B r (M.anS f N B (M.enX B N C x L)) sl ∧
    Calls Tryz.prog 30 #[.pointer (some ⟨p, 0, none⟩), v] W fun e W2 => ∃ g0 cap, e = .returned (.tuple #[.slice (some ⟨g0, 0, none⟩) n cap, .int .i64 0]) ∧ W.heap.size ≤ g0 ∧ Given W2 (.slice (some ⟨g0, 0, none⟩) n cap) (frameOf f C B N r n sl L x) ∧ Enc p l C B f lo g (M.enL B N C x L) W2 ∧ Lns g C W W2 ∧
      Calls Tryz.prog 24 #[fv f, .slice (some ⟨g0, 0, none⟩) n cap] W2 fun e W3 => ∃ aj az ac, e = .returned (.tuple #[pa (.slice (some ⟨aj, 0, none⟩) B B) (.slice (some ⟨az, 0, none⟩) C C) (.slice (some ⟨ac, 0, none⟩) N N), .int .i64 0]) ∧ Below W2.heap.size W2 W3 ∧
        ∀ W4, Below W3.heap.size W3 W4 → Calls Tryz.prog 23 #[fv f, pa (.slice (some ⟨aj, 0, none⟩) B B) (.slice (some ⟨az, 0, none⟩) C C) (.slice (some ⟨ac, 0, none⟩) N N)] W4 fun e W5 => ∃ g1 c1, e = .returned (.tuple #[.slice (some ⟨g1, 0, none⟩) n c1, .int .i64 0]) ∧ Below W4.heap.size W4 W5 ∧ Given W5 (.slice (some ⟨g1, 0, none⟩) n c1) (frameOf f C B N r n sl L x) ∧
          Calls Tryz.prog 15 #[fv f, pa (.slice (some ⟨aj, 0, none⟩) B B) (.slice (some ⟨az, 0, none⟩) C C) (.slice (some ⟨ac, 0, none⟩) N N)] W5 fun e W6 => ∃ b o c, e = .returned (.tuple #[.slice (some ⟨b, o, none⟩) C c, .int .i64 0]) ∧ Below W5.heap.size W5 W6 := by
  have hends := M.ends (f := f) (.inl hF.ok)
  rw [hn] at hends
  have hbit : M.bitS f ≤ 8 * (n : Int) := by have := hends.2.2.2.2; unfold M.bitF at this; rw [if_pos hF.ok.1] at this; exact this
  have n7 : 7 ≤ n := by have := hends.2.2.1; omega
  have c2 := hF.c2
  have b8 := hF.b8
  have n16 := hF.n16
  obtain ⟨sl, hS⟩ := sh_of hF (Z := M.anS f N B (M.enX B N C x L)) (fun c _ b _ => M.anS_bd _ _ _ _ _ _)
  refine ⟨sl, hS, (Feed_ok p l C B N r n f lo g L sl lo' hi' x v W hT hF he hx hh hl hS hn).mono ?_⟩
  rintro e W2 ⟨u, rfl, ho, he2, hl2⟩
  obtain ⟨au, cu, rfl⟩ := Poly.own_form ho
  change W2.ownsRow W.heap.size _ 1 _ n ((frameOf f C B N r n sl L x).map fun x : Nat => Value.int .u8 x) at ho
  have hlen : (frameOf f C B N r n sl L x).length = n := M.frb_length
  have hlt : ∀ y ∈ frameOf f C B N r n sl L x, y < 256 := M.frb_lt
  have hg : Given W2 (.slice au n cu) (frameOf f C B N r n sl L x) := Byt.given_own (by rw [hlen]; exact ho) hlt
  obtain ⟨g0, rfl, hg0⟩ : ∃ g0, au = some ⟨g0, 0, none⟩ ∧ W.heap.size ≤ g0 := by
    rcases id ho.2 with ⟨_, h0⟩ | ⟨g0, cap, cur, h1, h2, _⟩
    · omega
    · cases h1; exact ⟨g0, rfl, h2⟩
  have hfr := fun sl' hS' => frame_is (sl' := sl') hF (m := M.an f C B N r sl (M.enX B N C x L)) (n := n) hS (M.an_ok hF) hn (fun c _ b _ => M.anS_bd _ _ _ _ _ _) hS'
  obtain ⟨sl', hS'⟩ := psc_sh (xs := frameOf f C B N r n sl L x) hF hlen hn
  obtain ⟨rfl, _, hisF⟩ := hfr sl' hS'
  refine ⟨g0, cu, rfl, hg0, hg, he2, hl2, ?_⟩
  have hT2 := hT W2 hl2
  refine (Parse_any f C B N r n _ (frameOf f C B N r n sl' L x) sl' W2 hT2 hF hS' hg hlen hn).mono ?_
  rintro e W3 ⟨b3, ⟨_, aj, az, ac, E, pf, rfl, got⟩ | ⟨hno, _⟩⟩
  · refine ⟨aj, az, ac, rfl, b3, fun W4 b4 => ?_⟩
    have hall := M.all_get (Bt := Bits.bitsL (frameOf f C B N r n sl' L x)) (n := (frameOf f C B N r n sl' L x).length) (N := N) (sl := sl') hF (by rw [hlen]; exact hbit) hS'
    have hsc := M.sc_sh (Bt := Bits.bitsL (frameOf f C B N r n sl' L x)) (n := (frameOf f C B N r n sl' L x).length) (r := r) hF (by rw [hlen]; exact hbit)
    have hms : (pnb f C B N r sl' (frameOf f C B N r n sl' L x)).s = psc f C B (frameOf f C B N r n sl' L x) := hall.1
    have hread : M.Read f C B N r sl' (Bits.bitsL (frameOf f C B N r n sl' L x)) (pnb f C B N r sl' (frameOf f C B N r n sl' L x)) := hall.2
    have hiF := hisF
    obtain ⟨hok, hfb⟩ := hiF
    have hfb' : M.frb f C B N r sl' (pnb f C B N r sl' (frameOf f C B N r n sl' L x)) n = frameOf f C B N r n sl' L x := by
      have := hfb
      rw [show (M.frb f C B N r sl' (M.an f C B N r sl' (M.enX B N C x L)) n).length = n from hlen] at this
      exact this
    obtain ⟨PN, hPN⟩ : ∃ PN, pnb f C B N r sl' (frameOf f C B N r n sl' L x) = PN := ⟨_, rfl⟩
    have hokm : okM f C B N r sl' PN := by rw [← hPN]; exact hok
    rw [hPN] at got hms hread hfb'
    have hj : ∀ b, b < B → -9223372036854775808 ≤ PN.j b ∧ PN.j b ≤ 9223372036854775807 := fun b hb => by
      rw [hread.j b hb]
      have := M.fv_lt (Bits.bitsL (frameOf f C B N r n sl' L x)) (32 + b) 1
      split <;> omega
    have hZ : ∀ c, c < C → ∀ b, b < B → 0 ≤ PN.s c b ∧ PN.s c b ≤ 15 := by rw [hms]; exact hsc.1
    have hSP : Sh f C B r PN.s sl' := by rw [hms]; exact hS'
    have gh := got.hi
    have ok4 : (lay aj az ac B C N pf).ok W3.heap.size C B N := lay_ok gh.1 gh.2.1 gh.2.2 got.ap.e got.made.q.lo
    have b24 : Below W2.heap.size W2 W4 := b3.trans (b4.mono b3.size)
    have sees3 := got.made.sees
    have sees : ∀ wx, Below W3.heap.size W3 wx → Sees (lay aj az ac B C N pf) C B N PN wx := fun wx hb => sees3.keep ok4 fun k hk => hb.block k hk
    have hT4 : ∀ wx, Below W2.heap.size W2 wx → Alloc.Tabs wx := fun wx hb => hT2.below hb (Nat.le_refl _)
    refine (Pack_laid W3.heap.size f C B N r n (lay aj az ac B C N pf) PN sl' W4 (hT4 W4 b24) hF hSP ok4 (sees W4 b4) b4.size hZ hj hn).mono ?_
    rintro e W5 ⟨b5, ⟨_, u5, rfl, ho5⟩ | ⟨hno, _⟩⟩
    · rw [hfb'] at ho5
      obtain ⟨a5, c5, rfl⟩ := Poly.own_form ho5
      obtain ⟨g5, rfl⟩ : ∃ g5, a5 = some ⟨g5, 0, none⟩ := by
        rcases id ho5.2 with ⟨_, h0⟩ | ⟨g5, cap, cur, h1, _⟩
        · omega
        · cases h1; exact ⟨g5, rfl⟩
      have b35 : Below W3.heap.size W3 W5 := b4.trans (b5.mono b4.size)
      have b25 : Below W2.heap.size W2 W5 := b3.trans (b35.mono b3.size)
      refine ⟨g5, c5, rfl, b5, Byt.given_own (by rw [hlen]; exact ho5) hlt, ?_⟩
      have hs5 := sees W5 b35
      have hr : ∀ wx, Below W5.heap.size W5 wx → Calls Tryz.prog 52 #[fv f, pa (.slice (some ⟨aj, 0, none⟩) B B) (.slice (some ⟨az, 0, none⟩) C C) (.slice (some ⟨ac, 0, none⟩) N N)] wx fun e w' => e = .returned (.int .i64 0) ∧ Below wx.heap.size wx w' := fun wx hb => by
        have hbx : Below W3.heap.size W3 wx := b35.trans (hb.mono b35.size)
        have hsx := sees wx hbx
        refine (refuse_laid W3.heap.size f C B N r (rl B PN.j) PN.q PN.s sl' _ _ _ wx (hT4 wx (b25.trans (hb.mono b25.size))) hF hSP ((hsx.v1 ok4).reads' fun j hj' => wf64.2 (hj j hj')) (hsx.v2 ok4) (hsx.v3 ok4) hbx.size (by rw [rl_length]; omega) hZ).mono ?_
        rintro e w' ⟨h1, ⟨h2, _⟩ | ⟨_, h2⟩⟩
        · exact ⟨h2, h1⟩
        · exact absurd hokm h2
      refine (Planes_ok W3.heap.size f C B N r _ _ _ PN sl' W5 (hT4 W5 b25) hF hSP (hs5.v1 ok4) (hs5.v2 ok4) (hs5.v3 ok4) b35.size hZ hr).mono ?_
      rintro e W6 ⟨v6, rfl, b6, h6⟩
      obtain ⟨b, o, c, rfl, _⟩ := h6
      exact ⟨b, o, c, rfl, b6⟩
    · exact absurd hokm hno
  · exact absurd hisF hno

end Sub
end Go.Proofs.YtcaifpjbjghhaaaGreatDoor

/-
  Contract of join: the samples of one channel's plane. Conditions: as told at each.
-/
namespace Go.Proofs.YtcaifpjbjghhaaaGreatDoor
set_option linter.unusedVariables false
open Go.RowKit
namespace Sub
open Bank (Blk But)
open Poly (Reads cell_keep alloc_size Joi)
open _root_.Go.Proofs.YtcaifpjbjghhaaaGreatDoor.Form (fv fc bel1 blk_below)

theorem infoI16 : (Tryz.prog.info? 182).map (fun i => (i.zero, i.size, i.bytes)) = some (some (.int .i16 0), 1, 2) := by kernel_rfl
/-- a joiner's line and the samples of k blocks -/
def Jo (w : World) (lo gl B k : Nat) (F : Nat → Nat → Int) (l : List Int) (v : Value) (wr : World) : Prop :=
  Joi lo gl B (M.jst B F l k) wr ∧ But gl w wr ∧ wr.ownsRow w.heap.size 182 1 v (k * B) ((M.jsm B F l k).map (Value.int .i16))
theorem Jo.step {w wr w3 w5 : World} {lo gl B k : Nat} {F : Nat → Nat → Int} {l : List Int} {v v5 : Value} (h : Jo w lo gl B k F l v wr) (hb : But gl wr w3) (hj : Joi lo gl B (M.jst B F l (k + 1)) w3) (hg : gl + 2 ≤ w.heap.size)
    (ho : w5.ownsRow w.heap.size 182 1 v5 (k * B + B) (((M.jsm B F l k).map (Value.int .i16)) ++ (M.jn B (M.jst B F l (k + 1))).map (Value.int .i16))) (hgr : w3.grownBy w5 v.ownBlock) : Jo w lo gl B (k + 1) F l v5 w5 := by
  obtain ⟨_, hw, hov⟩ := h
  have hne : ∀ b, b < w.heap.size → v.ownBlock ≠ some b := fun b hb e => by have := (Qnt.own_blk hov e).1; omega
  have s1 := hw.size
  have s3 := hb.size
  have s5 := hgr.size
  refine ⟨hj.keep (by omega) fun b h0 h1 => hgr.block b (by omega) (fun e => hne b (by omega) e.symm), ⟨hgr.os.trans (hb.os.trans hw.os), hgr.tape.trans (hb.tape.trans hw.tape), hgr.output.trans (hb.output.trans hw.output), by omega, fun b h0 h1 => ?_⟩, ?_⟩
  · exact (hgr.block b (by omega) (fun e => hne b h0 e.symm)).trans ((hb.block b (by omega) h1).trans (hw.block b h0 h1))
  · rw [Nat.succ_mul, M.jsm, List.map_append]; exact ho
theorem jo_own {w wr w3 : World} {lo gl B k : Nat} {F : Nat → Nat → Int} {l : List Int} {v : Value} (h : Jo w lo gl B k F l v wr) (hb : But gl wr w3) (hg : gl + 2 ≤ w.heap.size) : w3.ownsRow w.heap.size 182 1 v (k * B) ((M.jsm B F l k).map (Value.int .i16)) :=
  own_stand h.2.2 fun g hg' => hb.block g (Qnt.own_lt h.2.2 hg') (by have := (Qnt.own_blk h.2.2 hg').1; omega)

set_option maxRecDepth 100000 in
set_option maxHeartbeats 4000000 in
theorem join_any (lo gl B N lo' hi' : Nat) (F : Nat → Nat → Int) (l : List Int) (v : Value) (w : World) (hB : B = 4 ∨ B = 8) (N1 : 1 ≤ N) (N16 : N ≤ 16) (h : Joi lo gl B l w) (hx : B2 .i32 lo' hi' v N B F w) (hF : Qnt.F32 F) (h1 : hi' ≤ w.heap.size) (hg : gl < lo' ∨ hi' ≤ gl) :
    Calls Tryz.prog 92 #[.pointer (some ⟨gl + 1, 0, none⟩), v] w fun e w' => ∃ u, e = .returned u ∧ Joi lo gl B (M.jst B F l N) w' ∧ But gl w w' ∧ w'.ownsRow w.heap.size 182 1 u (N * B) ((M.jsm B F l N).map (Value.int .i16)) := by
  obtain ⟨b, o, c, rfl, hc, hb0, hb1, hrow⟩ := hx
  have hg2 := h.2.1
  have hfd : ∀ k wr, k < N → But gl w wr → Joi lo gl B (M.jst B F l k) wr → ∃ u, wr.cell? ⟨b, o + k, none⟩ = some u ∧ Calls Tryz.prog 153 #[.pointer (some ⟨gl + 1, 0, none⟩), u] wr fun e w3 => ∃ b3 o3 c3, e = .returned (.tuple #[.slice (some ⟨b3, o3, none⟩) B c3, .int .i64 0]) ∧ Joi lo gl B (M.jst B F l (k + 1)) w3 ∧ But gl wr w3 ∧ (∀ j u, ((M.jn B (M.jst B F l (k + 1))).map (Value.int .i16))[j]? = some u → w3.cell? (Addr.add ⟨b3, o3, none⟩ j) = some u) := by
    intro k wr hk hbt hj
    obtain ⟨u, hu, hr⟩ := hrow k hk
    obtain ⟨M2, M20, hm⟩ : ∃ M2 M20 : Nat, (B = 4 ∧ M2 = 8 ∧ M20 = 80) ∨ (B = 8 ∧ M2 = 16 ∧ M20 = 160) := by
      rcases hB with h | h
      · exact ⟨8, 80, .inl ⟨h, rfl, rfl⟩⟩
      · exact ⟨16, 160, .inr ⟨h, rfl, rfl⟩⟩
    have kp : ∀ q, lo' ≤ q → q < hi' → wr.heap[q]? = w.heap[q]? := fun q q0 q1 => hbt.block q (by omega) (by omega)
    have hr' := (hr.keep kp).reads fun j => Poly.wf32.2 (hF k j)
    refine ⟨u, (cell_keep (kp b hb0 hb1)).trans hu, (Poly.joinFeed B M2 M20 lo gl lo' hi' (rl B (F k)) _ u wr hm hj hr' (rl_length _ _) (by have := hbt.size; omega) hg).mono ?_⟩
    rintro e w3 ⟨v3, rfl, hj3, hb3, hr3⟩
    have hl3 : (M.jn B (M.nj B (rl B (F k)) (M.jst B F l k))).length = B := M.jn_length _ _
    obtain ⟨a3, c3, rfl⟩ := hr3.form
    obtain ⟨b3, o3, rfl, _, _, hc3⟩ := hr3.cell (by omega)
    rw [hl3]
    refine ⟨b3, o3, c3, rfl, hj3, hb3, fun j u hj' => ?_⟩
    rw [List.getElem?_map] at hj'
    obtain ⟨z, hz, rfl⟩ := Option.map_eq_some_iff.1 hj'
    have hjl : j < (M.jn B (M.nj B (rl B (F k)) (M.jst B F l k))).length := (List.getElem?_eq_some_iff.1 hz).1
    rw [show (⟨b3, o3, none⟩ : Addr).add j = ⟨b3, o3 + j, none⟩ by unfold Addr.add; split <;> simp_all]
    rw [hc3 j (by omega), List.getD_eq_getElem?_getD]
    rw [show M.jst B F l (k + 1) = M.nj B (rl B (F k)) (M.jst B F l k) from rfl] at hz
    rw [hz]; rfl
  have HFd : Hid _ := hfd
  have st0 : Jo w lo gl B 0 F l (.slice none 0 0) w := ⟨h, ⟨rfl, rfl, rfl, Nat.le_refl _, fun _ _ _ => rfl⟩, by rw [Nat.zero_mul]; exact World.ownsRow_nil _ _ _ _⟩
  have St0 : Hid (Jo w lo gl B 0 F l (.slice none 0 0) w) := st0
  obtain ⟨i0, hi0, hz0, hz1, hz2⟩ := info_parts infoI16
  clear hfd hrow st0 h hF
  go_enter Tryz.func92, Tryz.ntmps92
  go_wp2
  go_loopw [5, 12] (fun s i wr => ∃ k : Nat, k ≤ N ∧ i = .int .i64 k ∧ Jo w lo gl B k F l s wr) (fun _ i _ => N - (intOf i).toNat)
  case atStart => exact ⟨0, by omega, rfl, St0.out⟩
  case round =>
    clear St0
    obtain ⟨k, hk, rfl, hj⟩ := hrel
    obtain ⟨sa, sc, rfl⟩ := Poly.own_form hj.2.2
    have HJ : Hid _ := hj
    by_cases hlt : k < N
    · have i1 : (k : Int) < (N : Int) := by omega
      obtain ⟨u, hu, hcall⟩ := HFd.out k wr hlt hj.2.1 hj.1
      have HC : Hid (Calls _ _ _ _ _) := hcall
      obtain ⟨KB, hKB⟩ : ∃ KB, k * B = KB := ⟨_, rfl⟩
      have hKB2 : KB ≤ 200 := by rw [← hKB]; have := Nat.mul_le_mul (show k ≤ 16 by omega) (show B ≤ 8 by omega); omega
      have hown := fun w3 hb => jo_own HJ.out (w3 := w3) hb hg2
      have hstep := fun w3 w5 v5 hb hjj ho hgr => Jo.step HJ.out (w3 := w3) (w5 := w5) (v5 := v5) hb hjj hg2 ho hgr
      rw [hKB] at hown hstep ⊢
      have HO : Hid (∀ w3, But gl wr w3 → World.ownsRow _ _ _ _ _ _ _) := hown
      have HS : Hid (∀ w3 w5 v5, But gl wr w3 → _) := hstep
      have hsz := hj.2.1.size
      have hb8 : B ≤ 8 := by omega
      have hb8' : 1 ≤ B := by omega
      obtain ⟨ys, hys⟩ : ∃ ys, M.jn B (M.jst B F l (k + 1)) = ys := ⟨_, rfl⟩
      have hyl : ys.length = B := by rw [← hys]; exact M.jn_length _ _
      rw [hys] at HC HS
      clear hcall hown hstep hj hKB HFd HJ hys hB h1 hg
      go_wp2_with (first
        | (go_at_call 153; refine HC.out.mono ?_; clear HC; rintro e w3 ⟨b3, o3, c3, rfl, hj3, hb3, hc3⟩; have hso := hb3.size; have HB3 : Hid (But gl wr w3) := hb3; have HJ3 : Hid (Joi _ _ _ _ w3) := hj3; have HC3 : Hid (∀ j u, _ → w3.cell? _ = some u) := hc3; have HOw : Hid (World.ownsRow _ _ _ _ _ _ _) := HO.out w3 hb3; clear hj3 hb3 hc3 HO)
        | (at_builtin; refine wpList_append_own_at _ rfl (.tmp 22) (.tmp 23) 55 rfl w.heap.size 182 i0 (.int .i16 0) 1 2 Tryz.underlying55 hi0 hz0 hz1 hz2 rfl (by decide) _ _ _ rfl HOw.out ⟨b3, o3, none⟩ B c3 (ys.map (Value.int .i16)) rfl ?c1 HC3.out ?c2 ?c3 ?c4 ?c5 ?_))
      skip
      case c1 => rw [List.length_map, hyl, Nat.mul_one]
      case c2 => intro u hu; simp at hu; obtain ⟨_, _, rfl⟩ := hu; rfl
      case c3 => unfold maxLen; omega
      case c4 => omega
      case c5 => omega
      · intro v5 w5 hown5 hgrow5 _ hat5
        have HN : Hid (Jo w lo gl B (k + 1) F l v5 w5) := HS.out w3 w5 v5 HB3.out HJ3.out hown5 hgrow5
        clear hown5 hgrow5 hat5
        go_wp2
        go_roundw
        case rel => exact ⟨k + 1, by omega, by go_num, HN.out⟩
        case measure => simp [intOf]; omega
    · obtain rfl : k = N := by omega
      clear hj HFd
      go_wp2
      go_ret
      exact ⟨_, rfl, HJ.out.1, HJ.out.2.1, HJ.out.2.2⟩

end Sub
end Go.Proofs.YtcaifpjbjghhaaaGreatDoor

/-
  Contract of a decoder's Play. Conditions: as told at each.
-/
namespace Go.Proofs.YtcaifpjbjghhaaaGreatDoor
set_option linter.unusedVariables false
open Go.RowKit
namespace Sub
open Bank (Blk But)
open Poly (Reads cell_keep alloc_size Spl Joi)
open _root_.Go.Proofs.YtcaifpjbjghhaaaGreatDoor.Form (fv fc bel1 blk_below of_drew)

theorem mkR16 (w : World) (n : Nat) (hn : n ≤ 65536) : (Instr.makeSlice 62 (.int .i64 n) (.int .i64 n)).run Tryz.prog w = .ok (.slice (some ⟨w.heap.size, 0, none⟩) n n) (w.alloc (.cells (nils n) 55)) := by
  obtain ⟨i0, hi, hz0, hz1, hz2⟩ := info_parts Poly.infoS16
  have := run_make (P := Tryz.prog) w 62 55 i0 (.slice none 0 0) Tryz.underlying62 hi hz0 .i64 .i64 n n (by omega) (by omega) (by rw [hz2]; omega) (by omega)
  rw [this, hz1]; unfold nils; rw [← Poly.madeCells_rep]; simp [Value.cells]
/-- q channels were played: heads in block gp; W the world ahead -/
structure Pld (p l C B N gp q : Nat) (f : M.Fmt) (lo g : Nat → Nat) (L : Nat → List Int) (X : Nat → Nat → Nat → Int) (W wr : World) : Prop where
  dec : Dec p l C B f lo g (fun c => if c < q then M.jst B (X c) (L c) N else L c) wr
  top : ∃ hd : Array Value, Blk wr gp hd 55 ∧ hd.size = C ∧ ∀ c, c < q → ∃ u, hd[c]? = some u ∧ Reads .i16 (gp + 1) wr.heap.size wr u (M.jsm B (X c) (L c) N)
  lns : Lns g C W wr
  gp : p < gp
section
variable {p l C B N gp q : Nat} {f : M.Fmt} {lo g : Nat → Nat} {L : Nat → List Int} {X : Nat → Nat → Nat → Int} {W wr w2 : World}
theorem Pld.step (h : Pld p l C B N gp q f lo g L X W wr) (hq : q < C) (hb : But (g q) wr w2) (hx : Joi (lo q) (g q) B (M.jst B (X q) (L q) N) w2) {u : Value} (hu : Reads .i16 wr.heap.size w2.heap.size w2 u (M.jsm B (X q) (L q) N)) (hW : W.heap.size ≤ gp) :
    Pld p l C B N gp (q + 1) f lo g L X W (w2.setCell ⟨gp, q, none⟩ u) := by
  obtain ⟨h1, ⟨hd, h2, h3, h4⟩, h5, h6⟩ := h
  have sz : (w2.setCell ⟨gp, q, none⟩ u).heap.size = w2.heap.size := by simp [World.setCell]
  have s2 := hb.size
  have hgq := h1.gl hq
  have hgp := h2.lt
  have h2' : Blk w2 gp hd 55 := hb.blk h2 (by omega)
  have set : ∀ k, k ≠ gp → (w2.setCell ⟨gp, q, none⟩ u).heap[k]? = w2.heap[k]? := fun k hk => Below.heap_setCell _ _ _ _ (by show k ≠ gp; exact hk)
  have he : Jois l p C B lo g (fun c => if c < q + 1 then M.jst B (X c) (L c) N else L c) w2 := h1.joi.fed hq hb hx (by simp) fun c' hc' => by
    by_cases e : c' < q
    · rw [if_pos e, if_pos (by omega)]
    · rw [if_neg e, if_neg (by omega)]
  have hpb : Blk w2 p (oc f (.slice (some ⟨l, 0, none⟩) C C)) 179 := hb.blk h1.obj (by omega)
  refine ⟨⟨hpb.set_ne (by show p ≠ gp; omega) _, he.keep (by omega) fun b k0 k1 => set b (by have := h1.lp; omega), h1.lp⟩, ⟨_, h2'.set q u, by simpa using h3, fun c hc => ?_⟩, ?_, h6⟩
  · by_cases e : c = q
    · subst e
      refine ⟨u, by rw [Array.getElem?_setIfInBounds, if_pos rfl, if_pos (by omega)], ?_⟩
      rw [sz]
      exact (hu.keep fun b k0 k1 => set b (by omega)).mono (by omega) (Nat.le_refl _)
    · obtain ⟨u', hu', hb'⟩ := h4 c (by omega)
      refine ⟨u', by rw [Array.getElem?_setIfInBounds, if_neg (fun e' => e e'.symm)]; exact hu', ?_⟩
      rw [sz]
      exact (hb'.keep fun b k0 k1 => (set b (by omega)).trans (hb.block b k1 (by omega))).mono (Nat.le_refl _) s2
  · have := h5.size
    exact ⟨hb.os.trans h5.os, hb.tape.trans h5.tape, hb.output.trans h5.output, by rw [sz]; omega, fun k k0 k1 => (set k (by omega)).trans ((hb.block k (by omega) (k1 q hq)).trans (h5.block k k0 k1))⟩
theorem Pld.rows (h : Pld p l C B N gp C f lo g L X W wr) : Poly.Rows .i16 gp wr.heap.size wr (.slice (some ⟨gp, 0, none⟩) C C) ((List.range C).map fun c => M.jsm B (X c) (L c) N) := by
  obtain ⟨hd, h2, h3, h4⟩ := h.top
  refine ⟨some ⟨gp, 0, none⟩, C, by simp, by simp, .inr ⟨gp, 0, rfl, Nat.le_refl _, h2.lt, fun i hi => ?_⟩⟩
  have hi' : i < C := by simpa using hi
  obtain ⟨u, hu, hb⟩ := h4 i hi'
  refine ⟨u, by rw [Nat.zero_add]; exact h2.cell hu, ?_⟩
  rw [List.getD_eq_getElem?_getD, List.getElem?_map, List.getElem?_range hi']
  exact hb.mono (by omega) (Nat.le_refl _)
theorem Pld.start (h : Dec p l C B f lo g L W) {w2 : World} (hb : Below W.heap.size W w2) : Pld p l C B N w2.heap.size 0 f lo g L X W (w2.alloc (.cells (nils C) 55)) := by
  have hb2 := hb.alloc hb.size (.cells (nils C) 55)
  have := h.lt; have := hb.size
  exact ⟨⟨(h.below hb2 h.lt).obj, ⟨(h.below hb2 h.lt).joi.top, fun c hc => by simp only [Nat.not_lt_zero, if_false]; exact (h.below hb2 h.lt).joi.obj c hc, (h.below hb2 h.lt).joi.low, (h.below hb2 h.lt).joi.ord⟩, h.lp⟩, ⟨_, Blk.new _ _ _, nils_size C, fun c hc => absurd hc (by omega)⟩, Lns.of_below hb2, by omega⟩

/-- what is held while one channel's samples are stored -/
structure KP (a gp C : Nat) (Wn wx : World) : Prop where
  size : Wn.heap.size ≤ wx.heap.size
  block : ∀ k, k < Wn.heap.size → k ≠ a → k ≠ gp → wx.heap[k]? = Wn.heap[k]?
  head : ∃ hd : Array Value, Blk wx gp hd 55 ∧ hd.size = C
theorem KP.cell {a : Nat} {Wn wx : World} (h : KP a gp C Wn wx) (hq : q < C) : (∃ u, wx.cell? ⟨gp, q, none⟩ = some u) ∧ wx.frozen? ⟨gp, q, none⟩ = false := by
  obtain ⟨_, _, hd, h1, h2⟩ := h
  exact ⟨⟨hd[q]'(by omega), h1.cell (by simp [h2, hq])⟩, h1.free q⟩
theorem KP.but {a : Nat} {Wn wx w2 : World} (h : KP a gp C Wn wx) (b : But a wx w2) (hz : a ≠ gp) : KP a gp C Wn w2 := by
  obtain ⟨h0, h1, hd, h2, h3⟩ := h
  exact ⟨Nat.le_trans h0 b.size, fun k k0 k1 k2 => (b.block k (by omega) k1).trans (h1 k k0 k1 k2), hd, b.blk h2 (Ne.symm hz), h3⟩
theorem KP.set {a : Nat} {Wn wx : World} (h : KP a gp C Wn wx) (v : Value) : KP a gp C Wn (wx.setCell ⟨gp, q, none⟩ v) := by
  obtain ⟨h0, h1, hd, h2, h3⟩ := h
  exact ⟨by simpa [World.setCell] using h0, fun k k0 k1 k2 => (Below.heap_setCell _ _ _ _ (by show k ≠ gp; exact k2)).trans (h1 k k0 k1 k2), _, h2.set q v, by simpa using h3⟩
end

set_option maxRecDepth 100000 in
set_option maxHeartbeats 8000000 in
theorem Play_ok (p l C B N r : Nat) (f : M.Fmt) (lo g : Nat → Nat) (L : Nat → List Int) (lo' hi' : Nat) (X : Nat → Nat → Nat → Int) (v : Value) (w : World) (hF : Sb f C B N r) (he : Dec p l C B f lo g L w) (hv : B3 .i32 lo' hi' v C N B X w) (hX : ∀ c, Qnt.F32 (X c)) (hh : hi' ≤ w.heap.size) (hg : ∀ c, c < C → g c < lo' ∨ hi' ≤ g c) :
    Calls Tryz.prog 33 #[.pointer (some ⟨p, 0, none⟩), v] w fun e w' => ∃ u, e = .returned (.tuple #[u, .int .i64 0]) ∧ Reads .i16 w.heap.size w'.heap.size w' u (M.wov C (N * B) ((List.range C).map fun c => M.jsm B (X c) (L c) N)) ∧ Dec p l C B f lo g (fun c => M.jst B (X c) (L c) N) w' ∧ Lns g C w w' := by
  have n16 := hF.n16
  have c2 := hF.c2
  have b8 := hF.b8
  have hpl := he.lt
  have hlp := he.lp
  have h1 : Calls Tryz.prog 43 #[fv f, v] w fun e w' => e = .returned (.bool true) ∧ Below w.heap.size w w' :=
    (arePlanes_any hi' f _ C (fun _ => N) (fun _ _ => B) w hv.v3.l3 hh (by omega) (fun i hi => ⟨by omega, fun j hj => by omega⟩)).mono fun e w' ⟨q, he, hb', hq⟩ => ⟨by rw [he, hq.2 ⟨hF.hC.symm, fun i _ => ⟨hF.hN.symm, fun j _ => hF.hB.symm⟩⟩], hb'⟩
  obtain ⟨vb, vo, vc, rfl, hvc, hv0, hv1, hvr⟩ := hv
  have hjn : ∀ q wr, q < C → Lns g C w wr → Joi (lo q) (g q) B (L q) wr → ∃ u, (∀ wx : World, wx.heap[vb]? = wr.heap[vb]? → wx.cell? ⟨vb, vo + q, none⟩ = some u) ∧ Calls Tryz.prog 92 #[.pointer (some ⟨g q + 1, 0, none⟩), u] wr fun e w2 => ∃ b2, e = .returned b2 ∧ (∃ a n c, b2 = .slice a n c) ∧ Joi (lo q) (g q) B (M.jst B (X q) (L q) N) w2 ∧ But (g q) wr w2 ∧ Reads .i16 wr.heap.size w2.heap.size w2 b2 (M.jsm B (X q) (L q) N) := by
    intro q wr hq hl hj
    obtain ⟨u, hu, hb2⟩ := hvr q hq
    have hlow := he.joi.low
    have hpz := he.lt
    have kp : ∀ k, lo' ≤ k → k < hi' → wr.heap[k]? = w.heap[k]? := fun k k0 k1 => hl.block k (by omega) fun c hc e => by have := hg c hc; omega
    refine ⟨u, fun wx hk => (cell_keep (hk.trans (kp vb hv0 hv1))).trans hu, (join_any (lo q) (g q) B N lo' hi' (X q) (L q) u wr b8 (by omega) (by omega) hj (hb2.keep kp) (hX q) (by have := hl.size; omega) (hg q hq)).mono ?_⟩
    rintro e w2 ⟨b2, rfl, k1, k2, k3⟩
    have hr := Poly.reads_own (k := .i16) (t := 182) (v := b2) (zs := M.jsm B (X q) (L q) N) (by rw [M.jsm_length]; exact k3) (Poly.fit16.2 (M.jsm_fits _ _ _ _))
    obtain ⟨a, c, hf⟩ := hr.form
    exact ⟨b2, rfl, ⟨a, _, c, hf⟩, k1, k2, hr⟩
  have HJn : Hid _ := hjn
  have hwv : ∀ wr gp, Pld p l C B N gp C f lo g L X w wr → Calls Tryz.prog 93 #[.slice (some ⟨gp, 0, none⟩) C C] wr fun e w3 => ∃ a n c, e = .returned (.tuple #[.slice a n c, .int .i64 0]) ∧ Reads .i16 wr.heap.size w3.heap.size w3 (.slice a n c) (M.wov C (N * B) ((List.range C).map fun c => M.jsm B (X c) (L c) N)) ∧ Dec p l C B f lo g (fun c => M.jst B (X c) (L c) N) w3 ∧ Lns g C w w3 := by
    intro wr gp hp
    have hNB2 : N * B ≤ 128 := by have := Nat.mul_le_mul (show N ≤ 16 by omega) (show B ≤ 8 by omega); omega
    have hget : ∀ k, ((List.range C).map fun c => M.jsm B (X c) (L c) N).getD k [] = if k < C then M.jsm B (X k) (L k) N else [] := fun k => by
      by_cases h : k < C
      · rw [if_pos h, List.getD_eq_getElem?_getD, List.getElem?_map, List.getElem?_range h]; rfl
      · rw [if_neg h, List.getD_eq_getElem?_getD, List.getElem?_eq_none (by simp; omega)]; rfl
    refine (Pcm.Weave_ok gp wr.heap.size C (N * B) _ _ wr hp.rows (Nat.le_refl _) c2 (by simp) (fun k hk => by rw [hget, if_pos hk, M.jsm_length]) (fun k => ?_) (by omega)).mono ?_
    · rw [hget]; split
      · exact M.jsm_fits _ _ _ _
      · intro z hz; cases hz
    · rintro e w3 ⟨v3, rfl, hr, hb⟩
      obtain ⟨a, c, rfl⟩ := hr.form
      have hd := hp.dec.below hb hp.dec.lt
      refine ⟨a, _, c, rfl, hr, ⟨hd.obj, ⟨hd.joi.top, fun c hc => ?_, hd.joi.low, hd.joi.ord⟩, hd.lp⟩, hp.lns.below hb⟩
      have := hd.joi.obj c hc
      simp only [hc, if_true] at this
      exact this
  have HWv : Hid _ := hwv
  have HOb : Hid (∀ wx, Below w.heap.size w wx → Blk wx p (oc f (.slice (some ⟨l, 0, none⟩) C C)) 179) := fun wx hb => blk_below hb he.obj hpl
  have HSt : Hid (∀ w3, Below w.heap.size w w3 → Pld p l C B N w3.heap.size 0 f lo g L X w (w3.alloc (.cells (nils C) 55))) := fun w3 hb => Pld.start he hb
  have x0 := he.obj
  have HJ0 : Hid (Jois l p C B lo g L w) := he.joi
  have HgV : Hid (∀ c, c < C → g c < lo' ∨ hi' ≤ g c) := hg
  have hN := hF.hN
  have hC := hF.hC
  have hBB := hF.hB
  clear hjn hwv hF he hg hX hvr
  obtain ⟨c_, r_, h_, b_, k_, m_, j_, p_, l_, y_⟩ := f
  obtain rfl : h_ = C := hC
  obtain rfl : b_ = B := hBB
  obtain rfl : k_ = N := hN
  unfold fv at h1
  dsimp only at h1
  have xs := oc_cells x0; dsimp only at xs; obtain ⟨x0, x1, x2, x3, x4, x5, x6, x7, x8, x9, x10⟩ := xs
  have hmk := fun wx => mkR16 wx C (by omega)
  obtain ⟨cs, hcs⟩ : ∃ cs, nils C = cs := ⟨_, rfl⟩
  rw [hcs] at HSt
  simp only [hcs] at hmk
  clear hcs
  have i1 : (0 : Int) < C := by omega
  have i2 : (C : Int) ≤ 2 := by omega
  have i3 : 0 < C := by omega
  have i4 : (0 : Int) ≤ C := by omega
  go_enter Tryz.func33, Tryz.ntmps33
  go_wp2_with (first
    | (go_at_call 43; refine h1.mono ?_; clear h1; rintro e w2 ⟨rfl, b2⟩; clear x0 x1 x2 x3 x4 x5 x6 x7 x8 x9 x10; have xs := oc_cells (HOb.out w2 b2); dsimp only at xs; obtain ⟨x0, x1, x2, x3, x4, x5, x6, x7, x8, x9, x10⟩ := xs; have B2 : Hid (Below w.heap.size w w2) := b2; have S0 : Hid (Pld _ _ _ _ _ _ _ _ _ _ _ _ _ _) := HSt.out w2 b2; have y10 := (oc_cells S0.out.dec.obj).2.2.2.2.2.2.2.2.2.2; clear b2 HSt))
  have hb2 := B2.out
  have z2 := hb2.size
  clear x0 x1 x2 x3 x4 x5 x6 x7 x8 x9 x10 y10 hmk
  go_loopw [26] (fun i wr => ∃ q : Nat, q ≤ C ∧ i = .int .i64 q ∧ Pld p l C B N w2.heap.size q ⟨c_, r_, C, B, N, m_, j_, p_, l_, y_⟩ lo g L X w wr) (fun i _ => C - (intOf i).toNat)
  case atStart => exact ⟨0, by omega, rfl, S0.out⟩
  case round =>
    clear S0
    obtain ⟨q, hq, rfl, hf⟩ := hrel
    have HF : Hid _ := hf
    by_cases hlt : q < C
    · have hlt' : (q : Int) < C := by omega
      have t9 : wr.cell? ⟨l, q, none⟩ = some (.pointer (some ⟨g q + 1, 0, none⟩)) := hf.dec.joi.top' hlt
      have spq : Joi (lo q) (g q) B (L q) wr := by
        have := hf.dec.joi.obj q hlt
        simp only [Nat.lt_irrefl, if_false] at this
        exact this
      obtain ⟨u, hu, hcall⟩ := HJn.out q wr hlt hf.lns spq
      have c9 := hu wr rfl
      have HC : Hid (Calls _ _ _ _ _) := hcall
      have hgq := hf.dec.gl hlt
      have hgp := hf.gp
      have htp : ∀ w5, But (g q) wr w5 → (∃ uu, w5.cell? ⟨w2.heap.size, q, none⟩ = some uu) ∧ w5.frozen? ⟨w2.heap.size, q, none⟩ = false := fun w5 hb => by
        obtain ⟨hd, k1, k2, _⟩ := hf.top
        have k3 : Blk w5 w2.heap.size hd 55 := hb.blk k1 (by omega)
        exact ⟨⟨hd[q]'(by omega), k3.cell (by simp [k2, hlt])⟩, k3.free q⟩
      have HTp : Hid _ := htp
      clear hf spq hu hcall htp
      go_wp2_with (first
        | (go_at_call 92; refine HC.out.mono ?_; clear HC; rintro e w5 ⟨u5, rfl, ⟨a5, n5, c5, rfl⟩, k1, k2, k3⟩; obtain ⟨⟨uu, hu⟩, hfz⟩ := HTp.out w5 k2; have HS : Hid (Pld _ _ _ _ _ _ _ _ _ _ _ _ _ _) := HF.out.step hlt k2 k1 k3 z2; clear k1 k2 k3))
      go_roundw
      case rel => exact ⟨q + 1, by omega, by go_num, HS.out⟩
      case measure => simp [intOf]; omega
    · obtain rfl : C = q := by omega
      have hcall := HWv.out wr w2.heap.size hf
      have HC : Hid (Calls _ _ _ _ _) := hcall
      clear hf hcall HWv
      go_wp2_with (go_at_call 93; refine HC.out.mono ?_; clear HC; rintro e w5 ⟨a5, n5, c5, rfl, k1, k2, k3⟩; have HR : Hid (Reads _ _ _ _ _ _) := k1; have HD : Hid _ := k2; have HL : Hid _ := k3; clear k1 k2 k3)
      go_ret2
      exact ⟨_, rfl, HR.out.mono (by have := HF.out.lns.size; omega) (Nat.le_refl _), HD.out, HL.out⟩

end Sub
end Go.Proofs.YtcaifpjbjghhaaaGreatDoor

/-
  Same of parameters and themselves. Conditions: as told at each.
-/
namespace Go.Proofs.YtcaifpjbjghhaaaGreatDoor
set_option linter.unusedVariables false
open Go.RowKit
namespace Sub
open Bank (Blk But)
open Poly (Reads cell_keep alloc_size)
open _root_.Go.Proofs.YtcaifpjbjghhaaaGreatDoor.Form (fv fc bel1 blk_below of_drew)

set_option maxRecDepth 100000 in
set_option maxHeartbeats 2000000 in
theorem equal_self (hi n : Nat) (v : Value) (f : Nat → Int) (w : World) (h : V1 .i64 hi v n f w) (hn : n ≤ 65536) :
    Calls Tryz.prog 96 #[v, v] w fun e w' => e = .returned (.bool true) ∧ ∃ m, w' = w.drewN m := by
  obtain ⟨b, o, c, rfl, hc, hb, hx⟩ := h
  go_enter Tryz.func96, Tryz.ntmps96
  go_wp2
  go_loopw [13] (fun i wr => ∃ k m : Nat, k ≤ n ∧ i = .int .i64 k ∧ wr = w.drewN m) (fun i _ => n - (intOf i).toNat)
  case atStart => exact ⟨0, 0, by omega, rfl, rfl⟩
  case round =>
    obtain ⟨k, m, hk, rfl, rfl⟩ := hrel
    by_cases hlt : k < n
    · have i1 : (k : Int) < n := by omega
      have c1 : w.cell? ⟨b, o + k, none⟩ = some (.int .i64 (f k)) := hx k hlt
      clear hx
      go_wp2
      go_region
      go_wp2
      go_roundw
      case rel => exact ⟨k + 1, m + 1, by omega, by go_num, rfl⟩
      case measure => simp [intOf]; omega
    · obtain rfl : k = n := by omega
      clear hx
      go_wp2
      go_ret
      exact ⟨rfl, _, rfl⟩

set_option maxRecDepth 100000 in
set_option maxHeartbeats 2000000 in
theorem eqRows_self (hi n C : Nat) (v : Value) (F : Nat → Nat → Int) (w : World) (h : V2 .i64 hi v n C F w) (hn : n ≤ 65536) (hC : C ≤ 65536) :
    Calls Tryz.prog 155 #[v, v, .func (.func 96) #[] #[]] w fun e w' => e = .returned (.bool true) ∧ ∃ m, w' = w.drewN m := by
  obtain ⟨b, o, c, rfl, hc, hb, hx⟩ := h
  have hcall : ∀ k, k < n → ∃ a d, w.cell? ⟨b, o + k, none⟩ = some (.slice a C d) ∧ ∀ m, Calls Tryz.prog 96 #[.slice a C d, .slice a C d] (w.drewN m) fun e w' => e = .returned (.bool true) ∧ ∃ m', w' = w.drewN m' := fun k hk => by
    obtain ⟨u, hu, hv⟩ := hx k hk
    obtain ⟨b1, o1, c1, rfl, h1⟩ := id hv
    refine ⟨_, _, hu, fun m => (equal_self hi C _ (F k) (w.drewN m) hv hC).mono ?_⟩
    rintro e w' ⟨rfl, m', rfl⟩
    exact ⟨rfl, m + m', by rw [World.drewN_drewN]⟩
  have HCl : Hid _ := hcall
  clear hcall hx
  go_enter Tryz.func155, Tryz.ntmps155
  go_wp2
  go_loopw [17] (fun i wr => ∃ k m : Nat, k ≤ n ∧ i = .int .i64 k ∧ wr = w.drewN m) (fun i _ => n - (intOf i).toNat)
  case atStart => exact ⟨0, 0, by omega, rfl, rfl⟩
  case round =>
    obtain ⟨k, m, hk, rfl, rfl⟩ := hrel
    by_cases hlt : k < n
    · have i1 : (k : Int) < n := by omega
      obtain ⟨a1, d1, c1, hcl⟩ := HCl.out k hlt
      have HC : Hid (∀ m, Calls _ _ _ (w.drewN m) _) := hcl
      clear hcl
      go_wp2_with (go_at_call 96; refine (HC.out _).mono ?_; rintro e w3 ⟨rfl, m3, rfl⟩)
      go_roundw
      case rel => exact ⟨k + 1, m3, by omega, by go_num, rfl⟩
      case measure => simp [intOf]; omega
    · obtain rfl : k = n := by omega
      go_wp2
      go_ret
      exact ⟨rfl, _, rfl⟩

set_option maxRecDepth 100000 in
set_option maxHeartbeats 2000000 in
theorem sameRows_self (hi n C : Nat) (v : Value) (F : Nat → Nat → Int) (w : World) (h : V2 .i64 hi v n C F w) (hn : n ≤ 65536) (hC : C ≤ 65536) :
    Calls Tryz.prog 97 #[v, v] w fun e w' => e = .returned (.bool true) ∧ ∃ m, w' = w.drewN m := by
  have hc := fun wx (h : V2 .i64 hi v n C F wx) => eqRows_self hi n C v F wx h hn hC
  have hq := hc w h
  obtain ⟨b, o, c, rfl, _⟩ := h
  clear hc
  go_enter Tryz.func97, Tryz.ntmps97
  go_wp2_with (go_at_call 155; refine hq.mono ?_; rintro e w3 ⟨rfl, m3, rfl⟩)
  go_ret
  exact ⟨rfl, _, rfl⟩

set_option maxRecDepth 100000 in
set_option maxHeartbeats 2000000 in
theorem eqCodes_self (hi n N C : Nat) (v : Value) (F : Nat → Nat → Nat → Int) (w : World) (h : V3 .i64 hi v n N C F w) (hn : n ≤ 65536) (hN : N ≤ 65536) (hC : C ≤ 65536) :
    Calls Tryz.prog 98 #[v, v, .func (.func 97) #[] #[]] w fun e w' => e = .returned (.bool true) ∧ ∃ m, w' = w.drewN m := by
  obtain ⟨b, o, c, rfl, hc, hb, hx⟩ := h
  have hcall : ∀ k, k < n → ∃ a d, w.cell? ⟨b, o + k, none⟩ = some (.slice a N d) ∧ ∀ m, Calls Tryz.prog 97 #[.slice a N d, .slice a N d] (w.drewN m) fun e w' => e = .returned (.bool true) ∧ ∃ m', w' = w.drewN m' := fun k hk => by
    obtain ⟨u, hu, hv⟩ := hx k hk
    obtain ⟨b1, o1, c1, rfl, h1⟩ := id hv
    refine ⟨_, _, hu, fun m => (sameRows_self hi N C _ (F k) (w.drewN m) hv hN hC).mono ?_⟩
    rintro e w' ⟨rfl, m', rfl⟩
    exact ⟨rfl, m + m', by rw [World.drewN_drewN]⟩
  have HCl : Hid _ := hcall
  clear hcall hx
  go_enter Tryz.func98, Tryz.ntmps98
  go_wp2
  go_loopw [17] (fun i wr => ∃ k m : Nat, k ≤ n ∧ i = .int .i64 k ∧ wr = w.drewN m) (fun i _ => n - (intOf i).toNat)
  case atStart => exact ⟨0, 0, by omega, rfl, rfl⟩
  case round =>
    obtain ⟨k, m, hk, rfl, rfl⟩ := hrel
    by_cases hlt : k < n
    · have i1 : (k : Int) < n := by omega
      obtain ⟨a1, d1, c1, hcl⟩ := HCl.out k hlt
      have HC : Hid (∀ m, Calls _ _ _ (w.drewN m) _) := hcl
      clear hcl
      go_wp2_with (go_at_call 97; refine (HC.out _).mono ?_; rintro e w3 ⟨rfl, m3, rfl⟩)
      go_roundw
      case rel => exact ⟨k + 1, m3, by omega, by go_num, rfl⟩
      case measure => simp [intOf]; omega
    · obtain rfl : k = n := by omega
      go_wp2
      go_ret
      exact ⟨rfl, _, rfl⟩

/-- the three parts are read -/
theorem Same_self (hi C B N : Nat) (vj vs vc : Value) (J : Nat → Int) (S : Nat → Nat → Int) (Q : Nat → Nat → Nat → Int) (w : World) (hj : V1 .i64 hi vj B J w) (hs : V2 .i64 hi vs C B S w) (hc : V3 .i64 hi vc N C B Q w) (hh : hi ≤ w.heap.size) (hB : B ≤ 65536) (hC : C ≤ 65536) (hN : N ≤ 65536) :
    Calls Tryz.prog 38 #[pa vj vs vc, pa vj vs vc] w fun e w' => e = .returned (.bool true) ∧ Below w.heap.size w w' := by
  have b1 : Below w.heap.size w (w.alloc (.cells #[vj, vs, vc] 33)) := bel1 _ _
  have b2 : Below w.heap.size w ((w.alloc (.cells #[vj, vs, vc] 33)).alloc (.cells #[vj, vs, vc] 33)) := b1.alloc b1.size _
  have k1 : Blk ((w.alloc (.cells #[vj, vs, vc] 33)).alloc (.cells #[vj, vs, vc] 33)) w.heap.size #[vj, vs, vc] 33 := (Blk.new w _ _).alloc _
  have k2 : Blk ((w.alloc (.cells #[vj, vs, vc] 33)).alloc (.cells #[vj, vs, vc] 33)) (w.heap.size + 1) #[vj, vs, vc] 33 := by
    have := Blk.new (w.alloc (.cells #[vj, vs, vc] 33)) #[vj, vs, vc] 33
    rw [alloc_size] at this
    exact this
  obtain ⟨W, hW⟩ : ∃ W, (w.alloc (.cells #[vj, vs, vc] 33)).alloc (.cells #[vj, vs, vc] 33) = W := ⟨_, rfl⟩
  have hJ : ∀ m, V1 .i64 w.heap.size vj B J (W.drewN m) → True := fun _ _ => trivial
  obtain ⟨aj, oj, cj, rfl, _⟩ := id hj
  obtain ⟨az, oz, cz, rfl, _⟩ := id hs
  obtain ⟨ac, oc, cc, rfl, _⟩ := id hc
  clear hJ
  rw [hW] at b2 k1 k2
  have bm : ∀ m, Below w.heap.size w (W.drewN m) := fun m => ⟨b2.os, b2.tape, b2.output, b2.size, b2.block⟩
  have g1 : ∀ m, V1 .i64 hi (.slice (some ⟨aj, oj, none⟩) B cj) B J (W.drewN m) := fun m => hj.below (bm m) hh
  have g2 : ∀ m, V2 .i64 hi (.slice (some ⟨az, oz, none⟩) C cz) C B S (W.drewN m) := fun m => hs.below (bm m) hh
  have g3 : ∀ m, V3 .i64 hi (.slice (some ⟨ac, oc, none⟩) N cc) N C B Q (W.drewN m) := fun m => hc.below (bm m) hh
  have h1 := fun m => equal_self hi B _ J (W.drewN m) (g1 m) hB
  have h2 := fun m => sameRows_self hi C B _ S (W.drewN m) (g2 m) hC hB
  have h3 := fun m => eqCodes_self hi N C B _ Q (W.drewN m) (g3 m) hN hC hB
  have H1 : Hid (∀ m, Calls _ _ _ (W.drewN m) _) := h1
  have H2 : Hid (∀ m, Calls _ _ _ (W.drewN m) _) := h2
  have H3 : Hid (∀ m, Calls _ _ _ (W.drewN m) _) := h3
  have HB : Hid (Below w.heap.size w W) := b2
  have x0 := k1.cell (o := 0) rfl
  have x1 := k1.cell (o := 1) rfl
  have x2 := k1.cell (o := 2) rfl
  have y0 := k2.cell (o := 0) rfl
  have y1 := k2.cell (o := 1) rfl
  have y2 := k2.cell (o := 2) rfl
  clear bm g1 g2 g3 h1 h2 h3 b1 b2 k1 k2 hj hs hc
  unfold pa
  go_enter Tryz.func38, Tryz.ntmps38
  go_wp2_with (first
    | (go_at_call 96; refine (H1.out 0).mono ?_; clear H1; rintro e w3 ⟨rfl, m1, rfl⟩)
    | (go_at_call 97; refine (H2.out _).mono ?_; clear H2; rintro e w3 ⟨rfl, m2, rfl⟩)
    | (go_at_call 98; refine (H3.out _).mono ?_; clear H3; rintro e w3 ⟨rfl, m3, rfl⟩))
  go_ret
  exact ⟨rfl, HB.out.os, HB.out.tape, HB.out.output, HB.out.size, HB.out.block⟩

end Sub
end Go.Proofs.YtcaifpjbjghhaaaGreatDoor

/-
  Contract of an encoder's Reset; samples that are copied into a new block. Conditions: as told at each.
-/
namespace Go.Proofs.YtcaifpjbjghhaaaGreatDoor
set_option linter.unusedVariables false
open Go.RowKit
namespace Sub
open Bank (Blk But)
open Poly (Reads cell_keep alloc_size Spl Joi enc enc_length enc_get add_off enc_one fit16)
open _root_.Go.Proofs.YtcaifpjbjghhaaaGreatDoor.Form (fv fc bel1 box_cells blk_below of_drew)

theorem Enc.fed {p l C B : Nat} {f : M.Fmt} {lo g : Nat → Nat} {L L' : Nat → List Int} {w w2 : World} {q : Nat} {xs : List Int} (h : Enc p l C B f lo g L w) (hq : q < C) (hb : But (g q) w w2) (hx : Spl (lo q) (g q) B xs w2) (hL : L' q = xs) (ho : ∀ c, c ≠ q → L' c = L c) : Enc p l C B f lo g L' w2 :=
  ⟨hb.blk h.obj (by have := h.gl hq; omega), h.spl.fed hq hb hx hL ho, h.lp⟩

set_option maxRecDepth 100000 in
set_option maxHeartbeats 1000000 in
theorem EncReset_ok (p l C B : Nat) (f : M.Fmt) (lo g : Nat → Nat) (L : Nat → List Int) (w : World) (he : Enc p l C B f lo g L w) (C2 : C ≤ 2) (B1 : 1 ≤ B) :
    Calls Tryz.prog 37 #[.pointer (some ⟨p, 0, none⟩)] w fun e w' => e = .returned (.tuple #[]) ∧ Enc p l C B f lo g (fun _ => List.replicate (10 * B) 0) w' ∧ Lns g C w w' := by
  have xs := oc_cells he.obj
  obtain ⟨x0, x1, x2, x3, x4, x5, x6, x7, x8, x9, x10⟩ := xs
  have HE : Hid (Enc p l C B f lo g (fun c => if c < 0 then List.replicate (10 * B) 0 else L c) w) := he.ext fun c _ => by simp
  have i1 : (C : Int) ≤ 2 := by omega
  have i2 : (0 : Int) ≤ C := by omega
  clear he
  go_enter Tryz.func37, Tryz.ntmps37
  go_wp2
  go_loopw [11] (fun i wr => ∃ q : Nat, q ≤ C ∧ i = .int .i64 q ∧ Enc p l C B f lo g (fun c => if c < q then List.replicate (10 * B) 0 else L c) wr ∧ Lns g C w wr) (fun i _ => C - (intOf i).toNat)
  case atStart => exact ⟨0, by omega, rfl, HE.out, Lns.refl _ _ _⟩
  case round =>
    clear HE x0 x1 x2 x3 x4 x5 x6 x7 x8 x9 x10
    obtain ⟨q, hq, rfl, he, hl⟩ := hrel
    by_cases hlt : q < C
    · have hlt' : (q : Int) < C := by omega
      have t9 : wr.cell? ⟨l, q, none⟩ = some (.pointer (some ⟨g q + 1, 0, none⟩)) := he.spl.top' hlt
      have spq : Spl (lo q) (g q) B (L q) wr := by
        have := he.spl.obj q hlt
        simp only [Nat.lt_irrefl, if_false] at this
        exact this
      have hrs := Poly.splitReset (lo q) (g q) B (L q) wr spq B1
      have hnx : ∀ w2, Spl (lo q) (g q) B (List.replicate (10 * B) 0) w2 → But (g q) wr w2 → Enc p l C B f lo g (fun c => if c < q + 1 then List.replicate (10 * B) 0 else L c) w2 ∧ Lns g C w w2 := fun w2 k1 k2 =>
        ⟨he.fed hlt k2 k1 (by simp) fun c hc => by
          by_cases e : c < q
          · rw [if_pos e, if_pos (by omega)]
          · rw [if_neg e, if_neg (by omega)], hl.trans (Lns.of_but k2 hlt)⟩
      have HNx : Hid _ := hnx
      clear he hl spq hnx
      go_wp2_with (go_at_call 95; refine hrs.mono ?_; clear hrs; rintro e w2 ⟨rfl, k1, k2⟩; obtain ⟨e2, l2⟩ := HNx.out w2 k1 k2; have E2 : Hid (Enc _ _ _ _ _ _ _ _ _) := e2; have L2 : Hid (Lns _ _ _ _) := l2; clear k1 k2 e2 l2)
      go_roundw
      case rel => exact ⟨q + 1, by omega, by go_num, E2.out, L2.out⟩
      case measure => simp [intOf]; omega
    · obtain rfl : C = q := by omega
      have E2 : Hid (Enc p l C B f lo g (fun _ => List.replicate (10 * B) 0) wr) := he.ext fun c hc => by simp [hc]
      have L2 : Hid (Lns g C w wr) := hl
      clear he hl
      go_wp2
      go_end0
      exact ⟨rfl, E2.out, L2.out⟩

/-- what is left of a list that is read -/
theorem Reads.rest {k : IntKind} {lo hi L c b off : Nat} {w : World} {zs : List Int} (h : Reads k lo hi w (.slice (some ⟨b, off, none⟩) L c) zs) {a : Nat} (ha : a < L) : Reads k lo hi w (.slice (some ⟨b, off + a, none⟩) (L - a) (c - a)) (zs.drop a) := by
  obtain ⟨a', c', he, hc, hw, hx⟩ := h
  cases he
  rcases hx with h0 | ⟨b', o', h1, h2, h3, h4⟩
  · rw [h0] at ha; simp at ha
  · cases h1
    have hl : (zs.drop a).length = zs.length - a := by simp
    refine ⟨_, c - a, by rw [hl], by rw [hl]; omega, fun z hz => hw z (List.mem_of_mem_drop hz), .inr ⟨b, off + a, rfl, h2, h3, fun j hj => ?_⟩⟩
    rw [hl] at hj
    have := h4 (a + j) (by omega)
    rw [← Nat.add_assoc] at this
    rw [this]
    congr 2
    rw [List.getD_eq_getElem?_getD, List.getD_eq_getElem?_getD, List.getElem?_drop]
theorem sp_tk (N k : Nat) (q : List Int) (hk : k = min q.length N) : splice (enc .i16 (List.replicate N 0)) 0 (enc .i16 (q.take k)) = enc .i16 (M.tk N q) := by
  unfold splice
  have e : enc .i16 (q.take k) ++ (enc .i16 (List.replicate N 0)).drop (0 + (enc .i16 (q.take k)).length) = enc .i16 (q.take k ++ (List.replicate N 0).drop k) := by
    rw [enc_length, List.length_take, show min k q.length = k by omega]
    simp [enc]
  rw [e, List.take_zero, List.nil_append]
  congr 1
  refine M.eq_of_getD (by rw [M.tk_length]; simp; omega) fun i hi => ?_
  simp at hi
  rw [M.getD_append, M.tk_get (by omega)]
  split
  · rename_i h; simp at h; rw [M.getD_take (by omega)]
  · rename_i h
    simp at h
    rw [List.drop_replicate, M.getD_rep, M.getD_out (by omega)]
/-- copied into a new block of n samples -/
theorem copy_tk {wr : World} {g n lo hi b off m c : Nat} {q : List Int} (h : Blk wr g (enc .i16 (List.replicate n 0)).toArray 182) (hq : Reads .i16 lo hi wr (.slice (some ⟨b, off, none⟩) m c) q) (hm : 0 < m) :
    ∃ k : Nat, ∀ ty : TypeId, (Builtin.copy_ #[55, 55] ty #[.slice (some ⟨g, 0, none⟩) n n, .slice (some ⟨b, off, none⟩) m c]).run Tryz.prog wr = .ok (goInt k) (wr.setRow g (enc .i16 (M.tk n q)).toArray) := by
  have hlq : q.length = m := by obtain ⟨_, _, he, _⟩ := hq; cases he; rfl
  obtain ⟨b', o', he, q0, q1, hcx⟩ := hq.cell (by omega)
  cases he
  refine ⟨(enc .i16 (q.take (min m n))).length, fun ty => ?_⟩
  have hcp := run_copy_row (P := Tryz.prog) wr 55 55 ty 182 g 0 n n ⟨b, off, none⟩ m c _ 182 (enc .i16 (q.take (min m n))) Tryz.underlying55 (by kernel_rfl) h
    (by rw [enc_length, List.length_take, hlq]; show min (min m n) m = min m n; omega) (fun j v hv => by
      rw [add_off]
      have hj : j < (q.take (min m n)).length := by have := (List.getElem?_eq_some_iff.1 hv).1; rw [enc_length] at this; exact this
      rw [enc_get hj] at hv
      rw [← Option.some.inj hv]
      have hj2 : j < min m n := by rw [List.length_take, hlq] at hj; omega
      rw [M.getD_take hj2]
      exact hcx j (by omega)) (by rw [enc_length, List.length_take, hlq]; simp [enc_length]; omega) (enc_one _ _)
  rw [hcp]
  have hs := sp_tk n (min m n) q (by rw [hlq])
  unfold splice at hs
  rw [List.append_assoc]
  rw [show (enc .i16 (List.replicate n 0)).toArray.toList = enc .i16 (List.replicate n 0) from rfl, hs]
theorem given_keep {w w' : World} {g0 n cap : Nat} {xs : List Nat} (h : Byt.Given w (.slice (some ⟨g0, 0, none⟩) n cap) xs) (hs : w.heap.size ≤ w'.heap.size) (hk : w'.heap[g0]? = w.heap[g0]?) : Byt.Given w' (.slice (some ⟨g0, 0, none⟩) n cap) xs := by
  obtain ⟨a, c, he, h1, h2, h3, h4⟩ := h
  cases he
  refine ⟨_, _, rfl, h1, h2, h3, ?_⟩
  rcases h4 with h4 | ⟨b, off, hb, hl, hx⟩
  · exact .inl h4
  · cases hb
    exact .inr ⟨g0, 0, rfl, by omega, fun i x hi => (cell_keep hk).trans (hx i x hi)⟩
theorem setRow_below {N : Nat} {a w : World} {g : Nat} (h : Below N a w) (hg : N ≤ g) (cs : Array Value) : Below N a (w.setRow g cs) := by
  refine ⟨h.os, h.tape, h.output, ?_, fun k hk => ?_⟩
  · have := h.size
    have e : (w.setRow g cs).heap.size = w.heap.size := by simp [World.setRow]
    omega
  · exact (setRow_other w g k cs (by omega)).trans (h.block k hk)

end Sub
end Go.Proofs.YtcaifpjbjghhaaaGreatDoor

/-
  The law SubAny: of any bytes the parameters play as many samples as a frame has. Conditions: the polynomial's numbers and the offsets stand as their initialisers lay them; one goroutine.
-/
namespace Go.Proofs.YtcaifpjbjghhaaaGreatDoor
set_option linter.unusedVariables false
open Go.RowKit
namespace Sub
open Bank (Blk But)
open Byt (Given)
open Poly (Reads cell_keep alloc_size Spl Joi enc)
open _root_.Go.Proofs.YtcaifpjbjghhaaaGreatDoor.Form (fv fc bel1 box_cells blk_below of_drew)

theorem laid_of (w : World) (t : ByteArray) : Below w.heap.size w (w.alloc (Byt.objOf w t)).drew := ((Below.refl _ w).alloc (Nat.le_refl _) _).drew
/-- what Parse, Planes and Same tell of any bytes -/
theorem any_steps {f : M.Fmt} {C B N r PN : Nat} (hF : Sb f C B N r) (hn : M.pay f = PN) (W : World) (u : Value) (ys : List Nat) (hT : ∀ wx, Below W.heap.size W wx → Alloc.Tabs wx) (hg : Given W u ys) (h2 : ys.length ≤ 2000) :
    Calls Tryz.prog 24 #[fv f, u] W fun e W2 => Below W.heap.size W W2 ∧ (e = .returned (.tuple #[pa (.slice none 0 0) (.slice none 0 0) (.slice none 0 0), .int .i64 140]) ∨ ∃ aj az ac, e = .returned (.tuple #[pa (.slice (some ⟨aj, 0, none⟩) B B) (.slice (some ⟨az, 0, none⟩) C C) (.slice (some ⟨ac, 0, none⟩) N N), .int .i64 0]) ∧
      (∀ W3, Below W2.heap.size W2 W3 → Calls Tryz.prog 15 #[fv f, pa (.slice (some ⟨aj, 0, none⟩) B B) (.slice (some ⟨az, 0, none⟩) C C) (.slice (some ⟨ac, 0, none⟩) N N)] W3 fun e W4 => ∃ b o c, e = .returned (.tuple #[.slice (some ⟨b, o, none⟩) C c, .int .i64 0]) ∧ Below W3.heap.size W3 W4 ∧ ∃ X, (∀ c, Qnt.F32 (X c)) ∧ B3 .i32 W3.heap.size W4.heap.size (.slice (some ⟨b, o, none⟩) C c) C N B X W4) ∧
      (∀ W3, W2.heap.size ≤ W3.heap.size → (∀ k, W.heap.size ≤ k → k < W2.heap.size → W3.heap[k]? = W2.heap[k]?) → Calls Tryz.prog 38 #[pa (.slice (some ⟨aj, 0, none⟩) B B) (.slice (some ⟨az, 0, none⟩) C C) (.slice (some ⟨ac, 0, none⟩) N N), pa (.slice (some ⟨aj, 0, none⟩) B B) (.slice (some ⟨az, 0, none⟩) C C) (.slice (some ⟨ac, 0, none⟩) N N)] W3 fun e W4 => e = .returned (.bool true) ∧ Below W3.heap.size W3 W4)) := by
  have hends := M.ends (f := f) (.inl hF.ok)
  rw [hn] at hends
  have hbit : M.bitS f ≤ 8 * (PN : Int) := by have := hends.2.2.2.2; unfold M.bitF at this; rw [if_pos hF.ok.1] at this; exact this
  have c2 := hF.c2
  have b8 := hF.b8
  have n16 := hF.n16
  by_cases hl : ys.length = PN
  · obtain ⟨sl', hS'⟩ := psc_sh (xs := ys) hF hl hn
    refine (Parse_any f C B N r PN u ys sl' W (hT W (Below.refl _ _)) hF hS' hg hl hn).mono ?_
    rintro e W3 ⟨b3, ⟨hisF, aj, az, ac, E, pf, rfl, got⟩ | ⟨_, rfl⟩⟩
    · refine ⟨b3, .inr ⟨aj, az, ac, rfl, ?_⟩⟩
      have hall := M.all_get (Bt := Bits.bitsL ys) (n := ys.length) (N := N) (sl := sl') hF (by rw [hl]; exact hbit) hS'
      have hsc := M.sc_sh (Bt := Bits.bitsL ys) (n := ys.length) (r := r) hF (by rw [hl]; exact hbit)
      have hms : (pnb f C B N r sl' ys).s = psc f C B ys := hall.1
      have hread : M.Read f C B N r sl' (Bits.bitsL ys) (pnb f C B N r sl' ys) := hall.2
      obtain ⟨hok, _⟩ := hisF
      obtain ⟨PM, hPM⟩ : ∃ PM, pnb f C B N r sl' ys = PM := ⟨_, rfl⟩
      have hokm : okM f C B N r sl' PM := by rw [← hPM]; exact hok
      rw [hPM] at got hms hread
      have hj : ∀ b, b < B → -9223372036854775808 ≤ PM.j b ∧ PM.j b ≤ 9223372036854775807 := fun b hb => by
        rw [hread.j b hb]
        have := M.fv_lt (Bits.bitsL ys) (32 + b) 1
        split <;> omega
      have hZ : ∀ c, c < C → ∀ b, b < B → 0 ≤ PM.s c b ∧ PM.s c b ≤ 15 := by rw [hms]; exact hsc.1
      have hSP : Sh f C B r PM.s sl' := by rw [hms]; exact hS'
      have gh := got.hi
      have ok4 : (lay aj az ac B C N pf).ok W3.heap.size C B N := lay_ok gh.1 gh.2.1 gh.2.2 got.ap.e got.made.q.lo
      have sees3 := got.made.sees
      have sees : ∀ wx, Below W3.heap.size W3 wx → Sees (lay aj az ac B C N pf) C B N PM wx := fun wx hb => sees3.keep ok4 fun k hk => hb.block k hk
      have hT4 : ∀ wx, Below W3.heap.size W3 wx → Alloc.Tabs wx := fun wx hb => hT wx (b3.trans (hb.mono b3.size))
      refine ⟨fun W5 b35 => ?_, fun W5 hs hk => ?_⟩
      · have hs5 := sees W5 b35
        have hr : ∀ wx, Below W5.heap.size W5 wx → Calls Tryz.prog 52 #[fv f, pa (.slice (some ⟨aj, 0, none⟩) B B) (.slice (some ⟨az, 0, none⟩) C C) (.slice (some ⟨ac, 0, none⟩) N N)] wx fun e w' => e = .returned (.int .i64 0) ∧ Below wx.heap.size wx w' := fun wx hb => by
          have hbx : Below W3.heap.size W3 wx := b35.trans (hb.mono b35.size)
          have hsx := sees wx hbx
          refine (refuse_laid W3.heap.size f C B N r (rl B PM.j) PM.q PM.s sl' _ _ _ wx (hT4 wx hbx) hF hSP ((hsx.v1 ok4).reads' fun j hj' => wf64.2 (hj j hj')) (hsx.v2 ok4) (hsx.v3 ok4) hbx.size (by rw [rl_length]; omega) hZ).mono ?_
          rintro e w' ⟨h1, ⟨h2, _⟩ | ⟨_, h2⟩⟩
          · exact ⟨h2, h1⟩
          · exact absurd hokm h2
        refine (Planes_ok W3.heap.size f C B N r _ _ _ PM sl' W5 (hT4 W5 b35) hF hSP (hs5.v1 ok4) (hs5.v2 ok4) (hs5.v3 ok4) b35.size hZ hr).mono ?_
        rintro e W6 ⟨v6, rfl, b6, h6⟩
        obtain ⟨b, o, c, rfl, _⟩ := id h6
        exact ⟨b, o, c, rfl, b6, _, M.plY_32 f C B N r sl' PM, h6⟩
      · have gl := got.lo
        have hs5 := (got.made.keep (w' := W5) got.ap (L := W.heap.size) (H := W3.heap.size) ⟨by omega, by omega⟩ ⟨by omega, by omega⟩ ⟨by omega, by omega⟩ fun k k0 k1 => hk k k0 k1).sees
        exact Same_self W3.heap.size C B N _ _ _ PM.j PM.s PM.q W5 (hs5.v1 ok4) (hs5.v2 ok4) (hs5.v3 ok4) hs (by omega) (by omega) (by omega)
    · exact ⟨b3, .inl rfl⟩
  · obtain ⟨va, vc, rfl, _⟩ := hg.form
    refine (Parse_len f va ys.length vc W hF.ok (by rw [hn]; omega) (by omega)).mono ?_
    rintro e W3 ⟨rfl, b3⟩
    exact ⟨b3, .inl rfl⟩

set_option maxRecDepth 100000 in
set_option maxHeartbeats 1000000 in
/-- no format of Sub -/
theorem any_none (f : M.Fmt) (s : ByteArray) (w : World) (hT : Wave.Tab w ∧ Alloc.Tabs w) (hl : s.size ≤ 2000) (hn : ¬ M.okS f) :
    Calls Tryz.prog 9 #[fv f, .string s] w fun e w' => e = .returned (.bool true) ∧ Below w.heap.size w w' := by
  have g2 : ¬ (2000 : Int) < s.size := by omega
  have bel := bel1 w (.cells (fc f) 23)
  have hal := alive_any (w.alloc (.cells (fc f) 23)) (Bank.tab_below bel (Nat.le_refl _) hT.1) (hT.2.below bel (Nat.le_refl _))
  have HB : Hid (Below w.heap.size w _) := bel
  have hnw := fun wx => Bank.new_any wx
  have HNw : Hid (∀ wx, Calls _ _ _ wx _) := hnw
  have hne := fun b wx => NewDecoder_no (.pointer (some ⟨b, 0, none⟩)) ⟨_, rfl⟩ f 110 (by decide) wx fun wy => ofJoiner_form _ ⟨_, rfl⟩ f wy hn
  have HNe : Hid (∀ b wx, Calls _ _ _ wx _) := hne
  have hcl : ∀ wx, Below (w.alloc (.cells (fc f) 23)).heap.size (w.alloc (.cells (fc f) 23)) wx → Blk wx w.heap.size (fc f) 23 := fun wx hb => blk_below hb (Blk.new w _ _) (by simp)
  have HCl : Hid _ := hcl
  clear hnw hne hcl hT bel hn
  obtain ⟨c_, r_, h_, b_, k_, m_, j_, p_, l_, y_⟩ := f
  unfold fv at HNe
  unfold fv
  dsimp only at HNe ⊢
  obtain ⟨W1, hW1⟩ : ∃ W1, w.alloc (.cells (fc ⟨c_, r_, h_, b_, k_, m_, j_, p_, l_, y_⟩) 23) = W1 := ⟨_, rfl⟩
  rw [hW1] at hal HB HCl
  unfold fc at hW1
  dsimp only at hW1
  go_enter Tryz.func9, Tryz.ntmps9
  go_wp2_with (first
    | (go_at_call 11; refine hal.mono ?_; clear hal; rintro e w1 ⟨rfl, b1⟩; have B1 : Hid (Below _ _ w1) := b1; clear b1))
  have C0 : Hid ((fun wx => wx.cell? ⟨w.heap.size, 0, none⟩ = some (.int .i64 c_) ∧ wx.cell? ⟨w.heap.size, 1, none⟩ = some (.int .i64 r_) ∧ wx.cell? ⟨w.heap.size, 2, none⟩ = some (.int .i64 h_) ∧ wx.cell? ⟨w.heap.size, 3, none⟩ = some (.int .i64 b_) ∧ wx.cell? ⟨w.heap.size, 4, none⟩ = some (.int .i64 k_) ∧ wx.cell? ⟨w.heap.size, 5, none⟩ = some (.int .i64 m_) ∧ wx.cell? ⟨w.heap.size, 6, none⟩ = some (.int .i64 j_) ∧ wx.cell? ⟨w.heap.size, 7, none⟩ = some (.int .i64 p_) ∧ wx.cell? ⟨w.heap.size, 8, none⟩ = some (.int .i64 l_) ∧ wx.cell? ⟨w.heap.size, 9, none⟩ = some (.int .i64 y_)) w1.drew) := show _ ∧ _ from box_cells (f := ⟨c_, r_, h_, b_, k_, m_, j_, p_, l_, y_⟩) (HCl.out w1 B1.out)
  go_region_held3 (fun wx => wx.cell? ⟨w.heap.size, 0, none⟩ = some (.int .i64 c_) ∧ wx.cell? ⟨w.heap.size, 1, none⟩ = some (.int .i64 r_) ∧ wx.cell? ⟨w.heap.size, 2, none⟩ = some (.int .i64 h_) ∧ wx.cell? ⟨w.heap.size, 3, none⟩ = some (.int .i64 b_) ∧ wx.cell? ⟨w.heap.size, 4, none⟩ = some (.int .i64 k_) ∧ wx.cell? ⟨w.heap.size, 5, none⟩ = some (.int .i64 m_) ∧ wx.cell? ⟨w.heap.size, 6, none⟩ = some (.int .i64 j_) ∧ wx.cell? ⟨w.heap.size, 7, none⟩ = some (.int .i64 p_) ∧ wx.cell? ⟨w.heap.size, 8, none⟩ = some (.int .i64 l_) ∧ wx.cell? ⟨w.heap.size, 9, none⟩ = some (.int .i64 y_))
    (first | exact C0.out | exact C1.out | exact C2.out)
    (first
      | (go_at_call 28; refine (HNw.out _).mono ?_; clear HNw; rintro e w2 ⟨rfl, s2, hB2, b2⟩; have B2 : Hid (Below W1.heap.size W1 w2) := B1.out.trans ((of_drew b2).mono B1.out.size); have C1 : Hid ((fun wx => wx.cell? ⟨w.heap.size, 0, none⟩ = some (.int .i64 c_) ∧ wx.cell? ⟨w.heap.size, 1, none⟩ = some (.int .i64 r_) ∧ wx.cell? ⟨w.heap.size, 2, none⟩ = some (.int .i64 h_) ∧ wx.cell? ⟨w.heap.size, 3, none⟩ = some (.int .i64 b_) ∧ wx.cell? ⟨w.heap.size, 4, none⟩ = some (.int .i64 k_) ∧ wx.cell? ⟨w.heap.size, 5, none⟩ = some (.int .i64 m_) ∧ wx.cell? ⟨w.heap.size, 6, none⟩ = some (.int .i64 j_) ∧ wx.cell? ⟨w.heap.size, 7, none⟩ = some (.int .i64 p_) ∧ wx.cell? ⟨w.heap.size, 8, none⟩ = some (.int .i64 l_) ∧ wx.cell? ⟨w.heap.size, 9, none⟩ = some (.int .i64 y_)) w2) := show _ ∧ _ from box_cells (f := ⟨c_, r_, h_, b_, k_, m_, j_, p_, l_, y_⟩) (HCl.out w2 B2.out); clear hB2 b2 s2)
      | (go_at_call 32; refine (HNe.out _ _).mono ?_; clear HNe; rintro e w3 ⟨rfl, b3⟩; have B3 : Hid (Below W1.heap.size W1 w3) := B2.out.trans (b3.mono B2.out.size); have C2 : Hid ((fun wx => wx.cell? ⟨w.heap.size, 0, none⟩ = some (.int .i64 c_) ∧ wx.cell? ⟨w.heap.size, 1, none⟩ = some (.int .i64 r_) ∧ wx.cell? ⟨w.heap.size, 2, none⟩ = some (.int .i64 h_) ∧ wx.cell? ⟨w.heap.size, 3, none⟩ = some (.int .i64 b_) ∧ wx.cell? ⟨w.heap.size, 4, none⟩ = some (.int .i64 k_) ∧ wx.cell? ⟨w.heap.size, 5, none⟩ = some (.int .i64 m_) ∧ wx.cell? ⟨w.heap.size, 6, none⟩ = some (.int .i64 j_) ∧ wx.cell? ⟨w.heap.size, 7, none⟩ = some (.int .i64 p_) ∧ wx.cell? ⟨w.heap.size, 8, none⟩ = some (.int .i64 l_) ∧ wx.cell? ⟨w.heap.size, 9, none⟩ = some (.int .i64 y_)) w3) := show _ ∧ _ from box_cells (f := ⟨c_, r_, h_, b_, k_, m_, j_, p_, l_, y_⟩) (HCl.out w3 B3.out); clear b3))
  all_goals (
    clear C0 C1 C2 HCl
    go_wp2
    go_ret
    exact ⟨rfl, HB.out.trans (B3.out.mono HB.out.size)⟩)

set_option maxRecDepth 100000 in
set_option maxHeartbeats 8000000 in
theorem any_some (f : M.Fmt) (C B N r PN : Nat) (s : ByteArray) (w : World) (hT : Wave.Tab w ∧ Alloc.Tabs w) (hl : s.size ≤ 2000) (hF : Sb f C B N r) (hn : M.pay f = PN) :
    Calls Tryz.prog 9 #[fv f, .string s] w fun e w' => e = .returned (.bool true) ∧ Below w.heap.size w w' := by
  have n16 := hF.n16
  have c2 := hF.c2
  have b8 := hF.b8
  obtain ⟨W1, hW1⟩ : ∃ W1, w.alloc (.cells (fc f) 23) = W1 := ⟨_, rfl⟩
  have sz1 : W1.heap.size = w.heap.size + 1 := by rw [← hW1]; simp
  have bel : Below w.heap.size w W1 := by rw [← hW1]; exact bel1 _ _
  have hf1 : Blk W1 w.heap.size (fc f) 23 := by rw [← hW1]; exact Blk.new w _ _
  have hal := alive_any W1 (Bank.tab_below bel (Nat.le_refl _) hT.1) (hT.2.below bel (Nat.le_refl _))
  have HB : Hid (Below w.heap.size w W1) := bel
  have hnw := fun wx => Bank.new_any wx
  have HNw : Hid (∀ wx, Calls _ _ _ wx _) := hnw
  have hne := fun b X wx (hb : Below w.heap.size w wx) hB => NewDecoder_ok b f C B N r X wx (Bank.tab_below hb (Nat.le_refl _) hT.1) hB hF
  have HNe : Hid _ := hne
  have hcl : ∀ wx, Below W1.heap.size W1 wx → Blk wx w.heap.size (fc f) 23 := fun wx hb => blk_below hb hf1 (by omega)
  have HCl : Hid _ := hcl
  have HTb : Hid (∀ wx, Below w.heap.size w wx → Alloc.Tabs wx) := fun wx hb => hT.2.below hb (Nat.le_refl _)
  obtain ⟨NN, hNN⟩ : ∃ NN, C * (N * B) = NN := ⟨_, rfl⟩
  obtain ⟨CB, hCB⟩ : ∃ CB, C * B = CB := ⟨_, rfl⟩
  have hNN2 : CB * N = NN := by rw [← hCB, ← hNN, Nat.mul_assoc, Nat.mul_comm B N]
  have hCB1 : CB ≤ 16 := by rw [← hCB]; have := Nat.mul_le_mul (show C ≤ 2 by omega) (show B ≤ 8 by omega); omega
  have hNNb : NN ≤ 256 := by rw [← hNN2]; have := Nat.mul_le_mul hCB1 (show N ≤ 16 by omega); omega
  have hNN1 : 1 ≤ NN := by rw [← hNN]; exact Nat.mul_pos (by omega) (Nat.mul_pos (by omega) (by omega))
  have hw1 : IntKind.i64.wrap ((C : Int) * (B : Int)) = (CB : Int) := by rw [← hCB]; push_cast; exact wrap_id _ (by rw [show (C : Int) * (B : Int) = ((CB : Nat) : Int) by rw [← hCB]; push_cast; rfl]; omega) (by rw [show (C : Int) * (B : Int) = ((CB : Nat) : Int) by rw [← hCB]; push_cast; rfl]; omega)
  have hw2 : IntKind.i64.wrap ((CB : Int) * (N : Int)) = (NN : Int) := by rw [← hNN2]; push_cast; exact wrap_id _ (by rw [show (CB : Int) * (N : Int) = ((NN : Nat) : Int) by rw [← hNN2]; push_cast; rfl]; omega) (by rw [show (CB : Int) * (N : Int) = ((NN : Nat) : Int) by rw [← hNN2]; push_cast; rfl]; omega)
  obtain ⟨Z, hZ⟩ : ∃ Z : Nat → List Int, (fun _ => List.replicate (20 * B) 0) = Z := ⟨_, rfl⟩
  have HNN : Hid (C * (N * B) = NN) := hNN
  have g2 : ¬ (2000 : Int) < s.size := by omega
  have hN := hF.hN
  have hC := hF.hC
  have hBB := hF.hB
  have i1 : (C : Int) ≤ 2 := by omega
  have i2 : (B : Int) ≤ 8 := by omega
  have i3 : (N : Int) ≤ 16 := by omega
  have i5 : (0 : Int) ≤ NN := by omega
  rw [hZ] at HNe
  have hends := M.ends (f := f) (.inl hF.ok)
  have hbit : M.bitS f ≤ 8 * (PN : Int) := by rw [hn] at hends; have := hends.2.2.2.2; unfold M.bitF at this; rw [if_pos hF.ok.1] at this; exact this
  have hpn : 7 ≤ PN ∧ PN ≤ 512 := by rw [hn] at hends; exact ⟨by have := hends.2.2.1; omega, by have := hends.2.2.2.1; omega⟩
  have HTn : Hid _ := any_steps (PN := PN) hF hn
  have HPl : Hid _ := fun p l lo g L lo' hi' X v W he hv hX hh hg => Play_ok p l C B N r f lo g L lo' hi' X v W hF he hv hX hh hg
  clear hnw hne hcl hT bel hf1 hF hn hNN hCB hNN2 hZ n16 c2 b8 hends hbit
  obtain ⟨c_, r_, h_, b_, k_, m_, j_, p_, l_, y_⟩ := f
  obtain rfl : h_ = C := hC
  obtain rfl : b_ = B := hBB
  obtain rfl : k_ = N := hN
  unfold fv at HNe HTn
  unfold pa at HTn
  unfold fv
  unfold fc at hW1
  dsimp only at HNe HTn hW1 ⊢
  go_enter Tryz.func9, Tryz.ntmps9
  go_wp2_with (first
    | (go_at_call 11; refine hal.mono ?_; clear hal; rintro e w1 ⟨rfl, b1⟩; have B1 : Hid (Below _ _ w1) := b1; clear b1))
  have C0 : Hid ((fun wx => wx.cell? ⟨w.heap.size, 0, none⟩ = some (.int .i64 c_) ∧ wx.cell? ⟨w.heap.size, 1, none⟩ = some (.int .i64 r_) ∧ wx.cell? ⟨w.heap.size, 2, none⟩ = some (.int .i64 (C : Int)) ∧ wx.cell? ⟨w.heap.size, 3, none⟩ = some (.int .i64 (B : Int)) ∧ wx.cell? ⟨w.heap.size, 4, none⟩ = some (.int .i64 (N : Int)) ∧ wx.cell? ⟨w.heap.size, 5, none⟩ = some (.int .i64 m_) ∧ wx.cell? ⟨w.heap.size, 6, none⟩ = some (.int .i64 j_) ∧ wx.cell? ⟨w.heap.size, 7, none⟩ = some (.int .i64 p_) ∧ wx.cell? ⟨w.heap.size, 8, none⟩ = some (.int .i64 l_) ∧ wx.cell? ⟨w.heap.size, 9, none⟩ = some (.int .i64 y_)) w1.drew) := show _ ∧ _ from box_cells (f := ⟨c_, r_, C, B, N, m_, j_, p_, l_, y_⟩) (HCl.out w1 B1.out)
  go_region_held3 (fun wx => wx.cell? ⟨w.heap.size, 0, none⟩ = some (.int .i64 c_) ∧ wx.cell? ⟨w.heap.size, 1, none⟩ = some (.int .i64 r_) ∧ wx.cell? ⟨w.heap.size, 2, none⟩ = some (.int .i64 (C : Int)) ∧ wx.cell? ⟨w.heap.size, 3, none⟩ = some (.int .i64 (B : Int)) ∧ wx.cell? ⟨w.heap.size, 4, none⟩ = some (.int .i64 (N : Int)) ∧ wx.cell? ⟨w.heap.size, 5, none⟩ = some (.int .i64 m_) ∧ wx.cell? ⟨w.heap.size, 6, none⟩ = some (.int .i64 j_) ∧ wx.cell? ⟨w.heap.size, 7, none⟩ = some (.int .i64 p_) ∧ wx.cell? ⟨w.heap.size, 8, none⟩ = some (.int .i64 l_) ∧ wx.cell? ⟨w.heap.size, 9, none⟩ = some (.int .i64 y_))
    (first | exact C0.out | exact C1.out | exact C2.out)
    (first
      | (go_at_call 28; refine (HNw.out _).mono ?_; clear HNw; rintro e w2 ⟨rfl, s2, hB2, b2⟩; have B2 : Hid (Below W1.heap.size W1 w2) := B1.out.trans ((of_drew b2).mono B1.out.size); have C1 : Hid ((fun wx => wx.cell? ⟨w.heap.size, 0, none⟩ = some (.int .i64 c_) ∧ wx.cell? ⟨w.heap.size, 1, none⟩ = some (.int .i64 r_) ∧ wx.cell? ⟨w.heap.size, 2, none⟩ = some (.int .i64 (C : Int)) ∧ wx.cell? ⟨w.heap.size, 3, none⟩ = some (.int .i64 (B : Int)) ∧ wx.cell? ⟨w.heap.size, 4, none⟩ = some (.int .i64 (N : Int)) ∧ wx.cell? ⟨w.heap.size, 5, none⟩ = some (.int .i64 m_) ∧ wx.cell? ⟨w.heap.size, 6, none⟩ = some (.int .i64 j_) ∧ wx.cell? ⟨w.heap.size, 7, none⟩ = some (.int .i64 p_) ∧ wx.cell? ⟨w.heap.size, 8, none⟩ = some (.int .i64 l_) ∧ wx.cell? ⟨w.heap.size, 9, none⟩ = some (.int .i64 y_)) w2) := show _ ∧ _ from box_cells (f := ⟨c_, r_, C, B, N, m_, j_, p_, l_, y_⟩) (HCl.out w2 B2.out); have hne := HNe.out _ _ w2 (HB.out.trans (B2.out.mono HB.out.size)) hB2; have HNe2 : Hid (Calls _ _ _ _ _) := hne; have Z2 : Hid (w1.drew.heap.size < w2.heap.size) := (show w1.drew.heap.size < w2.heap.size by omega); clear hB2 b2 s2 hne)
      | (go_at_call 32; refine HNe2.out.mono ?_; clear HNe2; rintro e w3 ⟨p, l, lo, g, rfl, hl3, en3, bt3⟩; have B3 : Hid (Below W1.heap.size W1 w3) := Poly.below_but B2.out bt3 (Nat.le_refl _) (by show W1.heap.size ≤ w1.heap.size; exact B1.out.size); have C2 : Hid ((fun wx => wx.cell? ⟨w.heap.size, 0, none⟩ = some (.int .i64 c_) ∧ wx.cell? ⟨w.heap.size, 1, none⟩ = some (.int .i64 r_) ∧ wx.cell? ⟨w.heap.size, 2, none⟩ = some (.int .i64 (C : Int)) ∧ wx.cell? ⟨w.heap.size, 3, none⟩ = some (.int .i64 (B : Int)) ∧ wx.cell? ⟨w.heap.size, 4, none⟩ = some (.int .i64 (N : Int)) ∧ wx.cell? ⟨w.heap.size, 5, none⟩ = some (.int .i64 m_) ∧ wx.cell? ⟨w.heap.size, 6, none⟩ = some (.int .i64 j_) ∧ wx.cell? ⟨w.heap.size, 7, none⟩ = some (.int .i64 p_) ∧ wx.cell? ⟨w.heap.size, 8, none⟩ = some (.int .i64 l_) ∧ wx.cell? ⟨w.heap.size, 9, none⟩ = some (.int .i64 y_)) w3) := show _ ∧ _ from box_cells (f := ⟨c_, r_, C, B, N, m_, j_, p_, l_, y_⟩) (HCl.out w3 B3.out); have E3 : Hid (Dec p l C B ⟨c_, r_, C, B, N, m_, j_, p_, l_, y_⟩ lo g Z w3) := en3; have Z3 : Hid (w2.heap.size ≤ l) := hl3; clear hl3 en3 bt3))
  all_goals (
    obtain ⟨x0, x1, x2, x3, x4, x5, x6, x7, x8, x9⟩ := C2.out
    have F3 : Hid (Blk w3 w.heap.size (fc ⟨c_, r_, C, B, N, m_, j_, p_, l_, y_⟩) 23) := HCl.out w3 B3.out
    have hwl : w.heap.size < l := by have := Z3.out; have := B2.out.size; omega
    clear C0 C1 C2 HCl Z3 Z2
    have hb03 : Below w.heap.size w w3 := HB.out.trans (B3.out.mono HB.out.size)
    have hcv := Byt.run_of w3 s
    have hgv := Byt.given_of w3 s
    have hlv := hb03.trans ((laid_of w3 s).mono hb03.size)
    have hlv0 := laid_of w3 s
    obtain ⟨W4, hW4⟩ : ∃ W4, (w3.alloc (Byt.objOf w3 s)).drew = W4 := ⟨_, rfl⟩
    rw [hW4] at hcv hgv hlv hlv0
    have hps := HTn.out W4 _ _ (fun wx hb => HTb.out wx (hlv.trans (hb.mono hlv.size))) hgv (by rw [Byt.nums_length]; exact hl)
    have HPs : Hid (Calls _ _ _ _ _) := hps
    have B4 : Hid (Below w.heap.size w W4) := hlv
    have D4 : Hid (Dec p l C B ⟨c_, r_, C, B, N, m_, j_, p_, l_, y_⟩ lo g Z W4) := E3.out.below hlv0 E3.out.lt
    have F4 : Hid (Blk W4 w.heap.size (fc ⟨c_, r_, C, B, N, m_, j_, p_, l_, y_⟩) 23) := blk_below hlv0 F3.out F3.out.lt
    clear hps hgv hlv hlv0 HTn E3 F3 hW4 hb03
    generalize Byt.capOf w3 s = cp at *
    go_wp2_with (first
      | (go_at_call 24; refine HPs.out.mono ?_; clear HPs x0 x1 x2 x3 x4 x5 x6 x7 x8 x9; rintro e w5 ⟨b5, hor⟩; have hf5 : Blk w5 w.heap.size (fc ⟨c_, r_, C, B, N, m_, j_, p_, l_, y_⟩) 23 := blk_below b5 F4.out F4.out.lt; have B45 : Hid (Below W4.heap.size W4 w5) := b5; clear b5; rcases hor with rfl | ⟨aj, az, ac, rfl, hpl, hsm⟩; any_goals (have hf6 : Blk (w5.alloc (.cells #[.slice (some ⟨aj, 0, none⟩) B B, .slice (some ⟨az, 0, none⟩) C C, .slice (some ⟨ac, 0, none⟩) N N] 33)) w.heap.size (fc ⟨c_, r_, C, B, N, m_, j_, p_, l_, y_⟩) 23 := hf5.alloc _; have hb6 : Blk (w5.alloc (.cells #[.slice (some ⟨aj, 0, none⟩) B B, .slice (some ⟨az, 0, none⟩) C C, .slice (some ⟨ac, 0, none⟩) N N] 33)) w5.heap.size #[.slice (some ⟨aj, 0, none⟩) B B, .slice (some ⟨az, 0, none⟩) C C, .slice (some ⟨ac, 0, none⟩) N N] 33 := Blk.new w5 _ _; have F6 : Hid (Blk (w5.alloc (.cells #[.slice (some ⟨aj, 0, none⟩) B B, .slice (some ⟨az, 0, none⟩) C C, .slice (some ⟨ac, 0, none⟩) N N] 33)) w.heap.size (fc ⟨c_, r_, C, B, N, m_, j_, p_, l_, y_⟩) 23) := hf6; have P6 : Hid (Blk (w5.alloc (.cells #[.slice (some ⟨aj, 0, none⟩) B B, .slice (some ⟨az, 0, none⟩) C C, .slice (some ⟨ac, 0, none⟩) N N] 33)) w5.heap.size #[.slice (some ⟨aj, 0, none⟩) B B, .slice (some ⟨az, 0, none⟩) C C, .slice (some ⟨ac, 0, none⟩) N N] 33) := hb6; have xs := box_cells hf6; dsimp only at xs; obtain ⟨x0, x1, x2, x3, x4, x5, x6, x7, x8, x9⟩ := xs; have y0 := hb6.cell (o := 0) rfl; have y1 := hb6.cell (o := 1) rfl; have y2 := hb6.cell (o := 2) rfl; have hpn := hpl (w5.alloc (.cells #[.slice (some ⟨aj, 0, none⟩) B B, .slice (some ⟨az, 0, none⟩) C C, .slice (some ⟨ac, 0, none⟩) N N] 33)) (bel1 _ _); have HPn : Hid (Calls _ _ _ _ _) := hpn; have HSm : Hid (∀ W3 : World, w5.heap.size ≤ W3.heap.size → _) := hsm; clear hf5 hf6 hb6 hpn hpl hsm))
      | (go_at_call 15; refine HPn.out.mono ?_; clear HPn x0 x1 x2 x3 x4 x5 x6 x7 x8 x9 y0 y1 y2; rintro e w7 ⟨vb, vo, vc, rfl, b7, X, hX, h3⟩; have B67 : Hid (Below _ _ w7) := b7; have H3 : Hid (Sub.B3 _ _ _ _ _ _ _ _ _) := h3; have b56 : Below w5.heap.size w5 (w5.alloc (.cells #[.slice (some ⟨aj, 0, none⟩) B B, .slice (some ⟨az, 0, none⟩) C C, .slice (some ⟨ac, 0, none⟩) N N] 33)) := bel1 _ _; have b57 : Below w5.heap.size w5 w7 := b56.trans (b7.mono b56.size); have b47 : Below W4.heap.size W4 w7 := B45.out.trans (b57.mono B45.out.size); have hgl : ∀ c, c < C → w.heap.size < g c ∧ g c < W4.heap.size := (fun c hc => by have h1 := D4.out.gl hc; have h2 := D4.out.lt; exact ⟨by omega, by omega⟩); have s45 := B45.out.size; have s56 := b56.size; have hply := HPl.out p l lo g Z (w5.alloc (.cells #[.slice (some ⟨aj, 0, none⟩) B B, .slice (some ⟨az, 0, none⟩) C C, .slice (some ⟨ac, 0, none⟩) N N] 33)).heap.size w7.heap.size X _ w7 (D4.out.below b47 D4.out.lt) h3 hX (Nat.le_refl _) (fun c hc => .inl (by have := (hgl c hc).2; omega)); have HPy : Hid (Calls _ _ _ _ _) := hply; have B57 : Hid (Below w5.heap.size w5 w7) := b57; have B7 : Hid (Below w.heap.size w w7) := B4.out.trans (b47.mono B4.out.size); have F7 : Hid (Blk w7 w.heap.size (fc ⟨c_, r_, C, B, N, m_, j_, p_, l_, y_⟩) 23) := blk_below b7 F6.out F6.out.lt; have P7 : Hid (Blk w7 w5.heap.size #[.slice (some ⟨aj, 0, none⟩) B B, .slice (some ⟨az, 0, none⟩) C C, .slice (some ⟨ac, 0, none⟩) N N] 33) := blk_below b7 P6.out P6.out.lt; have HGl : Hid (∀ c, c < C → w.heap.size < g c ∧ g c < W4.heap.size) := hgl; clear b7 h3 hX b56 b57 b47 hply F6 P6 hgl s56)
      | (go_at_call 33; refine HPy.out.mono ?_; clear HPy; rintro e w8 ⟨u8, rfl, hr8, _, l8⟩; obtain ⟨au, cu, rfl⟩ := hr8.form; rw [M.wov_length, HNN.out]; have hf8 : Blk w8 w.heap.size (fc ⟨c_, r_, C, B, N, m_, j_, p_, l_, y_⟩) 23 := l8.blk F7.out (fun c hc => by have := (HGl.out c hc).1; omega); have hp8 : Blk w8 w5.heap.size #[.slice (some ⟨aj, 0, none⟩) B B, .slice (some ⟨az, 0, none⟩) C C, .slice (some ⟨ac, 0, none⟩) N N] 33 := l8.blk P7.out (fun c hc => by have := (HGl.out c hc).2; omega); have xs := box_cells hf8; dsimp only at xs; obtain ⟨x0, x1, x2, x3, x4, x5, x6, x7, x8, x9⟩ := xs; have y0 := hp8.cell (o := 0) rfl; have y1 := hp8.cell (o := 1) rfl; have y2 := hp8.cell (o := 2) rfl; have hsm := fun m : Nat => HSm.out (w8.drewN m) (Nat.le_trans B57.out.size l8.size) (fun k k0 k1 => (l8.block k (Nat.lt_of_lt_of_le k1 B57.out.size) (fun c hc => by have := (HGl.out c hc).2; omega)).trans (B57.out.block k k1)); have HSs : Hid (∀ m, Calls _ _ _ (w8.drewN m) _) := hsm; have B8 : Hid (Below w.heap.size w w8) := B7.out.trans (l8.to_below (fun c hc => by have := (HGl.out c hc).1; omega) B7.out.size); clear hr8 l8 hf8 hp8 hsm HSm)
      | (go_at_call 38; refine (HSs.out 0).mono ?_; clear HSs; rintro e w9 ⟨rfl, b9⟩; have B9 : Hid (Below w8.heap.size w8 w9) := b9; clear b9))
    · go_ret
      have h5 := B4.out.trans (B45.out.mono B4.out.size)
      exact ⟨rfl, h5.alloc h5.size _⟩
    · go_ret
      exact ⟨rfl, B8.out.trans (B9.out.mono B8.out.size)⟩)

set_option maxRecDepth 100000 in
theorem any_long (f : M.Fmt) (s : ByteArray) (w : World) (hT : Wave.Tab w ∧ Alloc.Tabs w) (hl : 2000 < s.size) :
    Calls Tryz.prog 9 #[fv f, .string s] w fun e w' => e = .returned (.bool true) ∧ Below w.heap.size w w' := by
  have g2 : (2000 : Int) < s.size := by omega
  have bel := bel1 w (.cells (fc f) 23)
  have hal := alive_any (w.alloc (.cells (fc f) 23)) (Bank.tab_below bel (Nat.le_refl _) hT.1) (hT.2.below bel (Nat.le_refl _))
  have HB : Hid (Below w.heap.size w _) := bel
  clear hT bel
  obtain ⟨c_, r_, h_, b_, k_, m_, j_, p_, l_, y_⟩ := f
  unfold fv
  dsimp only
  obtain ⟨W1, hW1⟩ : ∃ W1, w.alloc (.cells (fc ⟨c_, r_, h_, b_, k_, m_, j_, p_, l_, y_⟩) 23) = W1 := ⟨_, rfl⟩
  rw [hW1] at hal HB
  unfold fc at hW1
  dsimp only at hW1
  go_enter Tryz.func9, Tryz.ntmps9
  go_wp2_with (first
    | (go_at_call 11; refine hal.mono ?_; clear hal; rintro e w1 ⟨rfl, b1⟩; have B1 : Hid (Below _ _ w1) := b1; clear b1))
  go_ret
  exact ⟨rfl, HB.out.trans (B1.out.mono HB.out.size)⟩

theorem SubAny_walk (f : M.Fmt) (s : ByteArray) (w : World) (hT : Wave.Tab w ∧ Alloc.Tabs w) :
    Calls Tryz.prog 9 #[fv f, .string s] w fun e w' => e = .returned (.bool true) ∧ Below w.heap.size w w' := by
  by_cases hl : s.size ≤ 2000
  · by_cases h : M.okS f
    · obtain ⟨C, B, N, r, hF⟩ := sb_of h
      have hends := M.ends (f := f) (.inl h)
      exact any_some f C B N r (M.pay f).toNat s w hT hl hF (by have := hends.2.2.1; omega)
    · exact any_none f s w hT hl h
  · exact any_long f s w hT (by omega)

end Sub
end Go.Proofs.YtcaifpjbjghhaaaGreatDoor

