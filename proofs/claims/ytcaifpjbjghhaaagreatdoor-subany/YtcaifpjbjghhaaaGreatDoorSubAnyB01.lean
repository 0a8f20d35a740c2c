import Derived.Test.YtcaifpjbjghhaaaGreatDoorProg
import Derived.OwnWalk
import Derived.Laws.OwnMore
import Derived.Lib.SliceRun
import Derived.Laws.BytesArg
import Derived.Laws.IdiomStrings
import Derived.ChangeSlices
import Derived.ProofKit
import Derived.Test.YtcaifpjbjghhaaaGreatDoorSubA00
import Derived.Test.YtcaifpjbjghhaaaGreatDoorSubA01
import Derived.Test.YtcaifpjbjghhaaaGreatDoorSubA02
import Derived.Test.YtcaifpjbjghhaaaGreatDoorSubA03
import Derived.Test.YtcaifpjbjghhaaaGreatDoorSubA04
import Derived.Test.YtcaifpjbjghhaaaGreatDoorSubA05
import Derived.Test.YtcaifpjbjghhaaaGreatDoorSubA06
import Derived.Test.YtcaifpjbjghhaaaGreatDoorSubA07
import Derived.Test.YtcaifpjbjghhaaaGreatDoorSubA08
import Derived.Test.YtcaifpjbjghhaaaGreatDoorSubA09
import Derived.Test.YtcaifpjbjghhaaaGreatDoorSubA10
import Derived.Test.YtcaifpjbjghhaaaGreatDoorSubA11
import Derived.Test.YtcaifpjbjghhaaaGreatDoorSubA12
import Derived.Test.YtcaifpjbjghhaaaGreatDoorSubA13
import Derived.Test.YtcaifpjbjghhaaaGreatDoorSubA14
import Derived.Test.YtcaifpjbjghhaaaGreatDoorSubA15
import Derived.Test.YtcaifpjbjghhaaaGreatDoorSubA16
import Derived.Test.YtcaifpjbjghhaaaGreatDoorSubA17
import Derived.Test.YtcaifpjbjghhaaaGreatDoorSubA18
import Derived.Test.YtcaifpjbjghhaaaGreatDoorSubA19
import Derived.Test.YtcaifpjbjghhaaaGreatDoorSubA20
import Derived.Test.YtcaifpjbjghhaaaGreatDoorSubA21
import Derived.Test.YtcaifpjbjghhaaaGreatDoorSubA22
import Derived.Test.YtcaifpjbjghhaaaGreatDoorSubA23
import Derived.Test.YtcaifpjbjghhaaaGreatDoorSubA24
import Derived.Test.YtcaifpjbjghhaaaGreatDoorSubA25
import Derived.Test.YtcaifpjbjghhaaaGreatDoorSubA26
import Derived.Test.YtcaifpjbjghhaaaGreatDoorSubA27
import Derived.Test.YtcaifpjbjghhaaaGreatDoorSubA28
import Derived.Test.YtcaifpjbjghhaaaGreatDoorSubA29
import Derived.Test.YtcaifpjbjghhaaaGreatDoorSubA30
import Derived.Test.YtcaifpjbjghhaaaGreatDoorSubA31
import Derived.Test.YtcaifpjbjghhaaaGreatDoorSubA32
import Derived.Test.YtcaifpjbjghhaaaGreatDoorSubA33
import Derived.Test.YtcaifpjbjghhaaaGreatDoorSubA34
import Derived.Test.YtcaifpjbjghhaaaGreatDoorSubA35
import Derived.Test.YtcaifpjbjghhaaaGreatDoorSubA36
import Derived.Test.YtcaifpjbjghhaaaGreatDoorSubA37
import Derived.Test.YtcaifpjbjghhaaaGreatDoorSubA38
import Derived.Test.YtcaifpjbjghhaaaGreatDoorSubA39
import Derived.Test.YtcaifpjbjghhaaaGreatDoorSubA40
import Derived.Test.YtcaifpjbjghhaaaGreatDoorSubA41
import Derived.Test.YtcaifpjbjghhaaaGreatDoorSubA42
import Derived.Test.YtcaifpjbjghhaaaGreatDoorSubA43
import Derived.Test.YtcaifpjbjghhaaaGreatDoorSubA44
import Derived.Test.YtcaifpjbjghhaaaGreatDoorSubAnyB00
/-
  Bytes in memory that are only read, slices of them, bytes.Clone, bytes.Equal, conversions from and to strings. Conditions: as told at each. No function of the program is in it.
-/
namespace Go.Proofs.YtcaifpjbjghhaaaGreatDoor
set_option linter.unusedVariables false
open Go.RowKit
namespace Byt
open Bits (Blk But add_at wrap_id)

/-- the bytes of a string -/
def nums (s : ByteArray) : List Nat := s.data.toList.map UInt8.toNat
theorem nums_length (s : ByteArray) : (nums s).length = s.size := by unfold nums; rw [List.length_map, Array.length_toList]; rfl
theorem nums_lt (s : ByteArray) : ∀ x ∈ nums s, x < 256 := by
  intro x hx
  obtain ⟨u, _, rfl⟩ := List.mem_map.1 hx
  exact u.toNat_lt
/-- what '[]byte(s)' lays, and its capacity -/
def capOf (w : World) (s : ByteArray) : Nat := grownCap w s.size 0 5
def objOf (w : World) (s : ByteArray) : Obj := .cells (bytesRow s (capOf w s)) 5 ((bytesRow s (capOf w s)).size, (bytesRow s (capOf w s)).size + 1)
/-- '[]byte(s)' -/
theorem run_of (w : World) (s : ByteArray) : (convert 9 47 (.string s)).run Tryz.prog w = .ok (.slice (some ⟨w.heap.size, 0, none⟩) s.size (capOf w s)) (w.alloc (objOf w s)).drew :=
  run_bytes_of_string (P := Tryz.prog) w 9 47 5 s Tryz.underlying9 Tryz.underlying47 Tryz.underlying5
theorem given_of (w : World) (s : ByteArray) : Given (w.alloc (objOf w s)).drew (.slice (some ⟨w.heap.size, 0, none⟩) s.size (capOf w s)) (nums s) := by
  have hblk : (w.alloc (objOf w s)).heap[w.heap.size]? = some (objOf w s) := heap_alloc_new w _
  refine ⟨some ⟨w.heap.size, 0, none⟩, capOf w s, by rw [nums_length], by rw [nums_length]; exact grownCap_ge _ _ _ _, nums_lt s, (fun h => by cases h), Or.inr ⟨w.heap.size, 0, rfl, ?_, fun i x hi => ?_⟩⟩
  · show w.heap.size < (w.alloc _).heap.size
    simp
  · have hi' : s.data[i]? = some (UInt8.ofNat x) ∧ x < 256 := by
      obtain ⟨u, hu, rfl⟩ : ∃ u, s.data.toList[i]? = some u ∧ u.toNat = x := by rw [nums, List.getElem?_map] at hi; exact Option.map_eq_some_iff.1 hi
      rw [Array.getElem?_toList] at hu
      exact ⟨by rw [hu]; simp, u.toNat_lt⟩
    have hlt : i < s.data.size := (Array.getElem?_eq_some_iff.1 hi'.1).1
    show (w.alloc _).cell? ⟨w.heap.size, 0 + i, none⟩ = _
    unfold World.cell?
    rw [hblk]
    show (bytesRow s _)[0 + i]? = _
    rw [Nat.zero_add]
    unfold bytesRow
    rw [Array.getElem?_append_left (by simpa using hlt), Array.getElem?_map, hi'.1]
    have := hi'.2
    simp; omega

end Byt
end Go.Proofs.YtcaifpjbjghhaaaGreatDoor

