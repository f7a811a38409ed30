/-
  What the three laws' cards share.
-/
import Derived.Test.YthdhegmlknpllabGreatDoorTie
import Derived.Test.YthdhegmlknpllabGreatDoorCards
import Derived.Test.YthdhegmlknpllabGreatDoorM16
import Derived.ProofKit
import Derived.OpenShut
import Derived.ChangeOld
import Derived.Lay
import Derived.SizedLaws
import Derived.SevenTiedAt
import Derived.Stop.Joined
import Derived.Deep.Slices
namespace Go.Proofs.YthdhegmlknpllabGreatDoor
open Go.ChangeShapes Go.WideShapes Go.ChangeAt Go.RowKit Go.Deep

theorem own : ownKnob Tryz.prog.godebug = none := by kernel_rfl

theorem open_row {H : Type} {enc : TypeId × Value → H} {W : World} {fuel : Nat} {v : Value} {d : DataW H} {p : List MemPlace}
    (h : DataW.trod enc Tryz.prog W 0 (fun _ => true) true fuel 22 [v] = some (d, p)) :
    ∃ ao zs cap, v = .slice ao zs.length cap ∧ RowB W.heap.size W ao zs cap ∧ Bnd zs := by
  rcases open_ints Tryz.underlying22 Tryz.underlying3 (by kernel_rfl) h with ⟨hcs, hx⟩ | ⟨x, l, c, zs, hcs, _, hl, hm, hz, hx, hcell, hwz⟩
  · simp at hcs
    exact ⟨none, [], 0, hcs, ⟨by simp, fun h => by simp at h⟩, fun i hi => by simp at hi⟩
  · simp at hcs
    have hz' : zs.length = c := by simpa using hz
    refine ⟨some x, zs.take l, c, by rw [hcs]; simp; omega, ⟨by simp; omega, fun h0 => ?_⟩, fun i hi => ?_⟩
    · have h0' : 0 < l := by simp at h0; omega
      obtain ⟨b, off, he, hc⟩ := ints_at hcell (by omega)
      refine ⟨b, off, by rw [he], ?_, fun i hi => ?_⟩
      · exact World.block_lt_of_cell? _ _ (hc 0 (by omega))
      have hi' : i < l := by simp at hi; omega
      rw [hc i (by omega)]
      congr 2
      have e : i < zs.length := by omega
      simp [tm, hi', e]
    · have hi' : i < l := by simp at hi; omega
      have e : i < zs.length := by omega
      have ht : tm (zs.take l) i = zs[i] := by simp [tm, hi', e]
      rw [ht]
      exact bounds_i64 (hwz _ (List.getElem_mem e))
end Go.Proofs.YthdhegmlknpllabGreatDoor
