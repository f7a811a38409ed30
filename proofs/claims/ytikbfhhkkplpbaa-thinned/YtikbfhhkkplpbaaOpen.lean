/-
  The two lists that come in, opened.
-/
import Derived.Test.YtikbfhhkkplpbaaBase
import Derived.ProofKit
import Derived.OpenShut
import Derived.ChangeOld
import Derived.SizedLaws
import Derived.Deep.SlicePairs
namespace Go.Proofs.Ytikbfhhkkplpbaa
open Go.ChangeShapes Go.WideShapes Go.ChangeAt Go.RowKit Go.Deep
open Pl

theorem bytes3 : Try.prog.bytesOf 3 = 8 := by kernel_rfl
theorem bytes25 : Try.prog.bytesOf 25 = 16 := by kernel_rfl

theorem open_times {H : Type} {enc : TypeId × Value → H} {W : World} {fuel : Nat} {ao : Option Addr} {len cap : Nat} {d : DataW H} {p : List MemPlace}
    (h : DataW.trod enc Try.prog W 0 (fun _ => true) true fuel 22 (Value.slice ao len cap).cells.toList = some (d, p)) :
    ∃ zs : List Int, zs.length = len ∧ RowI W ao zs cap ∧ (ao = none → len = 0 ∧ cap = 0) ∧ ((d = .nil ∧ len = 0) ∨ ∃ es sp, d = .slice es sp ∧ len ≤ es.length + sp.length) := by
  rcases open_ints Try.underlying22 Try.underlying3 (by kernel_rfl) h with ⟨hcs, hx⟩ | ⟨x, l, c, zs, hcs, _, hl, hm, hz, hx, hcell, hwz⟩
  · simp [Value.cells] at hcs
    obtain ⟨rfl, rfl, rfl⟩ := hcs
    simp only [Prod.mk.injEq] at hx
    exact ⟨[], rfl, ⟨by simp, fun h => by simp at h⟩, fun _ => ⟨rfl, rfl⟩, Or.inl ⟨hx.1, rfl⟩⟩
  · simp [Value.cells] at hcs
    obtain ⟨rfl, rfl, rfl⟩ := hcs
    have hz' : zs.length = cap := by simpa using hz
    simp only [Prod.mk.injEq] at hx
    refine ⟨zs.take len, by simp; omega, ⟨by simp; omega, fun h0 => ?_⟩, fun h => by simp at h, Or.inr ⟨_, _, hx.1, by simp [lits]; omega⟩⟩
    have h0' : 0 < len := by simp at h0; omega
    obtain ⟨b, off, rfl, hc⟩ := ints_at hcell (by omega)
    refine ⟨b, off, rfl, fun i hi => ?_⟩
    have hi' : i < len := by simp at hi; omega
    rw [hc i (by omega)]
    congr 2
    have e : i < zs.length := by omega
    simp [tm, hi', e]

theorem open_rules {H : Type} {enc : TypeId × Value → H} {W : World} {fuel : Nat} {ao : Option Addr} {len cap : Nat} {d : DataW H} {p : List MemPlace}
    (h : DataW.trod enc Try.prog W 0 (fun _ => true) true fuel 23 (Value.slice ao len cap).cells.toList = some (d, p)) :
    ∃ rs : List (Int × Int), rs.length = len ∧ RowR W ao rs cap ∧ (ao = none → len = 0 ∧ cap = 0) ∧ ((d = .nil ∧ len = 0) ∨ ∃ es sp, d = .slice es sp ∧ len ≤ es.length + sp.length) := by
  rcases open_slice_pairs Try.underlying23 Try.underlying25 (by kernel_rfl) rfl rfl (by kernel_rfl) (by kernel_rfl) h with ⟨hcs, hx⟩ | ⟨a, l, c, m, n, V0, V1, D0, D1, P0, P1, hcs, _, hl, hm, hmm, hx, hall⟩
  · simp [Value.cells] at hcs
    obtain ⟨rfl, rfl, rfl⟩ := hcs
    simp only [Prod.mk.injEq] at hx
    exact ⟨[], rfl, ⟨by simp, fun h => by simp at h⟩, fun _ => ⟨rfl, rfl⟩, Or.inl ⟨hx.1, rfl⟩⟩
  · simp [Value.cells] at hcs
    obtain ⟨rfl, rfl, rfl⟩ := hcs
    simp at hmm
    subst hmm
    simp only [Prod.mk.injEq] at hx
    have each : ∀ i, i < len → ∃ q : Int × Int, W.cell? (a.add (i * 2)) = some (.int .i64 q.1) ∧ W.cell? (a.add (i * 2 + 1)) = some (.int .i64 q.2) := by
      intro i hi
      obtain ⟨c0, c1, t0, t1⟩ := hall i (by omega)
      obtain ⟨k0, e0, _, _⟩ := DataW.trod_int Try.underlying3 t0
      obtain ⟨k1, e1, _, _⟩ := DataW.trod_int Try.underlying3 t1
      simp at e0 e1
      exact ⟨(k0, k1), by rw [c0, e0], by rw [c1, e1]⟩
    obtain ⟨q, hq⟩ := choose_lt each
    refine ⟨(List.range len).map q, by simp, ⟨by simp; omega, fun h0 => ?_⟩, fun h => by simp at h, Or.inr ⟨_, _, hx.1, by simp⟩⟩
    have h0' : 0 < len := by simpa using h0
    obtain ⟨b, off, spot⟩ := a
    have hspot : spot = none := by simpa [Addr.add] using World.cell?_spot (hq 0 h0').1
    subst hspot
    refine ⟨b, off, rfl, fun i hi => ?_⟩
    have hi' : i < len := by simpa using hi
    have := hq i hi'
    rw [add_plain, add_plain] at this
    simpa [Nat.add_assoc] using this

theorem reach_len {a b len : Nat} {k : Nat} (h : (a + b) * k ≤ reachBytes) (hl : len ≤ a + b) : len * k ≤ 140737488351232 :=
  Nat.le_trans (Nat.mul_le_mul_right k hl) h
end Go.Proofs.Ytikbfhhkkplpbaa
