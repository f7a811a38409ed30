/-
  Laws for the built-in copy into a row of one's own, whatever the element's size.
-/
import Derived.Test.YtikbfhhkkplpbaaTurns
import Derived.Laws.CopyOwn
namespace Go.Proofs.Ytikbfhhkkplpbaa
open Go.RowKit Pl

theorem run_copy_zero {P : Program} (w : World) (dT sT ty elem : TypeId) (k : Nat) (d a : Option Addr) (dLen dCap sCap : Nat) (hu : P.underlying dT = some (.slice elem)) (hs : (P.info? elem).map (·.size) = some k) :
    (Builtin.copy_ #[dT, sT] ty #[.slice d dLen dCap, .slice a 0 sCap]).run P w = .ok (goInt 0) w := by
  cases hq : P.info? elem with
  | none => simp [hq] at hs
  | some i =>
    have hl : ∀ (x : Addr), (loadCells x 0).run P w = .ok #[] w := fun x => by simpa using run_loadCells_list (P := P) w x [] (by simp)
    have hm : Nat.min 0 dLen = 0 := Nat.zero_min _
    cases d <;> cases a <;> simp [Builtin.copy_, run_underlying hu, Builtin.lenOf, Builtin.firstCells, sizeOf, typeInfo, hq, storeCells, hl, hm]

theorem run_copy_k {P : Program} (w : World) (dT sT ty elem : TypeId) (k g dLen dCap : Nat) (a : Addr) (sLen sCap : Nat) (cur : Array Value) (t : TypeId) (cs : List Value)
    (hu : P.underlying dT = some (.slice elem)) (hs : (P.info? elem).map (·.size) = some k)
    (hg : w.heap[g]? = some (.cells cur t (0, 0))) (hle : sLen ≤ dLen) (hn : cs.length = sLen * k)
    (hsrc : ∀ j v, cs[j]? = some v → w.cell? (a.add j) = some v) (hfit : cs.length ≤ cur.size) (h1 : ∀ v ∈ cs, v.oneCell' = true) :
    (Builtin.copy_ #[dT, sT] ty #[.slice (some ⟨g, 0, none⟩) dLen dCap, .slice (some a) sLen sCap]).run P w =
      .ok (goInt sLen) (w.setRow g (cs ++ cur.toList.drop cs.length).toArray) := by
  have hl := run_loadCells_list (P := P) w a cs hsrc
  have hst := run_storeCells_at P g 0 t cs 0 cur w hg (by simpa using hfit) h1
  have hmin : Nat.min sLen dLen = sLen := Nat.min_eq_left hle
  cases hq : P.info? elem with
  | none => simp [hq] at hs
  | some i =>
    have hi : i.size = k := by simpa [hq] using hs
    rw [hn] at hl
    simp [Builtin.copy_, run_underlying hu, Builtin.lenOf, Builtin.firstCells, sizeOf, typeInfo, hq, hi, hmin, hl, hst]

/-- copy(dst, src), dst a row of one's own, no shorter than src: its head is src's cells from then on. -/
theorem run_copy_first {P : Program} (w : World) (T ty : TypeId) (base : Nat) (e : TypeId) (k : Nat) (hu : P.underlying T = some (.slice e)) (hs : (P.info? e).map (·.size) = some k)
    (g dLen dCap : Nat) (sp : Option Addr) (sLen sCap : Nat) (xs : List Value)
    (hown : w.ownsRow base e k (.slice (some ⟨g, 0, none⟩) dLen dCap) dLen xs) (hle : sLen ≤ dLen) (cs : List Value) (hn : cs.length = sLen * k)
    (hsrc : 0 < sLen → ∃ ad, sp = some ad ∧ ∀ j v, cs[j]? = some v → w.cell? (ad.add j) = some v) (h1 : ∀ v ∈ cs, v.oneCell' = true) :
    ∃ w', (Builtin.copy_ #[T, T] ty #[.slice (some ⟨g, 0, none⟩) dLen dCap, .slice sp sLen sCap]).run P w = .ok (goInt sLen) w' ∧ w'.ownsRow base e k (.slice (some ⟨g, 0, none⟩) dLen dCap) dLen (cs ++ xs.drop cs.length) ∧ w.grownBy w' (some g) := by
  by_cases h0 : sLen = 0
  · subst h0
    have hcs : cs = [] := List.eq_nil_of_length_eq_zero (by simpa using hn)
    subst hcs
    exact ⟨w, run_copy_zero (P := P) w T T ty e k (some ⟨g, 0, none⟩) sp dLen dCap sCap hu hs, by simpa using hown, World.grownBy.refl _ _⟩
  · obtain ⟨ad, rfl, hc⟩ := hsrc (by omega)
    rcases hown.2 with ⟨hx, _⟩ | ⟨g', cap', cur, hx, hb, hg, hnc, hcm, hcs, htk⟩
    · simp at hx
    · simp only [Value.slice.injEq, Option.some.injEq, Addr.mk.injEq, and_true, true_and] at hx
      obtain ⟨rfl, rfl⟩ := hx
      have hfit : cs.length ≤ dLen * k := by rw [hn]; exact Nat.mul_le_mul_right _ hle
      have hfit2 : dLen * k ≤ cur.size := by rw [hcs]; exact Nat.mul_le_mul_right _ hnc
      refine ⟨_, run_copy_k (P := P) w T T ty e k g dLen dCap ad sLen sCap cur e cs hu hs hg hle hn hc (by omega) h1, ⟨?_, Or.inr ⟨g, dCap, (cs ++ cur.toList.drop cs.length).toArray, rfl, hb, setRow_heap w g _ _ e _ hg, hnc, hcm, ?_, ?_⟩⟩, ⟨rfl, rfl, rfl, by simp [World.setRow], fun j hj hne => setRow_other w g j _ (by intro x; exact hne (by rw [x]))⟩⟩
      · rw [List.length_append, List.length_drop, hown.1]; omega
      · simp; omega
      · show List.take _ _ = _
        rw [List.take_append, List.take_of_length_le hfit, ← htk, List.drop_take]

end Go.Proofs.Ytikbfhhkkplpbaa
