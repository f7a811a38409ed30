/-
  Carried: the statement, proved.
-/
import Derived.Test.YthdhegmlknpllaaCwk
import Derived.Test.YthdhegmlknpllaaChecked
import Derived.ProofKit
import Derived.OpenShut
import Derived.ChangeOld
import Derived.SizedLaws
import Derived.Deep.Slices
namespace Go.Proofs.Ythdhegmlknpllaa
open Go.ChangeShapes Go.WideShapes Go.ChangeAt Go.RowKit Go.Deep

theorem own : ownKnob Try.prog.godebug = none := by kernel_rfl

theorem open_row {H : Type} {enc : TypeId × Value → H} {W : World} {fuel : Nat} {v : Value} {d : DataW H} {p : List MemPlace}
    (h : DataW.trod enc Try.prog W 0 (fun _ => true) true fuel 22 [v] = some (d, p)) :
    ∃ ao zs cap, v = .slice ao zs.length cap ∧ RowB W.heap.size W ao zs cap ∧ Bnd zs := by
  rcases open_ints Try.underlying22 Try.underlying3 (by kernel_rfl) h with ⟨hcs, hx⟩ | ⟨x, l, c, zs, hcs, _, hl, hm, hz, hx, hcell, hwz⟩
  · simp at hcs
    exact ⟨none, [], 0, hcs, ⟨by simp, fun h => by simp at h⟩, fun i hi => by simp at hi⟩
  · simp at hcs
    have hz' : zs.length = c := by simpa using hz
    refine ⟨some x, zs.take l, c, by rw [hcs]; simp; omega, ⟨by simp; omega, fun h0 => ?_⟩, fun i hi => ?_⟩
    · have h0' : 0 < l := by simp at h0; omega
      obtain ⟨b, off, he, hc⟩ := ints_at hcell (by omega)
      refine ⟨b, off, by rw [he], ?_, fun i hi => ?_⟩
      · exact World.block_lt_of_cell? _ _ (hc 0 (by omega))
      have hi' : i < l := by simp at hi; omega
      rw [hc i (by omega)]
      congr 2
      have e : i < zs.length := by omega
      simp [tm, hi', e]
    · have hi' : i < l := by simp at hi; omega
      have e : i < zs.length := by omega
      have ht : tm (zs.take l) i = zs[i] := by simp [tm, hi', e]
      rw [ht]
      exact bounds_i64 (hwz _ (List.getElem_mem e))

theorem open_raws {H : Type} {enc : TypeId × Value → H} {W : World} {fuel : Nat} {ao : Option Addr} {len cap : Nat} {d : DataW H} {p : List MemPlace}
    (h : DataW.trod enc Try.prog W 0 (fun _ => true) true fuel 40 (Value.slice ao len cap).cells.toList = some (d, p)) :
    ∃ rows : List (Option Addr × List Int × Nat), rows.length = len ∧ RawsB W.heap.size W ao rows cap := by
  rcases open_slice1 Try.underlying40 (by kernel_rfl) h with ⟨hcs, hx⟩ | ⟨a, l, c, m, n, V, D, Pl, hcs, _, hl, hm, hmm, hx, hall⟩
  · simp [Value.cells] at hcs
    obtain ⟨rfl, rfl, rfl⟩ := hcs
    exact ⟨[], rfl, ⟨by simp, fun h => by simp at h, fun r hr => by simp at hr⟩⟩
  · simp [Value.cells] at hcs
    obtain ⟨rfl, rfl, rfl⟩ := hcs
    simp at hmm
    subst hmm
    have each : ∀ i, i < len → ∃ r : Option Addr × List Int × Nat, W.cell? (a.add i) = some (.slice r.1 r.2.1.length r.2.2) ∧ RowB W.heap.size W r.1 r.2.1 r.2.2 ∧ Bnd r.2.1 := by
      intro i hi
      obtain ⟨c0, t0⟩ := hall i (by omega)
      obtain ⟨ai, zi, ci, e, h1, h2⟩ := open_row t0
      exact ⟨(ai, zi, ci), by rw [c0, e], h1, h2⟩
    obtain ⟨q, hq⟩ := choose_lt each
    refine ⟨(List.range len).map q, by simp, ⟨by simp; omega, fun h0 => ?_, fun r hr => ?_⟩⟩
    · have h0' : 0 < len := by simpa using h0
      obtain ⟨b, off, spot⟩ := a
      have hspot : spot = none := by simpa [Addr.add] using World.cell?_spot (hq 0 h0').1
      subst hspot
      refine ⟨b, off, rfl, ?_, fun i hi => ?_⟩
      · have := World.block_lt_of_cell? _ _ (hq 0 h0').1
        rw [add_plain] at this
        exact this
      · have hi' : i < len := by simpa using hi
        have := (hq i hi').1
        rw [add_plain] at this
        simpa using this
    · simp at hr
      obtain ⟨i, hi, rfl⟩ := hr
      exact (hq i hi).2

set_option maxRecDepth 100000 in
theorem carried_lifted (os : Os) (started : os.Started) (H : Type) (enc : TypeId × Value → H) :
    ReturnsInHanded {} Try.checked os 7 .any (Rows.carriedSpec.pre6 enc Try.prog Try.f7 Rows.carriedRow.domain false) (Rows.carriedSpec.post enc Try.prog Try.f7 false true false false) := by
  refine returnsInHanded_of_change_sized (C := Try.checked) own started (by kernel_rfl) Try.func7
    (ChangeSpec.witness6 (enc := enc) (C := Try.checked) false ⟨#[], #[.int .i64 0, .int .i64 0, .slice none 0 0, .slice none 0 0, .int .i64 0, .int .i64 0, .int .i64 0], []⟩ 8 (by kernel_rfl) (by kernel_rfl) (by kernel_rfl) (by kernel_rfl)) ?_
  intro W base args ds gs before hval0 hW _ _ _
  have hval : ∀ (j : Nat) t v, Try.f7.params[j]? = some t → args[j]? = some v → Value.okWide Try.prog W .any base t v := hval0
  have hW' := hW
  obtain ⟨p, q, hA0, hV, rfl, hfz, hnd⟩ := hW
  have hA : DataW.TrodAll enc Try.prog W 0 (fun _ => true) true Try.f7.params.toList args.toList ds p := hA0
  rw [Try.params7] at hA hval
  obtain ⟨v0, vs0, d0, ds0, p0, q0, hargs, rfl, rfl, h0, r0⟩ := trodAll_cons hA
  obtain ⟨v1, vs1, d1, ds1, p1, q1, rfl, rfl, rfl, h1, r1⟩ := trodAll_cons r0
  obtain ⟨v2, vs2, d2, ds2, p2, q2, rfl, rfl, rfl, h2, r2⟩ := trodAll_cons r1
  obtain ⟨v3, vs3, d3, ds3, p3, q3, rfl, rfl, rfl, h3, r3⟩ := trodAll_cons r2
  obtain ⟨v4, vs4, d4, ds4, p4, q4, rfl, rfl, rfl, h4, r4⟩ := trodAll_cons r3
  obtain ⟨v5, vs5, d5, ds5, p5, q5, rfl, rfl, rfl, h5, r5⟩ := trodAll_cons r4
  obtain ⟨v6, vs6, d6, ds6, p6, q6, rfl, rfl, rfl, h6, r6⟩ := trodAll_cons r5
  obtain ⟨rfl, rfl, rfl⟩ := trodAll_nil r6
  obtain rfl : args = #[v0, v1, v2, v3, v4, v5, v6] := by cases args; simp_all
  obtain ⟨rfl, rfl⟩ := trodVars_none hV
  obtain ⟨a0, rfl, rfl, rfl, w0⟩ := open_int Try.underlying3 (hval 0 3 v0 rfl rfl) h0
  obtain ⟨a1, rfl, rfl, rfl, w1⟩ := open_int Try.underlying3 (hval 1 3 v1 rfl rfl) h1
  obtain ⟨a4, rfl, rfl, rfl, w4⟩ := open_int Try.underlying3 (hval 4 3 v4 rfl rfl) h4
  obtain ⟨a5, rfl, rfl, rfl, w5⟩ := open_int Try.underlying3 (hval 5 3 v5 rfl rfl) h5
  obtain ⟨a6, rfl, rfl, rfl, w6⟩ := open_int Try.underlying3 (hval 6 3 v6 rfl rfl) h6
  obtain ⟨a2, len2, cap2, rfl⟩ := okWide_slice Try.underlying40 (hval 2 40 v2 rfl rfl)
  obtain ⟨a3, len3, cap3, rfl⟩ := okWide_slice Try.underlying22 (hval 3 22 v3 rfl rfl)
  have k2 := h2
  have k3 := h3
  have lt2 : ∀ x ∈ p2, x.block < W.heap.size := by obtain ⟨m, hm⟩ := k2; exact DataW.trod_lt m _ _ _ hm
  have lt3 : ∀ x ∈ p3, x.block < W.heap.size := by obtain ⟨m, hm⟩ := k3; exact DataW.trod_lt m _ _ _ hm
  obtain ⟨rows, hr, hw2⟩ : ∃ rows : List (Option Addr × List Int × Nat), rows.length = len2 ∧ RawsB W.heap.size W a2 rows cap2 := by
    obtain ⟨fuel, hf⟩ := h2
    exact open_raws hf
  obtain ⟨zs, hz, hw3, hb3⟩ : ∃ zs : List Int, zs.length = len3 ∧ RowB W.heap.size W a3 zs cap3 ∧ Bnd zs := by
    obtain ⟨fuel, hf⟩ := h3
    obtain ⟨ao, zs, c, e, h1, h2⟩ := open_row (v := .slice a3 len3 cap3) (by simpa [Value.cells] using hf)
    have e2 := Value.slice.inj e
    obtain ⟨rfl, rfl, rfl⟩ := e2
    exact ⟨zs, rfl, h1, h2⟩
  subst hr
  subst hz
  clear hA0 hval0
  refine (carried_any a0 a1 a4 a5 a6 a2 a3 rows cap2 cap3 zs W (bounds_i64 w0) (bounds_i64 w1) (bounds_i64 w4) (bounds_i64 w5) (bounds_i64 w6) hw2 hw3 hb3).mono fun e W' ⟨he, bel⟩ => ?_
  subst he
  exact ⟨_, rfl, _, _, _, [], _, [], hW', trodAll_mk1 (shut_bool Try.underlying4 _), (trodAll_cons_mk (shut_int Try.underlying3 w0) (trodAll_cons_mk (shut_int Try.underlying3 w1) (trodAll_cons_mk (Below.trod laidOut (by kernel_rfl) (of_decide_eq_true (by kernel_rfl)) k2 bel lt2) (trodAll_cons_mk (Below.trod laidOut (by kernel_rfl) (of_decide_eq_true (by kernel_rfl)) k3 bel lt3) (trodAll_cons_mk (shut_int Try.underlying3 w4) (trodAll_cons_mk (shut_int Try.underlying3 w5) (trodAll_cons_mk (shut_int Try.underlying3 w6) trodAll_mk0))))))), rfl, bel.frame _, fun h => by cases h⟩

theorem carried_holds : Rows.CarriedSaid :=
  OpenClaim.holds_of_wide 7 Try.f7 rfl rfl rfl rfl rfl rfl rfl ⟨rfl, rfl, rfl, rfl, rfl⟩ rfl rfl rfl rfl rfl (by kernel_rfl) Try.func7 (by kernel_rfl)
    (of_decide_eq_true (by kernel_rfl)) (by unfold Func.isWrapper; first | (rw [if_pos (by decide +kernel)]; kernel_rfl) | (rw [if_neg (by decide +kernel)]; exact ⟨rfl, rfl⟩))
    (fun os started H enc _ => carried_lifted os started H enc)
#print axioms carried_holds
end Go.Proofs.Ythdhegmlknpllaa
