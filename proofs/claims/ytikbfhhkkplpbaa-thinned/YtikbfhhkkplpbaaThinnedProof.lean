/-
  Thinned: the statement, proved.
-/
import Derived.Test.YtikbfhhkkplpbaaOpen
import Derived.Test.YtikbfhhkkplpbaaThinD
namespace Go.Proofs.Ytikbfhhkkplpbaa
open Go.ChangeShapes Go.WideShapes Go.ChangeAt Go.RowKit Go.Deep
open Pl

theorem own : ownKnob Try.prog.godebug = none := by kernel_rfl
theorem laidOut : laidOutB Try.prog = true := by kernel_rfl

theorem open_raws {H : Type} {enc : TypeId × Value → H} {W : World} {fuel : Nat} {ao : Option Addr} {len cap : Nat} {d : DataW H} {p : List MemPlace}
    (h : DataW.trod enc Try.prog W 0 (fun _ => true) true fuel 22 (Value.slice ao len cap).cells.toList = some (d, p)) :
    ∃ zs : List Int, zs.length = len ∧ RowI W ao zs cap ∧ Bnd zs ∧ ((d = .nil ∧ len = 0) ∨ ∃ es sp, d = .slice es sp ∧ len ≤ es.length + sp.length) := by
  rcases open_ints Try.underlying22 Try.underlying3 (by kernel_rfl) h with ⟨hcs, hx⟩ | ⟨x, l, c, zs, hcs, _, hl, hm, hz, hx, hcell, hwz⟩
  · simp [Value.cells] at hcs
    obtain ⟨rfl, rfl, rfl⟩ := hcs
    simp only [Prod.mk.injEq] at hx
    exact ⟨[], rfl, ⟨by simp, fun h => by simp at h⟩, fun i hi => by simp at hi, Or.inl ⟨hx.1, rfl⟩⟩
  · simp [Value.cells] at hcs
    obtain ⟨rfl, rfl, rfl⟩ := hcs
    have hz' : zs.length = cap := by simpa using hz
    simp only [Prod.mk.injEq] at hx
    refine ⟨zs.take len, by simp; omega, ⟨by simp; omega, fun h0 => ?_⟩, fun i hi => ?_, Or.inr ⟨_, _, hx.1, by simp [lits]; omega⟩⟩
    · have h0' : 0 < len := by simp at h0; omega
      obtain ⟨b, off, rfl, hc⟩ := ints_at hcell (by omega)
      refine ⟨b, off, rfl, fun i hi => ?_⟩
      have hi' : i < len := by simp at hi; omega
      rw [hc i (by omega)]
      congr 2
      have e : i < zs.length := by omega
      simp [tm, hi', e]
    · have hi' : i < len := by simp at hi; omega
      have e : i < zs.length := by omega
      have ht : tm (zs.take len) i = zs[i] := by simp [tm, hi', e]
      rw [ht]
      exact bounds_i64 (hwz _ (List.getElem_mem e))

set_option maxRecDepth 100000 in
theorem thinned_lifted (os : Os) (started : os.Started) (H : Type) (enc : TypeId × Value → H) :
    ReturnsInHanded {} Try.checked os 4 .any (Rows.thinnedSpec.pre6 enc Try.prog Try.f4 Rows.thinnedRow.domain false) (Rows.thinnedSpec.post enc Try.prog Try.f4 false true false false) := by
  refine returnsInHanded_of_change_sized (C := Try.checked) own started (by kernel_rfl) Try.func4
    (ChangeSpec.witness6 (enc := enc) (C := Try.checked) false ⟨#[], #[.int .i64 0, .slice none 0 0, .int .i64 0, .slice none 0 0], []⟩ 8 (by kernel_rfl) (by kernel_rfl) (by kernel_rfl) (by kernel_rfl)) ?_
  intro W base args ds gs before hval0 hW _ hsz0 _
  have hval : ∀ (j : Nat) t v, Try.f4.params[j]? = some t → args[j]? = some v → Value.okWide Try.prog W .any base t v := hval0
  have hsz : (DataW.weightsEach Try.prog (Try.f4.params.toList ++ Rows.thinnedSpec.plain.varTypes Try.prog) (ds ++ gs)).all (· ≤ reachBytes) = true := hsz0
  have hW' := hW
  obtain ⟨p, q, hA0, hV, rfl, hfz, hnd⟩ := hW
  have hA : DataW.TrodAll enc Try.prog W 0 (fun _ => true) true Try.f4.params.toList args.toList ds p := hA0
  rw [Try.params4] at hA hval hsz
  obtain ⟨v0, vs0, d0, ds0, p0, q0, hargs, rfl, rfl, h0, r0⟩ := trodAll_cons hA
  obtain ⟨v1, vs1, d1, ds1, p1, q1, rfl, rfl, rfl, h1, r1⟩ := trodAll_cons r0
  obtain ⟨v2, vs2, d2, ds2, p2, q2, rfl, rfl, rfl, h2, r2⟩ := trodAll_cons r1
  obtain ⟨v3, vs3, d3, ds3, p3, q3, rfl, rfl, rfl, h3, r3⟩ := trodAll_cons r2
  obtain ⟨rfl, rfl, rfl⟩ := trodAll_nil r3
  obtain rfl : args = #[v0, v1, v2, v3] := by cases args; simp_all
  obtain ⟨rfl, rfl⟩ := trodVars_none hV
  obtain ⟨a0, rfl, rfl, rfl, w0⟩ := open_int Try.underlying3 (hval 0 3 v0 rfl rfl) h0
  obtain ⟨a1, len1, cap1, rfl⟩ := okWide_slice Try.underlying22 (hval 1 22 v1 rfl rfl)
  have k1 := h1
  have lt1 : ∀ x ∈ p1, x.block < W.heap.size := by obtain ⟨m, hm⟩ := k1; exact DataW.trod_lt m _ _ _ hm
  obtain ⟨zs, hz, w1, n1, s1⟩ : ∃ zs : List Int, zs.length = len1 ∧ RowI W a1 zs cap1 ∧ Bnd zs ∧ ((d1 = .nil ∧ len1 = 0) ∨ ∃ es sp, d1 = .slice es sp ∧ len1 ≤ es.length + sp.length) := by
    obtain ⟨fuel, hf⟩ := h1
    exact open_raws hf
  obtain ⟨a2, rfl, rfl, rfl, w2⟩ := open_int Try.underlying3 (hval 2 3 v2 rfl rfl) h2
  obtain ⟨a3, len3, cap3, rfl⟩ := okWide_slice Try.underlying22 (hval 3 22 v3 rfl rfl)
  have k3 := h3
  have lt3 : ∀ x ∈ p3, x.block < W.heap.size := by obtain ⟨m, hm⟩ := k3; exact DataW.trod_lt m _ _ _ hm
  obtain ⟨rs, hr, w3, n3, s3⟩ : ∃ zs : List Int, zs.length = len3 ∧ RowI W a3 zs cap3 ∧ Bnd zs ∧ ((d3 = .nil ∧ len3 = 0) ∨ ∃ es sp, d3 = .slice es sp ∧ len3 ≤ es.length + sp.length) := by
    obtain ⟨fuel, hf⟩ := h3
    exact open_raws hf
  have b1 : len1 ≤ 17592186043904 := by
    rcases s1 with ⟨_, e⟩ | ⟨es, sp, e, hle⟩
    · omega
    · subst e
      have := sized_slice hsz (j := 1) (t := 22) (e := 3) rfl rfl Try.underlying22
      rw [bytes3] at this
      have := reach_len this hle
      omega
  have b3 : len3 ≤ 17592186043904 := by
    rcases s3 with ⟨_, e⟩ | ⟨es, sp, e, hle⟩
    · omega
    · subst e
      have := sized_slice hsz (j := 3) (t := 22) (e := 3) rfl rfl Try.underlying22
      rw [bytes3] at this
      have := reach_len this hle
      omega
  subst hz
  subst hr
  clear hA0 hval0 hsz0
  refine (thinned_any a0 a2 a1 a3 zs rs cap1 cap3 W w1 w3 n1 n3 (by omega) (by omega) (bounds_i64 w0) (bounds_i64 w2)).mono fun e W' ⟨he, bel⟩ => ?_
  subst he
  exact ⟨_, rfl, _, _, _, [], _, [], hW', trodAll_mk1 (shut_bool Try.underlying4 _), (trodAll_cons_mk (shut_int Try.underlying3 w0) (trodAll_cons_mk (Below.trod laidOut (by kernel_rfl) (of_decide_eq_true (by kernel_rfl)) k1 bel lt1) (trodAll_cons_mk (shut_int Try.underlying3 w2) (trodAll_cons_mk (Below.trod laidOut (by kernel_rfl) (of_decide_eq_true (by kernel_rfl)) k3 bel lt3) trodAll_mk0)))), rfl, bel.frame _, fun h => by cases h⟩

theorem thinned_holds : Rows.ThinnedSaid :=
  OpenClaim.holds_of_wide 4 Try.f4 rfl rfl rfl rfl rfl rfl rfl ⟨rfl, rfl, rfl, rfl, rfl⟩ rfl rfl rfl rfl rfl (by kernel_rfl) Try.func4 (by kernel_rfl)
    (of_decide_eq_true (by kernel_rfl)) (by unfold Func.isWrapper; first | (rw [if_pos (by decide +kernel)]; kernel_rfl) | (rw [if_neg (by decide +kernel)]; exact ⟨rfl, rfl⟩))
    (fun os started H enc _ => thinned_lifted os started H enc)
#print axioms thinned_holds
end Go.Proofs.Ytikbfhhkkplpbaa
