import Derived.Test.YthdhegmlknpllaaGreatM54
import Derived.Test.YthdhegmlknpllaaGreatChecked
import Derived.ProofKit
import Derived.OpenShut
import Derived.ChangeOld
import Derived.SizedLaws
import Derived.Deep.Slices
import Derived.Laws.IdiomArrays
import Derived.JoinedCond
/-
  What the laws' arguments read: two arrays of three, a script.
-/
namespace Go.Proofs.YthdhegmlknpllaaGreat
open Go.ChangeShapes Go.WideShapes Go.ChangeAt Go.RowKit Go.Deep

set_option linter.constructorNameAsVariable false
theorem own : ownKnob Tryz.prog.godebug = none := by kernel_rfl

theorem bulk_one {H : Type} (d : DataW H) : 1 ≤ Rows.uptoBulk d := by
  cases d with
  | lit l => cases l <;> simp [Rows.uptoBulk]
  | nil => simp [Rows.uptoBulk]
  | ptr d => simp [Rows.uptoBulk]
  | slice elems spare => simp [Rows.uptoBulk]
  | agg parts => simp [Rows.uptoBulk]
  | iface t d => simp [Rows.uptoBulk]
  | map entries => simp [Rows.uptoBulk]
  | held h => simp [Rows.uptoBulk]
theorem bulk_part {H : Type} {d : DataW H} {l : List (DataW H)} (h : d ∈ l) : Rows.uptoBulk d ≤ Rows.uptoBulkAll l := by
  induction l with
  | nil => cases h
  | cons x r ih =>
    simp only [Rows.uptoBulkAll]
    cases List.mem_cons.1 h with
    | inl e => subst e; omega
    | inr e => have := ih e; omega
theorem bulk_len {H : Type} (l : List (DataW H)) : l.length ≤ Rows.uptoBulkAll l := by
  induction l with
  | nil => simp
  | cons x r ih => have := bulk_one x; simp only [Rows.uptoBulkAll, List.length_cons]; omega
theorem bulk_slice {H : Type} (elems spare : List (DataW H)) : Rows.uptoBulkAll elems ≤ Rows.uptoBulk (.slice elems spare) := by
  simp only [Rows.uptoBulk]
  omega

section
variable {H : Type} {enc : TypeId × Value → H} {W : World}
theorem open_arr {cs : Array Value} {d : DataW H} {p : List MemPlace} (hs : cs.size = 3) (h : DataW.Trod enc Tryz.prog W 0 (fun _ => true) true 22 (.agg cs) d p) :
    ∃ a b c : Int, cs = #[.int .i64 a, .int .i64 b, .int .i64 c] ∧ ∀ k, k < 3 → In64 (tm [a, b, c] k) := by
  obtain ⟨c0, c1, c2, rfl⟩ : ∃ c0 c1 c2, cs = #[c0, c1, c2] := by
    obtain ⟨l⟩ := cs
    match l, hs with
    | [c0, c1, c2], _ => exact ⟨c0, c1, c2, rfl⟩
  obtain ⟨fuel, hf⟩ := h
  obtain ⟨y0, y1, y2, n, _, h0, h1, h2⟩ := trod_array3 Tryz.underlying22 (by kernel_rfl) hf
  obtain ⟨a, e0, _, w0⟩ := DataW.trod_int Tryz.underlying3 h0
  obtain ⟨b, e1, _, w1⟩ := DataW.trod_int Tryz.underlying3 h1
  obtain ⟨c, e2, _, w2⟩ := DataW.trod_int Tryz.underlying3 h2
  cases e0
  cases e1
  cases e2
  refine ⟨a, b, c, rfl, fun k hk => ?_⟩
  rcases (by omega : k = 0 ∨ k = 1 ∨ k = 2) with rfl | rfl | rfl
  · exact bounds_i64 w0
  · exact bounds_i64 w1
  · exact bounds_i64 w2

theorem open_list {fuel : Nat} {v : Value} {d : DataW H} {p : List MemPlace} (h : DataW.trod enc Tryz.prog W 0 (fun _ => true) true fuel 39 [v] = some (d, p)) :
    ∃ (lo : Option Addr) (zs : List Int) (c : Nat), v = .slice lo zs.length c ∧ RowG W lo zs c ∧ (lo = none → c = 0) ∧ (∀ k off, lo = some ⟨k, off, none⟩ → 0 < zs.length → k < W.heap.size) ∧ (∀ i, i < zs.length → In64 (tm zs i)) ∧ zs.length ≤ Rows.uptoBulk d := by
  rcases open_ints Tryz.underlying39 Tryz.underlying3 (by kernel_rfl) h with ⟨hcs, hx⟩ | ⟨x, l, c, zs, hcs, _, hl, hm, hz, hx, hcell, hwz⟩
  · simp at hcs
    exact ⟨none, [], 0, hcs, ⟨by simp, fun h => by simp at h⟩, fun _ => rfl, fun k off e => (by cases e), fun i hi => by simp at hi, by simp⟩
  · simp at hcs
    have hz' : zs.length = c := by simpa using hz
    have hlen : (zs.take l).length = l := by simp; omega
    refine ⟨some x, zs.take l, c, by rw [hcs, hlen], ⟨by omega, fun h0 => ?_⟩, fun e => (by cases e), fun k off e h0 => ?_, fun i hi => ?_, ?_⟩
    · have h0' : 0 < l := by omega
      obtain ⟨b, off, he, hc⟩ := ints_at hcell (by omega)
      refine ⟨b, off, by rw [he], fun i hi => ?_⟩
      have hi' : i < l := by omega
      rw [hc i (by omega)]
      congr 2
      have e : i < zs.length := by omega
      simp [tm, hi', e]
    · obtain ⟨b, off', he, hc⟩ := ints_at hcell (by omega)
      have := World.block_lt_of_cell? _ _ (hc 0 (by omega))
      rw [he] at e
      cases e
      exact this
    · have hi' : i < l := by omega
      have e : i < zs.length := by omega
      have ht : tm (zs.take l) i = zs[i] := by simp [tm, hi', e]
      rw [ht]
      exact bounds_i64 (hwz _ (List.getElem_mem e))
    · have e1 : d = .slice (lits .i64 (zs.take l)) (lits .i64 (zs.drop l)) := congrArg Prod.fst hx
      rw [e1]
      have h1 := bulk_slice (H := H) (lits .i64 (zs.take l)) (lits .i64 (zs.drop l))
      have h2 := bulk_len (H := H) (lits .i64 (zs.take l))
      simp only [lits, List.length_map] at h1 h2
      simp only [lits]
      omega

theorem list6 {α : Type} (l : List α) (h : l.length = 6) : ∃ c0 c1 c2 c3 c4 c5, l = [c0, c1, c2, c3, c4, c5] := by
  match l, h with
  | [c0, c1, c2, c3, c4, c5], _ => exact ⟨c0, c1, c2, c3, c4, c5, rfl⟩
theorem trod6 {P : Program} {w : World} {base : Nat} {spare : Nat → Bool} {held : Bool} {fuel : Nat} {t : TypeId} {cs : List Value} {x : DataW H × List MemPlace} {f0 f1 f2 f3 f4 f5 : Field} (ht : P.underlying t = some (.struct #[f0, f1, f2, f3, f4, f5])) (h : DataW.trod enc P w base spare held fuel t cs = some x) :
    ∃ y0 y1 y2 y3 y4 y5 m, x.1 = .agg [y0.1, y1.1, y2.1, y3.1, y4.1, y5.1] ∧ cs.length = P.cellsOf t ∧
      DataW.trod enc P w base spare held m f0.type ((cs.drop f0.offset).take (P.cellsOf f0.type)) = some y0 ∧
      DataW.trod enc P w base spare held m f1.type ((cs.drop f1.offset).take (P.cellsOf f1.type)) = some y1 ∧
      DataW.trod enc P w base spare held m f2.type ((cs.drop f2.offset).take (P.cellsOf f2.type)) = some y2 ∧
      DataW.trod enc P w base spare held m f3.type ((cs.drop f3.offset).take (P.cellsOf f3.type)) = some y3 ∧
      DataW.trod enc P w base spare held m f4.type ((cs.drop f4.offset).take (P.cellsOf f4.type)) = some y4 ∧
      DataW.trod enc P w base spare held m f5.type ((cs.drop f5.offset).take (P.cellsOf f5.type)) = some y5 := by
  obtain ⟨xs, m, _, hx, hl, hxs, hf⟩ := DataW.trod_struct ht h
  obtain ⟨y0, y1, y2, y3, y4, y5, rfl⟩ := list6 xs hxs
  exact ⟨y0, y1, y2, y3, y4, y5, m, by rw [hx]; rfl, hl, hf 0 f0 rfl, hf 1 f1 rfl, hf 2 f2 rfl, hf 3 f3 rfl, hf 4 f4 rfl, hf 5 f5 rfl⟩
theorem cells3 : Tryz.prog.cellsOf 3 = 1 := by kernel_rfl
theorem cells9 : Tryz.prog.cellsOf 9 = 1 := by kernel_rfl
theorem cells39 : Tryz.prog.cellsOf 39 = 1 := by kernel_rfl
theorem cells41 : Tryz.prog.cellsOf 41 = 6 := by kernel_rfl

theorem open_op {fuel : Nat} {cs : List Value} {d : DataW H} {p : List MemPlace} (h : DataW.trod enc Tryz.prog W 0 (fun _ => true) true fuel 41 cs = some (d, p)) :
    ∃ o : OpV, cs = [.int .i64 o.k, .int .i64 o.at', .int .i64 o.a, .int .i64 o.b, .string o.t, .slice o.lo o.zs.length o.c] ∧ (o.zs.length ≤ 1500000 → OpOk W.heap.size W o.at' o.a o.b o.lo o.zs o.c) ∧ o.zs.length ≤ Rows.uptoBulk d ∧ o.t.size ≤ Rows.uptoBulk d := by
  obtain ⟨y0, y1, y2, y3, y4, y5, m, hx, hl, f0, f1, f2, f3, f4, f5⟩ := trod6 Tryz.underlying41 h
  rw [cells41] at hl
  obtain ⟨c0, c1, c2, c3, c4, c5, rfl⟩ := list6 cs hl
  have g0 : DataW.trod enc Tryz.prog W 0 (fun _ => true) true m 3 [c0] = some y0 := by
    have h8 : DataW.trod enc Tryz.prog W 0 (fun _ => true) true m 3 (List.take (Tryz.prog.cellsOf 3) [c0, c1, c2, c3, c4, c5]) = some y0 := f0
    rw [cells3] at h8
    exact h8
  have g1 : DataW.trod enc Tryz.prog W 0 (fun _ => true) true m 3 [c1] = some y1 := by
    have h8 : DataW.trod enc Tryz.prog W 0 (fun _ => true) true m 3 (List.take (Tryz.prog.cellsOf 3) [c1, c2, c3, c4, c5]) = some y1 := f1
    rw [cells3] at h8
    exact h8
  have g2 : DataW.trod enc Tryz.prog W 0 (fun _ => true) true m 3 [c2] = some y2 := by
    have h8 : DataW.trod enc Tryz.prog W 0 (fun _ => true) true m 3 (List.take (Tryz.prog.cellsOf 3) [c2, c3, c4, c5]) = some y2 := f2
    rw [cells3] at h8
    exact h8
  have g3 : DataW.trod enc Tryz.prog W 0 (fun _ => true) true m 3 [c3] = some y3 := by
    have h8 : DataW.trod enc Tryz.prog W 0 (fun _ => true) true m 3 (List.take (Tryz.prog.cellsOf 3) [c3, c4, c5]) = some y3 := f3
    rw [cells3] at h8
    exact h8
  have g4 : DataW.trod enc Tryz.prog W 0 (fun _ => true) true m 9 [c4] = some y4 := by
    have h8 : DataW.trod enc Tryz.prog W 0 (fun _ => true) true m 9 (List.take (Tryz.prog.cellsOf 9) [c4, c5]) = some y4 := f4
    rw [cells9] at h8
    exact h8
  have g5 : DataW.trod enc Tryz.prog W 0 (fun _ => true) true m 39 [c5] = some (y5.1, y5.2) := by
    have h8 : DataW.trod enc Tryz.prog W 0 (fun _ => true) true m 39 (List.take (Tryz.prog.cellsOf 39) [c5]) = some y5 := f5
    rw [cells39] at h8
    exact h8
  clear f0 f1 f2 f3 f4 f5
  obtain ⟨k, e0, _, w0⟩ := DataW.trod_int Tryz.underlying3 g0
  obtain ⟨at', e1, _, w1⟩ := DataW.trod_int Tryz.underlying3 g1
  obtain ⟨a, e2, _, w2⟩ := DataW.trod_int Tryz.underlying3 g2
  obtain ⟨b, e3, _, w3⟩ := DataW.trod_int Tryz.underlying3 g3
  obtain ⟨t, e4, hy4, _⟩ := DataW.trod_string Tryz.underlying9 g4
  obtain ⟨lo, zs, c, e5, hr, hn, hlow, hz, hb⟩ := open_list g5
  cases e0
  cases e1
  cases e2
  cases e3
  cases e4
  cases e5
  refine ⟨⟨k, at', a, b, t, lo, zs, c⟩, rfl, fun hlen => ⟨bounds_i64 w1, bounds_i64 w2, hr, hn, hlow, hz, hlen⟩, ?_⟩
  have e1 : d = .agg [y0.1, y1.1, y2.1, y3.1, y4.1, y5.1] := hx
  have e9 : Rows.uptoBulk y4.1 = t.size + 1 := by
    rw [hy4]
    simp only [Rows.uptoBulk]
    rw [Array.length_toList]
    rfl
  rw [e1]
  simp only [Rows.uptoBulk, Rows.uptoBulkAll]
  refine ⟨?_, ?_⟩
  · show zs.length ≤ _
    omega
  · show t.size ≤ _
    omega

/-- A script. -/
theorem open_script {ao : Option Addr} {len cap : Nat} {d : DataW H} {p : List MemPlace} (h : DataW.Trod enc Tryz.prog W 0 (fun _ => true) true 23 (.slice ao len cap) d p) (hk : Rows.uptoBulk d ≤ 1048576) :
    ∃ ops : List OpV, ops.length = len ∧ OpsB W.heap.size W ao ops cap := by
  obtain ⟨fuel, hf⟩ := h
  rcases Go.Deep.open_slice Tryz.underlying23 hf with ⟨hcs, hx⟩ | ⟨a, l, c, m, n, D, Pl, hcs, _, hl, hm, hmm, hx, hall⟩
  · simp [Value.cells] at hcs
    obtain ⟨rfl, rfl, rfl⟩ := hcs
    exact ⟨[], rfl, ⟨by simp, by simp, fun h => by simp at h, fun i o ho => by simp at ho, fun i o ho => by simp at ho⟩⟩
  · simp [Value.cells] at hcs
    obtain ⟨rfl, rfl, rfl⟩ := hcs
    simp at hmm
    subst hmm
    have e1 : d = .slice ((List.range len).map D) ((List.range (m - len)).map fun j => D (len + j)) := congrArg Prod.fst hx
    have hb1 : Rows.uptoBulkAll ((List.range len).map D) ≤ 1048576 := by
      have := bulk_slice ((List.range len).map D) ((List.range (m - len)).map fun j => D (len + j))
      rw [← e1] at this
      omega
    have hb2 : len ≤ 1048576 := by
      have := bulk_len ((List.range len).map D)
      simp only [List.length_map, List.length_range] at this
      omega
    have hb3 : ∀ i, i < len → Rows.uptoBulk (D i) ≤ 1048576 := fun i hi => by
      have := bulk_part (d := D i) (l := (List.range len).map D) (List.mem_map.2 ⟨i, List.mem_range.2 hi, rfl⟩)
      omega
    have each : ∀ i, i < len → ∃ o : OpV, (∀ j, j < 6 → W.cell? ((a.add (i * 6)).add j) = [Value.int .i64 o.k, .int .i64 o.at', .int .i64 o.a, .int .i64 o.b, .string o.t, .slice o.lo o.zs.length o.c][j]?) ∧ OpOk W.heap.size W o.at' o.a o.b o.lo o.zs o.c ∧ o.t.size ≤ 2000000 := fun i hi => by
      obtain ⟨cs', h1, h2⟩ := hall i (by omega)
      rw [cells41] at h1
      obtain ⟨o, e, hok, hz, htz⟩ := open_op h2
      obtain ⟨_, _, h3⟩ := World.cells?_some h1
      refine ⟨o, fun j hj => ?_, hok (by have := hb3 i hi; omega), by have := hb3 i hi; omega⟩
      rw [← e]
      exact h3 j hj
    haveI : Inhabited OpV := ⟨⟨0, 0, 0, 0, .empty, none, [], 0⟩⟩
    obtain ⟨q, hq⟩ := choose_lt each
    have hget : ∀ {i : Nat} {o : OpV}, ((List.range len).map q)[i]? = some o → i < len ∧ o = q i := fun {i o} ho => by
      obtain ⟨h1, h2⟩ := List.getElem?_eq_some_iff.1 ho
      simp at h1 h2
      exact ⟨h1, h2.symm⟩
    refine ⟨(List.range len).map q, by simp, ⟨by simp; omega, by simp; omega, fun h0 => ?_, fun i o ho => ?_, fun i o ho => ?_⟩⟩
    · have h0' : 0 < len := by simpa using h0
      obtain ⟨b, off, spot⟩ := a
      have hc0 : W.cell? (Addr.add (Addr.add ⟨b, off, spot⟩ (0 * 6)) 0) = some (.int .i64 (q 0).k) := (hq 0 h0').1 0 (by omega)
      have hspot : spot = none := by simpa [Addr.add] using World.cell?_spot hc0
      subst hspot
      have hlt : b < W.heap.size := by
        have := World.block_lt_of_cell? _ _ hc0
        rw [add_plain, add_plain] at this
        exact this
      refine ⟨b, off, rfl, hlt, fun i o ho => ?_⟩
      obtain ⟨hi, rfl⟩ := hget ho
      have hj : ∀ j, j < 6 → W.cell? ⟨b, off + i * 6 + j, none⟩ = [Value.int .i64 (q i).k, .int .i64 (q i).at', .int .i64 (q i).a, .int .i64 (q i).b, .string (q i).t, .slice (q i).lo (q i).zs.length (q i).c][j]? := fun j hj => by
        have := (hq i hi).1 j hj
        rw [add_plain, add_plain] at this
        exact this
      exact ⟨hj 0 (by omega), hj 1 (by omega), hj 2 (by omega), hj 3 (by omega), hj 4 (by omega), hj 5 (by omega)⟩
    · obtain ⟨hi, rfl⟩ := hget ho
      exact (hq i hi).2.1
    · obtain ⟨hi, rfl⟩ := hget ho
      exact (hq i hi).2.2

theorem okWide_array {r : Reach} {b0 n : Nat} {t e : TypeId} {v : Value} (ht : Tryz.prog.underlying t = some (.array n e)) (h : Value.okWide Tryz.prog W r b0 t v) : ∃ cs, v = .agg cs ∧ cs.size = Tryz.prog.cellsOf t := by
  simp only [Value.okWide, ht] at h
  obtain ⟨cs, h1, h2, _⟩ := h
  exact ⟨cs, h1, h2⟩
theorem cells22 : Tryz.prog.cellsOf 22 = 3 := by kernel_rfl
end
end Go.Proofs.YthdhegmlknpllaaGreat
