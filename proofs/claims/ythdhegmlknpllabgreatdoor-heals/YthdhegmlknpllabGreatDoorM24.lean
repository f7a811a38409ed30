import Derived.Test.YthdhegmlknpllabGreatDoorM23
import Derived.ArgAppend
import Derived.Laws.IdiomCopy
/-
  Rows of bytes, also those that were made of a text.
-/
namespace Go.Proofs.YthdhegmlknpllabGreatDoor
open Go.RowKit Go.Maps Go.MuLone

/-- A slice of bytes of one's own. -/
def BRow (w : World) (base : Nat) (v : Value) (l : List UInt8) : Prop :=
  ∃ g cap, v = .slice (some ⟨g, 0, none⟩) l.length cap ∧ base ≤ g ∧ g < w.heap.size ∧ l.length ≤ cap ∧ (∀ j, j < l.length → w.cell? ⟨g, j, none⟩ = (logC l)[j]?) ∧ (∀ j, j < cap → (w.cell? ⟨g, j, none⟩).isSome = true ∧ w.frozen? ⟨g, j, none⟩ = false)

theorem BRow.fr {w w' : World} {base : Nat} {v : Value} {l : List UInt8} {F : List Nat} (h : BRow w base v l) (hf : Fr F w w') (hF : ∀ k ∈ F, v.ownBlock ≠ some k) : BRow w' base v l := by
  obtain ⟨g, cap, rfl, hb, hg, hc, h1, h2⟩ := h
  have e : w'.heap[g]? = w.heap[g]? := hf.block g hg (fun hm => hF g hm rfl)
  refine ⟨g, cap, rfl, hb, Nat.lt_of_lt_of_le hg hf.size, hc, fun j hj => ?_, fun j hj => ?_⟩
  · rw [World.cell?_of_block e]; exact h1 j hj
  · rw [World.cell?_of_block e, World.frozen?_of_block e]; exact h2 j hj

theorem BRow.shape {w : World} {base : Nat} {v : Value} {l : List UInt8} (h : BRow w base v l) : ∃ g cap, v = .slice (some ⟨g, 0, none⟩) l.length cap ∧ base ≤ g ∧ g < w.heap.size := by
  obtain ⟨g, cap, e, hb, hg, _⟩ := h
  exact ⟨g, cap, e, hb, hg⟩

/-- It is read as a text. -/
theorem BRow.text {w : World} {base : Nat} {v : Value} {l : List UInt8} (h : BRow w base v l) : (convert 50 9 v).run Tryz.prog w = .ok (.string ⟨l.toArray⟩) w := by
  obtain ⟨g, cap, rfl, hb, hg, hc, h1, h2⟩ := h
  refine run_convert_bytes_back (P := Tryz.prog) w 50 9 5 ⟨g, 0, none⟩ cap l Tryz.underlying50 Tryz.underlying5 Tryz.underlying9 (fun j hj => ?_)
  rw [Addr.add_lit, Nat.zero_add, h1 j hj]
  simp [logC, u8, hj]

/-- []byte of a text. -/
theorem brow_of (w : World) (t : ByteArray) : ∃ v w', (convert 9 50 (.string t)).run Tryz.prog w = .ok v w' ∧ BRow w' w.heap.size v t.data.toList ∧ Fr [] w w' := by
  refine ⟨_, _, run_bytes_of_string (P := Tryz.prog) w 9 50 5 t Tryz.underlying9 Tryz.underlying50 Tryz.underlying5, ?_, ((Fr.refl [] w).drew).alloc _⟩
  obtain ⟨cap, hcap⟩ : ∃ cap, grownCap w t.size 0 5 = cap := ⟨_, rfl⟩
  have hge : t.size ≤ cap := by rw [← hcap]; exact grownCap_ge w t.size 0 5
  rw [hcap]
  have hlen : t.data.toList.length = t.size := Array.length_toList
  have hrs : (bytesRow t cap).size = cap := by
    have : t.data.size = t.size := rfl
    simp [bytesRow]; omega
  have hh : (w.drew.alloc (.cells (bytesRow t cap) 5 ((bytesRow t cap).size, (bytesRow t cap).size + 1))).heap[w.heap.size]? = some (.cells (bytesRow t cap) 5 ((bytesRow t cap).size, (bytesRow t cap).size + 1)) := heap_alloc_new w.drew _
  refine ⟨w.heap.size, cap, by rw [hlen], Nat.le_refl _, by simp, by omega, fun j hj => ?_, fun j hj => ⟨?_, ?_⟩⟩
  · rw [cell_of hh]
    have hj' : j < t.size := by rw [hlen] at hj; exact hj
    have hj2 : j < t.data.size := hj'
    unfold bytesRow
    rw [Array.getElem?_append_left (by simpa using hj2)]
    simp [logC]
    rfl
  · rw [cell_of hh, Array.getElem?_eq_getElem (by omega)]
    rfl
  · simp only [World.frozen?, hh]
    simp [hrs]
    omega

theorem BRow.own {w : World} {base n : Nat} {v : Value} {l : List UInt8} (hn : n = l.length) (h0 : 0 < n) (h : w.ownsRow base 5 1 v n (logC l)) : BRow w base v l := by
  subst hn
  rcases h.2 with ⟨h1, h2⟩ | ⟨g, c, cur, h1, hb, hg, hc, hm, hs, ht⟩
  · omega
  · refine ⟨g, c, h1, hb, (Array.getElem?_eq_some_iff.1 hg).1, hc, fun j hj => ?_, fun j hj => ⟨?_, froz_of hg _⟩⟩
    · rw [cell_of hg, ← ht, List.getElem?_take_of_lt (by omega), Array.getElem?_toList]
    · rw [cell_of hg, Array.getElem?_eq_getElem (by omega)]
      rfl

theorem setCells_gb' (g : Nat) : ∀ (vs : List Value) (o : Nat) (w : World), w.grownBy (w.setCells g o vs) (some g)
  | [], _, w => World.grownBy.refl _ _
  | v :: r, o, w => by
    have ih := setCells_gb' g r (o + 1) (w.setCell ⟨g, o, none⟩ v)
    exact ⟨ih.os, ih.tape, ih.output, by have := ih.size; rw [World.size_setCell] at this; exact this, fun k hk hn => (ih.block k (by simpa using hk) hn).trans (heap_setCell_other _ _ _ _ (by simpa using hn))⟩

/-- append of bytes. -/
theorem wpList_append_b {ops : Array Oper} {rest : List Oper} {o : Oper} {a : Act} {Q : Exit → Act → World → Prop} (w : World) (hgd : o.guard = none) (s x : Operand)
    (hop : o.op = Op.call { callee := Callee.builtin Builtin.append, args := #[s, x], argTypes := #[50, 50] })
    (base : Nat) (v : Value) (l : List UInt8) (hs : a.eval s = v) (hB : BRow w base v l) (ad : Addr) (m c : Nat) (ys : List UInt8) (hx : a.eval x = .slice (some ad) m c) (hm : ys.length = m) (h0 : 0 < m)
    (hc : ∀ j u, (logC ys)[j]? = some u → w.cell? (ad.add j) = some u) (hb : l.length + m ≤ 1000000) (hbase : base ≤ w.heap.size)
    (hK : ∀ v' w', BRow w' base v' (l ++ ys) → w.grownBy w' v.ownBlock → wpList Tryz.prog ops Q rest (a.put o.dst v') w') : wpList Tryz.prog ops Q (o :: rest) a w := by
  obtain ⟨i0, hi, hz0, hz1, hz2⟩ := info_parts info5
  obtain ⟨g, cap, rfl, hbg, hg, hcl, h1, h2⟩ := hB
  have h1c : ∀ u ∈ logC ys, u.oneCell' = true := by
    intro u hu
    simp only [logC, List.mem_map] at hu
    obtain ⟨b, _, rfl⟩ := hu
    rfl
  by_cases hr : l.length + m ≤ cap
  · refine wpList_plain hgd fun K hK' => ?_
    have hrun := run_append_room_cells (P := Tryz.prog) w 50 o.type 5 i0 Tryz.underlying50 hi g 0 l.length cap ad m c (logC ys) (by rw [hz1, logC_len]; omega) hc h1c hr (fun j hj => by rw [logC_len] at hj; rw [hz1]; exact (h2 _ (by omega)).1) (fun j hj => by rw [logC_len] at hj; rw [hz1]; exact (h2 _ (by omega)).2)
    unfold Oper.wp
    simp [execOp, hop, resolve, invoke, builtin, hs, hx, hrun, Result.andThen]
    rw [hz1, Nat.mul_one]
    refine hK' _ _ (hK _ _ ⟨g, cap, by rw [List.length_append, hm], hbg, Nat.lt_of_lt_of_le hg (setCells_gb' g (logC ys) l.length w).size, by simp; omega, fun j hj => ?_, fun j hj => ?_⟩ ?_)
    · simp only [logC, List.map_append]
      by_cases hlt : j < l.length
      · rw [World.cell?_setCells_out _ _ _ _ _ (fun _ _ => Or.inl hlt), h1 j hlt, List.getElem?_append_left (by simpa using hlt)]
        rfl
      · have hj' : j - l.length < ys.length := by simp at hj; omega
        have := World.cell?_setCells_in g (logC ys) l.length w (fun i hi => by rw [logC_len] at hi; exact (h2 _ (by omega)).1) (j - l.length) (by rw [logC_len]; exact hj')
        rw [show l.length + (j - l.length) = j by omega] at this
        rw [List.getElem?_append_right (by simp; omega)]
        simp only [List.length_map]
        refine this.trans ?_
        simp [logC, hj']
    · rw [World.frozen?_setCells]
      refine ⟨?_, (h2 j hj).2⟩
      by_cases hin : l.length ≤ j ∧ j < l.length + ys.length
      · have := World.cell?_setCells_in g (logC ys) l.length w (fun i hi => by rw [logC_len] at hi; exact (h2 _ (by omega)).1) (j - l.length) (by rw [logC_len]; omega)
        rw [show l.length + (j - l.length) = j by omega] at this
        rw [this]
        rfl
      · rw [World.cell?_setCells_out _ _ _ _ _ (fun _ _ => by rw [logC_len]; show j < l.length ∨ l.length + ys.length ≤ j; omega)]
        exact (h2 j hj).1
    · exact setCells_gb' g (logC ys) l.length w
  · refine wpList_append_grows w hgd s x 50 hop 5 i0 _ 1 1 Tryz.underlying50 hi hz0 hz1 hz2 rfl (by omega) (some ⟨g, 0, none⟩) l.length cap (logC l) hs (fun e => by cases e) (by rw [logC_len]; omega) (fun b hb j u hj => ?_) ad m c (logC ys) hx (by rw [logC_len]; omega) hc h1c (by omega) (by unfold maxLen; omega) (by omega) ?_
    · cases hb
      have hj' : j < l.length := by
        have := (List.getElem?_eq_some_iff.1 hj).1
        rw [logC_len] at this
        exact this
      rw [Addr.add_lit, Nat.zero_add, h1 j hj']
      exact hj
    · intro v' w' ho hgr
      refine hK v' w' ?_ ⟨hgr.os, hgr.tape, hgr.output, hgr.size, fun k hk _ => hgr.block k hk (by simp)⟩
      have e : logC l ++ logC ys = logC (l ++ ys) := by simp [logC]
      rw [e] at ho
      have := BRow.own (l := l ++ ys) (by simp [hm]) (by omega) ho
      obtain ⟨g2, c2, e2, hb2, r⟩ := this
      exact ⟨g2, c2, e2, Nat.le_trans hbase hb2, r⟩
end Go.Proofs.YthdhegmlknpllabGreatDoor
