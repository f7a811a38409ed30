/-
  slices.Delete (64) of one snapshot; remove (49).
-/
import Derived.Test.YthdhegmlknpllaaGreatMrk
namespace Go.Proofs.YthdhegmlknpllaaGreat
open Go.RowKit Go.Maps Go.MuLone

theorem snC_take : ∀ (l : List Sn) (i : Nat), (snC l).take (i * 4) = snC (l.take i)
  | [], i => by simp [snC]
  | x :: r, 0 => by simp [snC]
  | x :: r, i + 1 => by
    have ih := snC_take r i
    rw [show (i + 1) * 4 = i * 4 + 4 by omega]
    simp only [snC, List.take_succ_cons, List.flatMap_cons, Sn.cells, List.cons_append, List.nil_append] at ih ⊢
    simpa [List.take_succ_cons] using ih
theorem snC_drop : ∀ (l : List Sn) (i : Nat), (snC l).drop (i * 4) = snC (l.drop i)
  | [], i => by simp [snC]
  | x :: r, 0 => by simp [snC]
  | x :: r, i + 1 => by
    have ih := snC_drop r i
    rw [show (i + 1) * 4 = i * 4 + 4 by omega]
    simp only [snC, List.drop_succ_cons, List.flatMap_cons, Sn.cells, List.cons_append, List.nil_append] at ih ⊢
    simpa [List.drop_succ_cons] using ih
theorem snC_erase (l : List Sn) (i : Nat) : snC (l.eraseIdx i) = snC (l.take i) ++ snC (l.drop (i + 1)) := by
  rw [List.eraseIdx_eq_take_drop_succ]
  simp [snC]

theorem setCells_heap {g : Nat} {t : TypeId} : ∀ (vs : List Value) (o : Nat) (w : World) (cur : Array Value), w.heap[g]? = some (.cells cur t (0, 0)) →
    ∃ cur', (w.setCells g o vs).heap[g]? = some (.cells cur' t (0, 0)) ∧ cur'.size = cur.size ∧ ∀ j, j < cur.size → cur'[j]? = if o ≤ j ∧ j < o + vs.length then vs[j - o]? else cur[j]?
  | [], o, w, cur, h => ⟨cur, h, rfl, fun j _ => by rw [if_neg (fun h => by have := h.2; simp at this; omega)]⟩
  | v :: r, o, w, cur, h => by
    obtain ⟨cur', h1, h2, h3⟩ := setCells_heap r (o + 1) (w.setCell ⟨g, o, none⟩ v) (cur.setIfInBounds o v) (heap_setCell_same w g o cur t v h)
    refine ⟨cur', h1, by simpa using h2, fun j hj => ?_⟩
    rw [h3 j (by simpa using hj)]
    by_cases h4 : o + 1 ≤ j ∧ j < o + 1 + r.length
    · rw [if_pos h4, if_pos (by simp; omega)]
      obtain ⟨k, hk⟩ : ∃ k, j = o + 1 + k := ⟨j - (o + 1), by omega⟩
      subst hk
      rw [show o + 1 + k - (o + 1) = k by omega, show o + 1 + k - o = k + 1 by omega]
      simp
    · rw [if_neg h4]
      by_cases h5 : j = o
      · subst h5
        rw [if_pos (by simp)]
        simp [hj]
      · rw [if_neg (by simp; omega)]
        rw [Array.getElem?_setIfInBounds_ne (by omega)]
theorem setCells_other {g k : Nat} (h : k ≠ g) : ∀ (vs : List Value) (o : Nat) (w : World), (w.setCells g o vs).heap[k]? = w.heap[k]?
  | [], _, _ => rfl
  | v :: r, o, w => by
    rw [World.setCells, setCells_other h r (o + 1), heap_setCell_other _ _ _ _ h]
theorem setCells_gb (g : Nat) : ∀ (vs : List Value) (o : Nat) (w : World), w.grownBy (w.setCells g o vs) (some g)
  | [], _, w => World.grownBy.refl _ _
  | v :: r, o, w => by
    have ih := setCells_gb g r (o + 1) (w.setCell ⟨g, o, none⟩ v)
    exact ⟨ih.os, ih.tape, ih.output, by have := ih.size; rw [World.size_setCell] at this; exact this, fun k hk hn => (ih.block k (by simpa using hk) hn).trans (heap_setCell_other _ _ _ _ (by simpa using hn))⟩

def z4 : List Value := [.int .i64 0, .int .i64 0, .int .i64 0, .int .i64 0]

theorem clear_one (w : World) (ty : TypeId) (g o c : Nat) (hc : ∀ j, j < 4 → (w.cell? ⟨g, o + j, none⟩).isSome = true) (hf : ∀ j, j < 4 → w.frozen? ⟨g, o + j, none⟩ = false) :
    (Builtin.clear_ #[72] ty #[.slice (some ⟨g, o, none⟩) 1 c]).run Tryz.prog w = .ok (.tuple #[]) (w.setCells g o z4) := by
  have hst := run_storeCells_cells (P := Tryz.prog) g o z4 0 w (by simpa [z4] using hc) (by simpa [z4] using hf) (by
    intro v hv
    simp [z4] at hv
    subst hv
    rfl)
  have hzc : (Builtin.zeroCells #[Value.int .i64 0, .int .i64 0, .int .i64 0, .int .i64 0] 1).toList = z4 := by kernel_rfl
  simp [Builtin.clear_, run_underlying Tryz.underlying72, Tryz.zeroValue119, Value.cells, hzc, hst]

/-- The row behind Delete. -/
theorem del_row {w : World} {B g n cap i : Nat} {l : List Sn} (hl : l.length = n) (hi : i < n) (h : w.ownsRow B 119 4 (.slice (some ⟨g, 0, none⟩) n cap) n (snC l)) :
    ((w.setCells g (i * 4) (snC (l.drop (i + 1)))).setCells g ((n - 1) * 4) z4).ownsRow B 119 4 (.slice (some ⟨g, 0, none⟩) (n - 1) cap) (n - 1) (snC (l.eraseIdx i)) := by
  rcases h.2 with ⟨h1, _⟩ | ⟨g', c, cur, h1, hb, hg, hc, hm, hs, ht⟩
  · simp at h1
  · simp at h1
    obtain ⟨rfl, rfl⟩ := h1
    obtain ⟨c1, b1, s1, e1⟩ := setCells_heap (snC (l.drop (i + 1))) (i * 4) w cur hg
    obtain ⟨c2, b2, s2, e2⟩ := setCells_heap z4 ((n - 1) * 4) _ c1 b1
    have hd : (snC (l.drop (i + 1))).length = (n - (i + 1)) * 4 := by rw [snC_len, List.length_drop, hl]
    refine ⟨by rw [snC_len, List.length_eraseIdx_of_lt (by omega), hl], Or.inr ⟨g, cap, c2, rfl, hb, b2, by omega, hm, by omega, ?_⟩⟩
    apply List.ext_getElem?
    intro j
    have hlen : (snC (l.eraseIdx i)).length = (n - 1) * 4 := by rw [snC_len, List.length_eraseIdx_of_lt (by omega), hl]
    by_cases hj : j < (n - 1) * 4
    · rw [List.getElem?_take_of_lt hj, Array.getElem?_toList, e2 j (by omega), if_neg (by omega), e1 j (by omega), snC_erase]
      have ht1 : (snC (l.take i)).length = i * 4 := by rw [snC_len, List.length_take, hl, Nat.min_eq_left (by omega)]
      by_cases hji : j < i * 4
      · rw [if_neg (by omega), List.getElem?_append_left (by omega), ← snC_take, List.getElem?_take_of_lt hji, ← ht, List.getElem?_take_of_lt (by omega), Array.getElem?_toList]
      · rw [if_pos (by omega), List.getElem?_append_right (by omega), ht1]
    · rw [List.getElem?_eq_none (by rw [List.length_take]; omega), List.getElem?_eq_none (by omega)]

set_option maxRecDepth 100000 in
set_option maxHeartbeats 1600000 in
theorem delete_one (B g n cap i : Nat) (l : List Sn) (w : World) (hl : l.length = n) (hi : i < n) (hn : n ≤ 12) (h : w.ownsRow B 119 4 (.slice (some ⟨g, 0, none⟩) n cap) n (snC l)) :
    Calls Tryz.prog 120 #[.slice (some ⟨g, 0, none⟩) n cap, .int .i64 i, .int .i64 (i + 1 : Nat)] w fun e w' => e = .returned (.slice (some ⟨g, 0, none⟩) (n - 1) cap) ∧ w'.ownsRow B 119 4 (.slice (some ⟨g, 0, none⟩) (n - 1) cap) (n - 1) (snC (l.eraseIdx i)) ∧ w.grownBy w' (some g) := by
  obtain ⟨i0, hi0, hz0, hz1, hz2⟩ := info_parts info102
  have hO := h
  rcases h.2 with ⟨h1, _⟩ | ⟨g', c, cur, h1, hb, hg, hc, hm, hs, ht⟩
  · simp at h1
  simp at h1
  obtain ⟨rfl, rfl⟩ := h1
  have hO' : Hid (w.ownsRow B 119 4 (.slice (some ⟨g, 0, none⟩) n cap) n (snC l) ∧ w.heap[g]? = some (.cells cur 119 (0, 0)) ∧ cur.size = cap * 4 ∧ cur.toList.take (n * 4) = snC l) := ⟨hO, hg, hs, ht⟩
  have i1 : (0 : Int) ≤ (i : Int) := Int.natCast_nonneg _
  have i2 : (i : Int) ≤ (n : Int) := by omega
  have i3 : ((i + 1 : Nat) : Int) ≤ (n : Int) := by omega
  have i4 : (n : Int) ≤ (cap : Int) := by omega
  have i5 : ((i : Int) == ((i + 1 : Nat) : Int)) = false := by simp; omega
  have i6 : (i : Int) ≤ (cap : Int) := by omega
  obtain ⟨k, hk⟩ : ∃ k, i + 1 = k := ⟨_, rfl⟩
  rw [hk] at i3 i5 ⊢
  have i7 : (i : Int) ≤ (k : Int) := by omega
  have i8 : (k : Int) ≤ (cap : Int) := by omega
  have i9 : (0 : Int) ≤ (k : Int) := Int.natCast_nonneg _
  obtain ⟨m, hm'⟩ : ∃ m, n - k = m := ⟨_, rfl⟩
  obtain ⟨news, hnw⟩ : ∃ news, snC (l.drop k) = news := ⟨_, rfl⟩
  have hnl : news.length = m * 4 := by rw [← hnw, snC_len, List.length_drop, hl, hm']
  have hn1 : ∀ u ∈ news, u.oneCell' = true := by
    intro u hu
    rw [← hnw] at hu
    simp only [snC, List.mem_flatMap, Sn.cells] at hu
    obtain ⟨x, _, hx⟩ := hu
    simp at hx
    rcases hx with rfl | rfl | rfl | rfl <;> rfl
  have hsrc : ∀ t u, news[t]? = some u → w.cell? ⟨g, k * 4 + t, none⟩ = some u := by
    intro t u hu
    rw [← hnw, ← snC_drop, List.getElem?_drop, ← ht] at hu
    have hlt : k * 4 + t < n * 4 := by
      have := (List.getElem?_eq_some_iff.1 hu).1
      rw [List.length_take] at this
      omega
    rw [List.getElem?_take_of_lt hlt, Array.getElem?_toList] at hu
    rw [cell_of hg]
    exact hu
  have hsp : ∀ j, j < news.length → (w.cell? ⟨g, 0 + i * 4 + j, none⟩).isSome = true ∧ w.frozen? ⟨g, 0 + i * 4 + j, none⟩ = false := by
    intro j hj
    refine ⟨?_, froz_of hg _⟩
    rw [cell_of hg, Array.getElem?_eq_getElem (by omega)]
    rfl
  have HN : Hid (news.length = m * 4 ∧ (∀ u ∈ news, u.oneCell' = true) ∧ (∀ t u, news[t]? = some u → w.cell? ⟨g, k * 4 + t, none⟩ = some u) ∧ (∀ j, j < news.length → (w.cell? ⟨g, 0 + i * 4 + j, none⟩).isSome = true ∧ w.frozen? ⟨g, 0 + i * 4 + j, none⟩ = false) ∧ i + m = n - 1) := ⟨hnl, hn1, hsrc, hsp, by omega⟩
  clear hO h hg hs ht hnl hn1 hsrc hsp
  obtain ⟨p, hp⟩ : ∃ p, n - 1 = p := ⟨_, rfl⟩
  have him : i + m = p := by omega
  have hpc : ¬ cap = p := by omega
  have p1 : (p : Int) ≤ (n : Int) := by omega
  have p2 : (p : Int) ≤ (cap : Int) := by omega
  have p3 : n - p = 1 := by omega
  have hO2 := hO'.out
  obtain ⟨W5, hW5⟩ : ∃ W5, w.drew.setCells g (i * 4) news = W5 := ⟨_, rfl⟩
  have hb5 : ∃ c5, W5.heap[g]? = some (.cells c5 119 (0, 0)) ∧ c5.size = cap * 4 := by
    obtain ⟨c1, b1, s1, _⟩ := setCells_heap news (i * 4) w.drew cur hO2.2.1
    exact ⟨c1, by rw [← hW5]; exact b1, by rw [s1]; exact hO2.2.2.1⟩
  obtain ⟨c5, b5, s5⟩ := hb5
  have hcl : ∀ ty, (Builtin.clear_ #[72] ty #[.slice (some ⟨g, p * 4, none⟩) 1 (cap - p)]).run Tryz.prog W5 = .ok (.tuple #[]) (W5.setCells g (p * 4) z4) := fun ty =>
    clear_one W5 ty g (p * 4) (cap - p) (fun j hj => by rw [cell_of b5, Array.getElem?_eq_getElem (by omega)]; rfl) (fun j _ => froz_of b5 _)
  have HE : Hid ((W5.setCells g (p * 4) z4).ownsRow B 119 4 (.slice (some ⟨g, 0, none⟩) p cap) p (snC (l.eraseIdx i)) ∧ w.grownBy (W5.setCells g (p * 4) z4) (some g)) := by
    have h1 := del_row (w := w.drew) hl hi hO2.1.drew
    rw [hk, hnw, hW5, hp] at h1
    refine ⟨h1, ?_⟩
    rw [← hW5]
    have g1 := setCells_gb g news (i * 4) w.drew
    have g2 := setCells_gb g z4 (p * 4) (w.drew.setCells g (i * 4) news)
    exact ⟨g2.os.trans g1.os, g2.tape.trans g1.tape, g2.output.trans g1.output, Nat.le_trans g1.size g2.size, fun k hk hn => (g2.block k (Nat.lt_of_lt_of_le hk g1.size) hn).trans (g1.block k hk hn)⟩
  have HP : Hid (n - k = m ∧ n - 1 = p) := ⟨hm', hp⟩
  clear hO2 hnw b5 s5 hO' hk hp
  by_cases hkc : cap = k
  · subst hkc
    have H0 : Hid (∀ t u, news[t]? = some u → False) := fun t u hu => by
      have h1 := HN.out.1
      have h2 := (List.getElem?_eq_some_iff.1 hu).1
      omega
    go_enter Tryz.func120, Tryz.ntmps120
    go_wp2
    go_region_law
      ((refine step_append_room (by rfl) _ _ _ (by rfl) 119 i0 4 Tryz.underlying72 hi0 hz1 g 0 i _ (by rfl) ⟨g, 0, none⟩ m _ news (by rfl) HN.out.1 (fun t u hu => (H0.out t u hu).elim) HN.out.2.1 (by omega) HN.out.2.2.2.1 ?_))
    all_goals
      go_wp2
      go_ret
      exact ⟨by rw [HP.out.2]; rfl, by rw [HP.out.2]; exact HE.out.1, HE.out.2⟩
  · go_enter Tryz.func120, Tryz.ntmps120
    go_wp2
    go_region_law
      ((refine step_append_room (by rfl) _ _ _ (by rfl) 119 i0 4 Tryz.underlying72 hi0 hz1 g 0 i cap (by rfl) ⟨g, k * 4, none⟩ m (cap - k) news (by rfl) HN.out.1 (fun t u hu => by rw [Addr.add_lit]; exact HN.out.2.2.1 t u hu) HN.out.2.1 (by omega) HN.out.2.2.2.1 ?_))
    all_goals
      go_wp2
      go_ret
      exact ⟨by rw [HP.out.2]; rfl, by rw [HP.out.2]; exact HE.out.1, HE.out.2⟩
end Go.Proofs.YthdhegmlknpllaaGreat
