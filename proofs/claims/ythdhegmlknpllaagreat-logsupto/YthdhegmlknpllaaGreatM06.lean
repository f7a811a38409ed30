import Derived.Test.YthdhegmlknpllaaGreatM05
namespace Go.Proofs.YthdhegmlknpllaaGreat
open Go.RowKit Go.Maps Go.MuLone
theorem snC_take : ∀ (l : List Sn) (i : Nat), (snC l).take (i * 4) = snC (l.take i)
 | [], i => by simp [snC]
 | x :: r, 0 => by simp [snC]
 | x :: r, i + 1 => by
  have ih := snC_take r i
  rw [show (i + 1) * 4 = i * 4 + 4 by omega]
  simp only [snC, List.take_succ_cons, List.flatMap_cons, Sn.cells, List.cons_append, List.nil_append] at ih ⊢
  simpa [List.take_succ_cons] using ih
theorem snC_drop : ∀ (l : List Sn) (i : Nat), (snC l).drop (i * 4) = snC (l.drop i)
 | [], i => by simp [snC]
 | x :: r, 0 => by simp [snC]
 | x :: r, i + 1 => by
  have ih := snC_drop r i
  rw [show (i + 1) * 4 = i * 4 + 4 by omega]
  simp only [snC, List.drop_succ_cons, List.flatMap_cons, Sn.cells, List.cons_append, List.nil_append] at ih ⊢
  simpa [List.drop_succ_cons] using ih
theorem snC_erase (l : List Sn) (i : Nat) : snC (l.eraseIdx i) = snC (l.take i) ++ snC (l.drop (i + 1)) := by
 rw [List.eraseIdx_eq_take_drop_succ]
 simp [snC]
theorem setCells_heap {g : Nat} {t : TypeId} : ∀ (vs : List Value) (o : Nat) (w : World) (cur : Array Value), w.heap[g]? = some (.cells cur t (0, 0)) →
  ∃ cur', (w.setCells g o vs).heap[g]? = some (.cells cur' t (0, 0)) ∧ cur'.size = cur.size ∧ ∀ j, j < cur.size → cur'[j]? = if o ≤ j ∧ j < o + vs.length then vs[j - o]? else cur[j]?
 | [], o, w, cur, h => ⟨cur, h, rfl, fun j _ => by rw [if_neg (fun h => by have := h.2; simp at this; omega)]⟩
 | v :: r, o, w, cur, h => by
  obtain ⟨cur', h1, h2, h3⟩ := setCells_heap r (o + 1) (w.setCell ⟨g, o, none⟩ v) (cur.setIfInBounds o v) (heap_setCell_same w g o cur t v h)
  refine ⟨cur', h1, by simpa using h2, fun j hj => ?_⟩
  rw [h3 j (by simpa using hj)]
  by_cases h4 : o + 1 ≤ j ∧ j < o + 1 + r.length
  · rw [if_pos h4, if_pos (by simp; omega)]
    obtain ⟨k, hk⟩ : ∃ k, j = o + 1 + k := ⟨j - (o + 1), by omega⟩
    subst hk
    rw [show o + 1 + k - (o + 1) = k by omega, show o + 1 + k - o = k + 1 by omega]
    simp
  · rw [if_neg h4]
    by_cases h5 : j = o
    · subst h5
      rw [if_pos (by simp)]
      simp [hj]
    · rw [if_neg (by simp; omega)]
      rw [Array.getElem?_setIfInBounds_ne (by omega)]
theorem setCells_gb (g : Nat) : ∀ (vs : List Value) (o : Nat) (w : World), w.grownBy (w.setCells g o vs) (some g)
 | [], _, w => World.grownBy.refl _ _
 | v :: r, o, w => by
  have ih := setCells_gb g r (o + 1) (w.setCell ⟨g, o, none⟩ v)
  exact ⟨ih.os, ih.tape, ih.output, by have := ih.size; rw [World.size_setCell] at this; exact this, fun k hk hn => (ih.block k (by simpa using hk) hn).trans (heap_setCell_other _ _ _ _ (by simpa using hn))⟩
def z4 : List Value := [.int .i64 0, .int .i64 0, .int .i64 0, .int .i64 0]
theorem clear_one (w : World) (ty : TypeId) (g o c : Nat) (hc : ∀ j, j < 4 → (w.cell? ⟨g, o + j, none⟩).isSome = true) (hf : ∀ j, j < 4 → w.frozen? ⟨g, o + j, none⟩ = false) :
  (Builtin.clear_ #[72] ty #[.slice (some ⟨g, o, none⟩) 1 c]).run Tryz.prog w = .ok (.tuple #[]) (w.setCells g o z4) := by
 have hst := run_storeCells_cells (P := Tryz.prog) g o z4 0 w (by simpa [z4] using hc) (by simpa [z4] using hf) (by
  intro v hv
  simp [z4] at hv
  subst hv
  rfl)
 have hzc : (Builtin.zeroCells #[Value.int .i64 0, .int .i64 0, .int .i64 0, .int .i64 0] 1).toList = z4 := by kernel_rfl
 simp [Builtin.clear_, run_underlying Tryz.underlying72, Tryz.zeroValue119, Value.cells, hzc, hst]
theorem del_row {w : World} {B g n cap i : Nat} {l : List Sn} (hl : l.length = n) (hi : i < n) (h : w.ownsRow B 119 4 (.slice (some ⟨g, 0, none⟩) n cap) n (snC l)) :
  ((w.setCells g (i * 4) (snC (l.drop (i + 1)))).setCells g ((n - 1) * 4) z4).ownsRow B 119 4 (.slice (some ⟨g, 0, none⟩) (n - 1) cap) (n - 1) (snC (l.eraseIdx i)) := by
 rcases h.2 with ⟨h1, _⟩ | ⟨g', c, cur, h1, hb, hg, hc, hm, hs, ht⟩
 · simp at h1
 · simp at h1
   obtain ⟨rfl, rfl⟩ := h1
   obtain ⟨c1, b1, s1, e1⟩ := setCells_heap (snC (l.drop (i + 1))) (i * 4) w cur hg
   obtain ⟨c2, b2, s2, e2⟩ := setCells_heap z4 ((n - 1) * 4) _ c1 b1
   have hd : (snC (l.drop (i + 1))).length = (n - (i + 1)) * 4 := by rw [snC_len, List.length_drop, hl]
   refine ⟨by rw [snC_len, List.length_eraseIdx_of_lt (by omega), hl], Or.inr ⟨g, cap, c2, rfl, hb, b2, by omega, hm, by omega, ?_⟩⟩
   apply List.ext_getElem?
   intro j
   have hlen : (snC (l.eraseIdx i)).length = (n - 1) * 4 := by rw [snC_len, List.length_eraseIdx_of_lt (by omega), hl]
   by_cases hj : j < (n - 1) * 4
   · rw [List.getElem?_take_of_lt hj, Array.getElem?_toList, e2 j (by omega), if_neg (by omega), e1 j (by omega), snC_erase]
     have ht1 : (snC (l.take i)).length = i * 4 := by rw [snC_len, List.length_take, hl, Nat.min_eq_left (by omega)]
     by_cases hji : j < i * 4
     · rw [if_neg (by omega), List.getElem?_append_left (by omega), ← snC_take, List.getElem?_take_of_lt hji, ← ht, List.getElem?_take_of_lt (by omega), Array.getElem?_toList]
     · rw [if_pos (by omega), List.getElem?_append_right (by omega), ht1]
   · rw [List.getElem?_eq_none (by rw [List.length_take]; omega), List.getElem?_eq_none (by omega)]
set_option maxRecDepth 100000 in
set_option maxHeartbeats 1600000 in
theorem delete_one (B g n cap i : Nat) (l : List Sn) (w : World) (hl : l.length = n) (hi : i < n) (hn : n ≤ 12) (h : w.ownsRow B 119 4 (.slice (some ⟨g, 0, none⟩) n cap) n (snC l)) :
  Calls Tryz.prog 120 #[.slice (some ⟨g, 0, none⟩) n cap, .int .i64 i, .int .i64 (i + 1 : Nat)] w fun e w' => e = .returned (.slice (some ⟨g, 0, none⟩) (n - 1) cap) ∧ w'.ownsRow B 119 4 (.slice (some ⟨g, 0, none⟩) (n - 1) cap) (n - 1) (snC (l.eraseIdx i)) ∧ w.grownBy w' (some g) := by
 obtain ⟨i0, hi0, hz0, hz1, hz2⟩ := info_parts info102
 have hO := h
 rcases h.2 with ⟨h1, _⟩ | ⟨g', c, cur, h1, hb, hg, hc, hm, hs, ht⟩
 · simp at h1
 simp at h1
 obtain ⟨rfl, rfl⟩ := h1
 have hO' : Hid (w.ownsRow B 119 4 (.slice (some ⟨g, 0, none⟩) n cap) n (snC l) ∧ w.heap[g]? = some (.cells cur 119 (0, 0)) ∧ cur.size = cap * 4 ∧ cur.toList.take (n * 4) = snC l) := ⟨hO, hg, hs, ht⟩
 have i1 : (0 : Int) ≤ (i : Int) := Int.natCast_nonneg _
 have i2 : (i : Int) ≤ (n : Int) := by omega
 have i3 : ((i + 1 : Nat) : Int) ≤ (n : Int) := by omega
 have i4 : (n : Int) ≤ (cap : Int) := by omega
 have i5 : ((i : Int) == ((i + 1 : Nat) : Int)) = false := by simp; omega
 have i6 : (i : Int) ≤ (cap : Int) := by omega
 obtain ⟨k, hk⟩ : ∃ k, i + 1 = k := ⟨_, rfl⟩
 rw [hk] at i3 i5 ⊢
 have i7 : (i : Int) ≤ (k : Int) := by omega
 have i8 : (k : Int) ≤ (cap : Int) := by omega
 have i9 : (0 : Int) ≤ (k : Int) := Int.natCast_nonneg _
 obtain ⟨m, hm'⟩ : ∃ m, n - k = m := ⟨_, rfl⟩
 obtain ⟨news, hnw⟩ : ∃ news, snC (l.drop k) = news := ⟨_, rfl⟩
 have hnl : news.length = m * 4 := by rw [← hnw, snC_len, List.length_drop, hl, hm']
 have hn1 : ∀ u ∈ news, u.oneCell' = true := by
  intro u hu
  rw [← hnw] at hu
  simp only [snC, List.mem_flatMap, Sn.cells] at hu
  obtain ⟨x, _, hx⟩ := hu
  simp at hx
  rcases hx with rfl | rfl | rfl | rfl <;> rfl
 have hsrc : ∀ t u, news[t]? = some u → w.cell? ⟨g, k * 4 + t, none⟩ = some u := by
  intro t u hu
  rw [← hnw, ← snC_drop, List.getElem?_drop, ← ht] at hu
  have hlt : k * 4 + t < n * 4 := by
   have := (List.getElem?_eq_some_iff.1 hu).1
   rw [List.length_take] at this
   omega
  rw [List.getElem?_take_of_lt hlt, Array.getElem?_toList] at hu
  rw [cell_of hg]
  exact hu
 have hsp : ∀ j, j < news.length → (w.cell? ⟨g, 0 + i * 4 + j, none⟩).isSome = true ∧ w.frozen? ⟨g, 0 + i * 4 + j, none⟩ = false := by
  intro j hj
  refine ⟨?_, froz_of hg _⟩
  rw [cell_of hg, Array.getElem?_eq_getElem (by omega)]
  rfl
 have HN : Hid (news.length = m * 4 ∧ (∀ u ∈ news, u.oneCell' = true) ∧ (∀ t u, news[t]? = some u → w.cell? ⟨g, k * 4 + t, none⟩ = some u) ∧ (∀ j, j < news.length → (w.cell? ⟨g, 0 + i * 4 + j, none⟩).isSome = true ∧ w.frozen? ⟨g, 0 + i * 4 + j, none⟩ = false) ∧ i + m = n - 1) := ⟨hnl, hn1, hsrc, hsp, by omega⟩
 clear hO h hg hs ht hnl hn1 hsrc hsp
 obtain ⟨p, hp⟩ : ∃ p, n - 1 = p := ⟨_, rfl⟩
 have him : i + m = p := by omega
 have hpc : ¬ cap = p := by omega
 have p1 : (p : Int) ≤ (n : Int) := by omega
 have p2 : (p : Int) ≤ (cap : Int) := by omega
 have p3 : n - p = 1 := by omega
 have hO2 := hO'.out
 obtain ⟨W5, hW5⟩ : ∃ W5, w.drew.setCells g (i * 4) news = W5 := ⟨_, rfl⟩
 have hb5 : ∃ c5, W5.heap[g]? = some (.cells c5 119 (0, 0)) ∧ c5.size = cap * 4 := by
  obtain ⟨c1, b1, s1, _⟩ := setCells_heap news (i * 4) w.drew cur hO2.2.1
  exact ⟨c1, by rw [← hW5]; exact b1, by rw [s1]; exact hO2.2.2.1⟩
 obtain ⟨c5, b5, s5⟩ := hb5
 have hcl : ∀ ty, (Builtin.clear_ #[72] ty #[.slice (some ⟨g, p * 4, none⟩) 1 (cap - p)]).run Tryz.prog W5 = .ok (.tuple #[]) (W5.setCells g (p * 4) z4) := fun ty =>
  clear_one W5 ty g (p * 4) (cap - p) (fun j hj => by rw [cell_of b5, Array.getElem?_eq_getElem (by omega)]; rfl) (fun j _ => froz_of b5 _)
 have HE : Hid ((W5.setCells g (p * 4) z4).ownsRow B 119 4 (.slice (some ⟨g, 0, none⟩) p cap) p (snC (l.eraseIdx i)) ∧ w.grownBy (W5.setCells g (p * 4) z4) (some g)) := by
  have h1 := del_row (w := w.drew) hl hi hO2.1.drew
  rw [hk, hnw, hW5, hp] at h1
  refine ⟨h1, ?_⟩
  rw [← hW5]
  have g1 := setCells_gb g news (i * 4) w.drew
  have g2 := setCells_gb g z4 (p * 4) (w.drew.setCells g (i * 4) news)
  exact ⟨g2.os.trans g1.os, g2.tape.trans g1.tape, g2.output.trans g1.output, Nat.le_trans g1.size g2.size, fun k hk hn => (g2.block k (Nat.lt_of_lt_of_le hk g1.size) hn).trans (g1.block k hk hn)⟩
 have HP : Hid (n - k = m ∧ n - 1 = p) := ⟨hm', hp⟩
 clear hO2 hnw b5 s5 hO' hk hp
 by_cases hkc : cap = k
 · subst hkc
   have H0 : Hid (∀ t u, news[t]? = some u → False) := fun t u hu => by
    have h1 := HN.out.1
    have h2 := (List.getElem?_eq_some_iff.1 hu).1
    omega
   go_enter Tryz.func120, Tryz.ntmps120
   go_wp2
   go_region_law
    ((refine step_append_room (by rfl) _ _ _ (by rfl) 119 i0 4 Tryz.underlying72 hi0 hz1 g 0 i _ (by rfl) ⟨g, 0, none⟩ m _ news (by rfl) HN.out.1 (fun t u hu => (H0.out t u hu).elim) HN.out.2.1 (by omega) HN.out.2.2.2.1 ?_))
   all_goals
    go_wp2
    go_ret
    exact ⟨by rw [HP.out.2]; rfl, by rw [HP.out.2]; exact HE.out.1, HE.out.2⟩
 · go_enter Tryz.func120, Tryz.ntmps120
   go_wp2
   go_region_law
    ((refine step_append_room (by rfl) _ _ _ (by rfl) 119 i0 4 Tryz.underlying72 hi0 hz1 g 0 i cap (by rfl) ⟨g, k * 4, none⟩ m (cap - k) news (by rfl) HN.out.1 (fun t u hu => by rw [Addr.add_lit]; exact HN.out.2.2.1 t u hu) HN.out.2.1 (by omega) HN.out.2.2.2.1 ?_))
   all_goals
    go_wp2
    go_ret
    exact ⟨by rw [HP.out.2]; rfl, by rw [HP.out.2]; exact HE.out.1, HE.out.2⟩
def tm (zs : List Int) (i : Nat) : Int := zs[i]?.getD 0
def Bnd (zs : List Int) : Prop := ∀ i, i < zs.length → In64 (tm zs i)
def RowG (w : World) (ao : Option Addr) (zs : List Int) (cap : Nat) : Prop :=
 zs.length ≤ cap ∧ (0 < zs.length → ∃ b off, ao = some ⟨b, off, none⟩ ∧ ∀ i, i < zs.length → w.cell? ⟨b, off + i, none⟩ = some (.int .i64 (tm zs i)))
theorem RowG.take {w : World} {ao : Option Addr} {zs : List Int} {cap : Nat} (h : RowG w ao zs cap) (k : Nat) (hk : k ≤ zs.length) : RowG w ao (zs.take k) cap := by
 have hl : (zs.take k).length = k := by rw [List.length_take]; omega
 refine ⟨by have := h.1; omega, fun h0 => ?_⟩
 obtain ⟨b, off, e, hc⟩ := h.2 (by omega)
 refine ⟨b, off, e, fun i hi => ?_⟩
 rw [hc i (by omega)]
 congr 2
 rw [hl] at hi
 simp [tm, hi]
set_option maxHeartbeats 1000000 in
theorem index63 (ao : Option Addr) (zs : List Int) (cap : Nat) (g : Int) (w : World) (h : RowG w ao zs cap) (hl : zs.length ≤ 2000000) :
  Calls Tryz.prog 119 #[.slice ao zs.length cap, .int .i64 g] w fun e w' => e = .returned (.int .i64 (fi (fun x : Int => g == x) 0 zs)) ∧ w' = w := by
 obtain ⟨r, hr⟩ : ∃ r, fi (fun x : Int => g == x) 0 zs = r := ⟨_, rfl⟩
 rw [hr]
 have HR : Hid (fi (fun x : Int => g == x) 0 (zs.drop 0) = r) := hr
 have HO : Hid (RowG w ao zs cap) := h
 clear hr h
 go_enter Tryz.func119, Tryz.ntmps119
 go_wp2
 go_loop [8] (fun i => ∃ k : Nat, k ≤ zs.length ∧ i = .int .i64 k ∧ Hid (fi (fun x : Int => g == x) k (zs.drop k) = r)) (fun i => zs.length - (intOf i).toNat)
 case atStart => exact ⟨0, Nat.zero_le _, rfl, HR⟩
 case round =>
  obtain ⟨k, hk, rfl, HK⟩ := hrel
  clear HR
  by_cases hlt : k < zs.length
  · have H := HK.out
    rw [List.drop_eq_getElem_cons hlt, fi] at H
    obtain ⟨rb, off, hao, hc⟩ := HO.out.2 (by omega)
    subst hao
    have d1 := hc k hlt
    have hcap := HO.out.1
    have ht : tm zs k = zs[k] := by simp [tm, hlt]
    rw [ht] at d1
    obtain ⟨x, hx⟩ : ∃ x, zs[k] = x := ⟨_, rfl⟩
    rw [hx] at d1 H
    have hltz : (k : Int) < (zs.length : Int) := by omega
    clear HK hc hx ht
    cases hp : (g == x)
    · have HH : Hid (fi (fun x : Int => g == x) (k + 1) (zs.drop (k + 1)) = r) := by show _ = _; simpa [hp] using H
      clear H
      go_wp2
      go_round
      case rel => exact ⟨k + 1, by omega, by go_num, HH⟩
      case measure => simp [intOf]; omega
    · have HH : Hid ((k : Int) = r) := by show _ = _; simpa [hp] using H
      clear H
      go_wp2
      go_ret
      exact ⟨ret_int HH.out, rfl⟩
  · have hkk : k = zs.length := by omega
    have HH : Hid ((-1 : Int) = r) := by have := HK.out; rw [hkk] at this; show _ = _; simpa [fi] using this
    clear HK
    subst hkk
    go_wp2
    go_ret
    exact ⟨ret_int HH.out, rfl⟩
theorem fi_dec {α : Type} (p : α → Bool) (l : List α) : decide (0 ≤ fi p 0 l) = l.any p := by
 by_cases h : ∃ x ∈ l, p x = true
 · obtain ⟨j, hj, e, _⟩ := fi_some l 0 h
   rw [e, List.any_eq_true.2 h]
   simp
 · rw [fi_none l 0 (fun x hx => by cases hp : p x; rfl; exact absurd ⟨x, hx, hp⟩ h)]
   have : l.any p = false := by
    rw [List.any_eq_false]
    intro x hx hp
    exact h ⟨x, hx, hp⟩
   rw [this]
   decide
set_option maxHeartbeats 400000 in
theorem contains48 (ao : Option Addr) (zs : List Int) (cap : Nat) (g : Int) (w : World) (h : RowG w ao zs cap) (hl : zs.length ≤ 2000000) :
  Calls Tryz.prog 101 #[.slice ao zs.length cap, .int .i64 g] w fun e w' => e = .returned (.bool (zs.any fun x => g == x)) ∧ w' = w := by
 have H := index63 ao zs cap g w h hl
 have hd := fi_dec (fun x : Int => g == x) zs
 rw [← hd]
 obtain ⟨r, hr⟩ : ∃ r, fi (fun x : Int => g == x) 0 zs = r := ⟨_, rfl⟩
 rw [hr] at H ⊢
 clear h hd hr
 go_enter Tryz.func101, Tryz.ntmps101
 go_wp2_with (go_at_call 119; refine H.mono ?_; rintro e w' ⟨rfl, hw'⟩; have hw' := hw'.symm; subst hw')
 go_ret
 exact ⟨ret_bool (by simp), rfl⟩
theorem Rep.drop {B : Nat} {w : World} {b : Nat} {q : Int} {s : Sto} (h : Rep B w b q s) {g i : Int} (hg : In64 g) (hi : In64 i) :
  ∃ w', (∀ ty, (Builtin.delete_ #[64, 121] ty #[.map (some s.mb), .agg #[.int .i64 g, .int .i64 i]]).run Tryz.prog w = .ok (.tuple #[]) w') ∧ Rep B w' b q { s with th := fun g' i' => if g' = g ∧ i' = i then Ct.zero else s.th g' i' } ∧ w.grownBy w' (some s.mb) := by
 obtain ⟨a1, a2, a3, a4, a5, a6⟩ := h.apart
 obtain ⟨D, hD, hr⟩ := h.th
 obtain ⟨es, clock, hb, F, hs, rfl⟩ := hD
 obtain ⟨w', h1, h2, h3⟩ := World.ownsMap.drop (w := w) (R := RV) (H := Value) ⟨es, clock, hb, F, hs, rfl⟩ law118 Tryz.underlying64 (key_mk hg hi) 0
 have hgr := h3.grown
 refine ⟨w', fun ty => h1, ⟨?_, ?_, ?_, ⟨_, h2, ?_⟩, ?_, ?_, h.hb, h.hvb, h.hmb⟩, hgr⟩
 · rw [hgr.block b (h.lt b (by simp [foot])).2 (by simpa using Ne.symm a2)]; exact h.blk
 · rw [hgr.block s.vb (h.lt s.vb (by simp [foot])).2 (by simpa using Ne.symm a3)]; exact h.vol
 · exact own_of_block h.ss (fun k hk => hgr.block k (h.ss.lt k hk).2 (by simpa using (a4 k hk).2.2.1))
 · intro g' i' hg' hi'
   by_cases e : g' = g ∧ i' = i
   · obtain ⟨rfl, rfl⟩ := e
     rw [atKey_del_same]
     simp
   · rw [atKey_del_other (fun e' => e (kl_inj hg' hi' hg hi e'))]
     simp only [if_neg e]
     exact hr g' i' hg' hi'
 · exact own_of_block h.ms (fun k hk => hgr.block k (h.ms.lt k hk).2 (by simpa using (a5 k hk).2.2))
 · exact own_of_block h.lg (fun k hk => hgr.block k (h.lg.lt k hk).2 (by simpa using (a6 k hk).2.2.1))
def Sto.rem (s : Sto) (g : Int) (j : Nat) (sv : Value) (k : Nat) : Sto :=
 { s with ss := s.ss.eraseIdx j, th := fun g' i => if g' = g ∧ 0 ≤ i ∧ i < k then Ct.zero else s.th g' i, sv := sv }
theorem rem_zero (s : Sto) (g : Int) (j : Nat) (sv : Value) : s.rem g j sv 0 = { s with ss := s.ss.eraseIdx j, sv := sv } := by
 unfold Sto.rem
 congr 1
 funext g' i
 rw [if_neg (by omega)]
theorem rem_succ (s : Sto) (g : Int) (j : Nat) (sv : Value) (k : Nat) : s.rem g j sv (k + 1) = { s.rem g j sv k with th := fun g' i' => if g' = g ∧ i' = (k : Int) then Ct.zero else (s.rem g j sv k).th g' i' } := by
 unfold Sto.rem
 congr 1
 funext g' i
 by_cases h1 : g' = g ∧ i = (k : Int)
 · rw [if_pos h1, if_pos (by omega)]
 · rw [if_neg h1]
   show _ = (if g' = g ∧ 0 ≤ i ∧ i < (k : Int) then Ct.zero else s.th g' i)
   by_cases h2 : g' = g ∧ 0 ≤ i ∧ i < (k : Int)
   · rw [if_pos h2, if_pos (by omega)]
   · rw [if_neg h2, if_neg (by omega)]
theorem Rep.deleted {B : Nat} {w w' : World} {b : Nat} {q : Int} {s : Sto} (h : Rep B w b q s) {j gg cap : Nat} (hj : j < s.ss.length) (hsv : s.sv = .slice (some ⟨gg, 0, none⟩) s.ss.length cap) (ho : w'.ownsRow B 119 4 (.slice (some ⟨gg, 0, none⟩) (s.ss.length - 1) cap) (s.ss.length - 1) (snC (s.ss.eraseIdx j))) (hg : w.grownBy w' (some gg)) :
  Rep B (w'.setCell ⟨b, 4, none⟩ (.slice (some ⟨gg, 0, none⟩) (s.ss.length - 1) cap)) b q { s with ss := s.ss.eraseIdx j, sv := .slice (some ⟨gg, 0, none⟩) (s.ss.length - 1) cap } := by
 obtain ⟨a1, a2, a3, a4, a5, a6⟩ := h.apart
 have hgg : s.sv.ownBlock = some gg := by rw [hsv]; rfl
 have an := a4 gg hgg
 have hb : w'.heap[b]? = some (s.blk q) := by rw [hg.block b (h.lt b (by simp [foot])).2 (by simpa using Ne.symm an.1)]; exact h.blk
 refine ⟨?_, ?_, ?_, ?_, ?_, ?_, h.hb, h.hvb, h.hmb⟩
 · rw [heap_setCell_same w' b 4 _ _ _ hb]; rfl
 · rw [heap_setCell_other _ _ _ _ (by exact a1)]; exact (hg.block s.vb (h.lt s.vb (by simp [foot])).2 (by simpa using Ne.symm an.2.1)).trans h.vol
 · show (w'.setCell ⟨b, 4, none⟩ (.slice (some ⟨gg, 0, none⟩) (s.ss.length - 1) cap)).ownsRow B 119 4 (.slice (some ⟨gg, 0, none⟩) (s.ss.length - 1) cap) (s.ss.eraseIdx j).length (snC (s.ss.eraseIdx j))
   rw [List.length_eraseIdx_of_lt hj]
   exact own_of_block ho (fun k hk => heap_setCell_other _ _ _ _ (fun e => by
    have : gg = k := by simpa [Value.ownBlock] using hk
    exact an.1 (by rw [this]; exact e)))
 · refine h.th.of_block ?_
   rw [heap_setCell_other _ _ _ _ (by exact a2)]
   exact hg.block s.mb (h.lt s.mb (by simp [foot])).2 (by simpa using Ne.symm an.2.2.1)
 · refine own_of_block h.ms (fun k hk => ?_)
   rw [heap_setCell_other _ _ _ _ (a5 k hk).1]
   exact hg.block k (h.ms.lt k hk).2 (fun e => by
    have : k = gg := by simpa using e
    exact an.2.2.2 (by rw [← this]; exact hk))
 · refine own_of_block h.lg (fun k hk => ?_)
   rw [heap_setCell_other _ _ _ _ (a6 k hk).1]
   exact hg.block k (h.lg.lt k hk).2 (fun e => by
    have : k = gg := by simpa using e
    exact (a6 k hk).2.2.2.1 (by rw [this]; exact hgg))
set_option maxRecDepth 100000 in
set_option maxHeartbeats 1600000 in
theorem remove_any (B b : Nat) (q : Int) (s : Sto) (g : Int) (j : Nat) (w : World) (h : Rep B w b q s) (hl : s.ss.length ≤ 12) (hf : fi (fun y : Sn => y.guid == g) 0 s.ss = (j : Int)) (hj : j < s.ss.length) (hg : In64 g) (hv : s.vol.length ≤ 16) :
  Calls Tryz.prog 102 #[.pointer (some ⟨b, 0, none⟩), .int .i64 g] w fun e w' => e = .returned (.tuple #[]) ∧ ∃ sv, Rep B w' b q (s.rem g j sv s.vol.length) ∧ Fr (foot b s) w w' ∧ sv.ownBlock = s.sv.ownBlock := by
 have HS := findSnapshot_any B b q s g w h (by omega)
 rw [hf] at HS
 obtain ⟨ao, cap, hsv⟩ := own_shape h.ss
 have ho := h.ss
 rw [hsv] at ho
 obtain ⟨gg, hgg, hcap, _⟩ := own_addr ho (by omega)
 subst hgg
 have HV : Hid (s.sv = .slice (some ⟨gg, 0, none⟩) s.ss.length cap ∧ Rep B w b q s ∧ j < s.ss.length) := ⟨hsv, h, hj⟩
 obtain ⟨n, hn⟩ : ∃ n, s.ss.length = n := ⟨_, rfl⟩
 have HN : Hid (s.ss.length = n) := hn
 have HD : Hid (∀ W, Rep B W b q s → Calls Tryz.prog 120 #[.slice (some ⟨gg, 0, none⟩) n cap, .int .i64 j, .int .i64 ((j : Int) + 1)] W fun e w' => e = .returned (.slice (some ⟨gg, 0, none⟩) (n - 1) cap) ∧ w'.ownsRow B 119 4 (.slice (some ⟨gg, 0, none⟩) (n - 1) cap) (n - 1) (snC (s.ss.eraseIdx j)) ∧ W.grownBy w' (some gg)) := fun W hW => by
  have h1 := hW.ss
  rw [hsv, hn] at h1
  have := delete_one B gg n cap j s.ss W hn (by omega) (by omega) h1
  rw [show ((j + 1 : Nat) : Int) = (j : Int) + 1 by simp] at this
  exact this
 have q1 : IntKind.i64.wrap ((j : Int) + 1) = (j : Int) + 1 := wrap_fit ⟨by omega, by omega⟩
 obtain ⟨m, hm⟩ : ∃ m, s.vol.length = m := ⟨_, rfl⟩
 have HM : Hid (s.vol.length = m) := hm
 rw [hm] at hv ⊢
 clear h hf ho hsv hm hn hl hj
 go_enter Tryz.func102, Tryz.ntmps102
 go_wp2_with (first
  | (go_at_call 65; refine HS.mono ?_; rintro e w2 ⟨rfl, hfr⟩
     have HR2 : Hid (Rep B w2 b q s ∧ Fr (foot b s) w w2) := ⟨HV.out.2.1.kept0 hfr, (Fr.refl _ _).trans hfr (by simp)⟩
     have c4 : w2.cell? ⟨b, 4, none⟩ = some (.slice (some ⟨gg, 0, none⟩) n cap) := by rw [← HN.out, ← HV.out.1]; exact HR2.out.1.cells.2.2.2.1
     clear hfr)
  | (go_at_call 120; refine (HD.out _ HR2.out.1).mono ?_; rintro e w3 ⟨rfl, ho3, hg3⟩
     have HR3 : Hid (Rep B (w3.setCell ⟨b, 4, none⟩ (.slice (some ⟨gg, 0, none⟩) (n - 1) cap)) b q (s.rem g j (.slice (some ⟨gg, 0, none⟩) (n - 1) cap) 0) ∧ Fr (foot b s) w (w3.setCell ⟨b, 4, none⟩ (.slice (some ⟨gg, 0, none⟩) (n - 1) cap))) := by
      refine ⟨?_, (HR2.out.2.grown hg3 (fun k hk => Or.inl ?_)).setCell _ (Or.inl (by simp [foot]))⟩
      · rw [rem_zero]
        have := HR2.out.1.deleted (j := j) HV.out.2.2 HV.out.1 (by rw [HN.out]; exact ho3) hg3
        rw [HN.out] at this
        exact this
      · have : gg = k := by simpa using hk
        rw [← this]
        simp [foot, HV.out.1, Value.ownBlock]
     have c4' : ∃ v, w3.cell? ⟨b, 4, none⟩ = some v := ⟨_, hg3.cell c4 (by
      simp only [ne_eq, Option.some.injEq]
      intro e
      exact (HV.out.2.1.apart.2.2.2.1 gg (by rw [HV.out.1]; rfl)).1 e.symm)⟩
     obtain ⟨v4, c4'⟩ := c4'
     have f4' : w3.frozen? ⟨b, 4, none⟩ = false := (hg3.frozen_far ⟨b, 4, none⟩ (World.block_lt_of_cell? _ _ c4) (by
      simp only [ne_eq, Option.some.injEq]
      intro e
      exact (HV.out.2.1.apart.2.2.2.1 gg (by rw [HV.out.1]; rfl)).1 e.symm)).trans (HR2.out.1.frozen 4)
     obtain ⟨W9, hW9⟩ : ∃ W9, w3.setCell ⟨b, 4, none⟩ (.slice (some ⟨gg, 0, none⟩) (n - 1) cap) = W9 := ⟨_, rfl⟩
     rw [hW9] at HR3
     have k3 : W9.cell? ⟨b, 3, none⟩ = some (.slice (some ⟨s.vb, 0, none⟩) m m) := by rw [← HM.out]; exact HR3.out.1.cells.2.2.1
     clear ho3 hg3))
 obtain ⟨sv, hsv9⟩ : ∃ sv, Value.slice (some ⟨gg, 0, none⟩) (n - 1) cap = sv := ⟨_, rfl⟩
 have HSV : Hid (sv.ownBlock = s.sv.ownBlock) := by
  rw [← hsv9, HV.out.1]
  rfl
 rw [hsv9] at HR3
 clear hsv9 hW9 c4 c4' f4' k3
 go_loopw [25] (fun i wr => ∃ k : Nat, k ≤ m ∧ i = .int .i64 k ∧ Hid (Rep B wr b q (s.rem g j sv k) ∧ Fr (foot b s) w wr)) (fun i _ => m - (intOf i).toNat)
 case atStart => exact ⟨0, Nat.zero_le _, rfl, HR3⟩
 case round =>
  obtain ⟨k, hk, rfl, HK⟩ := hrel
  obtain ⟨W3, hW3⟩ : ∃ W3, W3 = wr := ⟨_, rfl⟩
  subst hW3
  clear HR3
  by_cases hlt : k < m
  · have j5 : W3.cell? ⟨b, 5, none⟩ = some (.map (some s.mb)) := HK.out.1.cells.2.2.2.2.1
    obtain ⟨w8, hp8, hr8, hg8⟩ := HK.out.1.drop (g := g) (i := (k : Int)) hg ⟨by omega, by omega⟩
    have hp : ∀ ty, (Builtin.delete_ #[64, 121] ty #[.map (some s.mb), .agg #[.int .i64 g, .int .i64 k]]).run Tryz.prog W3 = .ok (.tuple #[]) w8 := hp8
    have HK8 : Hid (Rep B w8 b q (s.rem g j sv (k + 1)) ∧ Fr (foot b s) w w8) := by
     refine ⟨by rw [rem_succ]; exact hr8, HK.out.2.grown hg8 (fun x hx => Or.inl ?_)⟩
     have : s.mb = x := by
      have e : (s.rem g j sv k).mb = x := by simpa using hx
      exact e
     rw [← this]
     simp [foot]
    have hltz : (k : Int) < (m : Int) := by omega
    clear hp8 hr8 hg8 HK
    go_wp2
    go_roundw
    case rel => exact ⟨k + 1, by omega, by go_num, HK8⟩
    case measure => simp [intOf]; omega
  · have hkk : k = m := by omega
    subst hkk
    go_wp2
    go_end0
    exact ⟨rfl, sv, HK.out.1, HK.out.2, HSV.out⟩
def isG (g : Int) (x : Sn) : Bool := x.guid == g
def fineAt (ss : List Sn) (zs : List Int) (k : Nat) : Bool := ss.any (isG (tm zs k)) && !((zs.take k).any fun x => tm zs k == x)
def heldAt (ss : List Sn) (zs : List Int) (k : Nat) : Bool := ss.any fun x => isG (tm zs k) x && decide (x.holds > 0)
def left (ss : List Sn) (zs : List Int) : List Sn := ss.filter fun x => !(zs.any fun z => isG z x)
theorem uniq_held {ss : List Sn} (hu : (ss.map Sn.guid).Nodup) {g : Int} {j : Nat} (hj : j < ss.length) (hg : isG g ss[j] = true) (p : Sn → Bool) : (ss.any fun x => isG g x && p x) = p ss[j] := by
 cases hp : p ss[j]
 · rw [List.any_eq_false]
   intro x hx h
   obtain ⟨i, hi, rfl⟩ := List.getElem_of_mem hx
   simp only [Bool.and_eq_true] at h
   have e : i = j := by
    have h1 : ss[i].guid = g := by simpa [isG] using h.1
    have h2 : ss[j].guid = g := by simpa [isG] using hg
    exact (List.getElem_inj (h₀ := by simpa using hi) (h₁ := by simpa using hj) hu).1 (by simp [h1, h2])
   subst e
   rw [hp] at h
   simp at h
 · rw [List.any_eq_true]
   exact ⟨ss[j], List.getElem_mem hj, by simp [hg, hp]⟩
theorem erase_filter : ∀ (l : List Sn) (g : Int) (j : Nat) (hj : j < l.length), (l.map Sn.guid).Nodup → isG g l[j] = true → l.eraseIdx j = l.filter fun x => !(isG g x)
 | [], _, _, h, _, _ => by simp at h
 | x :: r, g, 0, _, hu, hg => by
  simp only [List.getElem_cons_zero] at hg
  simp only [List.map_cons, List.nodup_cons] at hu
  have h1 : x.guid = g := by simpa [isG] using hg
  rw [List.eraseIdx_cons_zero, List.filter_cons_of_neg (by simp [hg]), List.filter_eq_self.2]
  intro y hy
  have : y.guid ≠ g := fun e => hu.1 (by rw [h1, ← e]; exact List.mem_map_of_mem hy)
  simp [isG, this]
 | x :: r, g, j + 1, hj, hu, hg => by
  simp only [List.getElem_cons_succ] at hg
  simp only [List.map_cons, List.nodup_cons] at hu
  have hj' : j < r.length := by simpa using hj
  have h2 : r[j].guid = g := by simpa [isG] using hg
  have h1 : x.guid ≠ g := fun e => hu.1 (by rw [e, ← h2]; exact List.mem_map_of_mem (List.getElem_mem _))
  rw [List.eraseIdx_cons_succ, List.filter_cons_of_pos (by simp [isG, h1]), erase_filter r g j (by simpa using hj) hu.2 hg]
theorem left_succ (ss : List Sn) (zs : List Int) (k : Nat) (hk : k < zs.length) : left ss (zs.take (k + 1)) = (left ss (zs.take k)).filter fun x => !(isG (tm zs k) x) := by
 unfold left
 rw [List.filter_filter]
 congr 1
 funext x
 have ht : tm zs k = zs[k] := by simp [tm, hk]
 rw [List.take_succ_eq_append_getElem hk, List.any_append, ht]
 cases (zs.take k).any (fun z => isG z x) <;> simp
theorem left_nodup {ss : List Sn} (hu : (ss.map Sn.guid).Nodup) (zs : List Int) : ((left ss zs).map Sn.guid).Nodup := by
 unfold left
 exact List.Nodup.sublist (List.Sublist.map _ List.filter_sublist) hu
theorem left_has {ss : List Sn} {zs : List Int} {k : Nat} (hf : fineAt ss zs k = true) : ∃ x ∈ left ss (zs.take k), isG (tm zs k) x = true := by
 unfold fineAt at hf
 simp only [Bool.and_eq_true, Bool.not_eq_true'] at hf
 obtain ⟨x, hx, hg⟩ := List.any_eq_true.1 hf.1
 refine ⟨x, ?_, hg⟩
 unfold left
 rw [List.mem_filter]
 refine ⟨hx, ?_⟩
 have hxg : x.guid = tm zs k := by simpa [isG] using hg
 simp only [Bool.not_eq_true', List.any_eq_false]
 intro z hz
 have := (List.any_eq_false.1 hf.2) z hz
 simp [isG, hxg]
 intro e
 exact this (by simp [e])
theorem tm_get (zs : List Int) (k : Nat) (h : k < zs.length) : tm zs k = zs[k] := by simp [tm, h]
theorem left_nil (ss : List Sn) : left ss [] = ss := by simp [left]
def gtext (zs : List Int) : ByteArray := zs.foldl (fun a z => a ++ (n4 z).ba) ⟨#[]⟩
theorem gtext_succ (zs : List Int) (k : Nat) (h : k < zs.length) : gtext (zs.take (k + 1)) = gtext (zs.take k) ++ (n4 (tm zs k)).ba := by
 unfold gtext
 rw [List.take_succ_eq_append_getElem h, List.foldl_append, tm_get zs k h]
 rfl
theorem gtext_size : ∀ (zs : List Int) (a : ByteArray), (zs.foldl (fun a z => a ++ (n4 z).ba) a).size = a.size + 4 * zs.length
 | [], a => by simp
 | z :: r, a => by
  rw [List.foldl_cons, gtext_size r, ByteArray.size_append]
  have e : (n4 z).ba.size = 4 := rfl
  simp only [e, List.length_cons]
  omega
theorem gtext_len (zs : List Int) : (gtext zs).size = 4 * zs.length := by
 unfold gtext
 rw [gtext_size]
 have e : (⟨#[]⟩ : ByteArray).size = 0 := rfl
 rw [e]
 omega
theorem nodup_le : ∀ (l l' : List Int), l.Nodup → (∀ x ∈ l, x ∈ l') → l.length ≤ l'.length
 | [], _, _, _ => Nat.zero_le _
 | a :: l, l', hn, hs => by
  rw [List.nodup_cons] at hn
  have ha : a ∈ l' := hs a List.mem_cons_self
  have := nodup_le l (l'.erase a) hn.2 (fun x hx => (List.mem_erase_of_ne (fun e : x = a => hn.1 (by rw [← e]; exact hx))).2 (hs x (List.mem_cons_of_mem _ hx)))
  rw [List.length_erase_of_mem ha] at this
  have h0 : 0 < l'.length := List.length_pos_of_mem ha
  rw [List.length_cons]
  omega
theorem fine_len {ss : List Sn} {zs : List Int} (h : ∀ k, k < zs.length → fineAt ss zs k = true) : zs.length ≤ ss.length := by
 have h1 := nodup_le zs (ss.map Sn.guid) (by
  rw [List.Nodup, List.pairwise_iff_getElem]
  intro i j hi hj hij e
  have hf := h j hj
  unfold fineAt at hf
  rw [Bool.and_eq_true, Bool.not_eq_true'] at hf
  have h2 := List.any_eq_false.1 hf.2 zs[i] (List.mem_take_iff_getElem.2 ⟨i, by omega, rfl⟩)
  rw [tm_get zs j hj, e] at h2
  simp at h2) (fun x hx => by
  obtain ⟨k, hk, rfl⟩ := List.getElem_of_mem hx
  have hf := h k hk
  unfold fineAt at hf
  rw [Bool.and_eq_true] at hf
  obtain ⟨y, hy, e⟩ := List.any_eq_true.1 hf.1
  refine List.mem_map.2 ⟨y, hy, ?_⟩
  unfold isG at e
  rw [tm_get zs k hk] at e
  simpa using e)
 rwa [List.length_map] at h1
def DesJ (B b : Nat) (s : Sto) (w wr : World) (sk : Sto) (zs : List Int) : Prop :=
 Rep B wr b 1 sk ∧ Fr (foot b s) w wr ∧ sk.ss = left s.ss zs ∧ sk.ms = s.ms ∧ sk.vol = s.vol ∧ sk.sv.ownBlock = s.sv.ownBlock ∧ foot b sk = foot b s ∧ (sk.id = s.id ∧ sk.came = s.came ∧ sk.taken = s.taken ∧ sk.cnt = s.cnt ∧ sk.log = s.log ∧ sk.lv = s.lv ∧ sk.mv = s.mv) ∧ (∀ g i, g ∉ zs → sk.th g i = s.th g i)
structure DesPost (B b : Nat) (s : Sto) (zs : List Int) (w w' : World) (s' : Sto) : Prop where
 foot : ∀ k ∈ YthdhegmlknpllaaGreat.foot b s', k ∈ YthdhegmlknpllaaGreat.foot b s ∨ w.heap.size ≤ k
 rep : Rep B w' b 0 s'
 ss : s'.ss = left s.ss zs
 ms : s'.ms = s.ms
 vol : s'.vol = s.vol
 id : s'.id = s.id
 came : s'.came = s.came
 taken : s'.taken = s.taken
 cnt : s'.cnt = s.cnt
 th : ∀ g i, g ∉ zs → s'.th g i = s.th g i
 log : s'.log = s.log ++ (if zs = [] then [] else entry 68 (gtext zs))
 mv : s'.mv = s.mv
set_option maxRecDepth 100000 in
set_option maxHeartbeats 3200000 in
theorem destroy_any (B b : Nat) (s : Sto) (ao : Option Addr) (zs : List Int) (cap : Nat) (w : World) (h : Rep B w b 0 s) (hl : s.ss.length ≤ 12) (hv : s.vol.length ≤ 16) (hu : (s.ss.map Sn.guid).Nodup) (hr : RowG w ao zs cap) (hz : zs.length ≤ 2000000) (hb : ∀ i, i < zs.length → In64 (tm zs i)) (hnf : ∀ k off, ao = some ⟨k, off, none⟩ → 0 < zs.length → k ∉ foot b s) (hlg : s.log.length ≤ 140000000000000) :
  Calls Tryz.prog 67 #[.pointer (some ⟨b, 0, none⟩), .slice ao zs.length cap] w fun e w' => Fr (foot b s) w w' ∧
   ((e = .returned (.int .i64 3) ∧ (∃ k, k < zs.length ∧ fineAt s.ss zs k = false) ∧ Rep B w' b 0 s) ∨
    (e = .returned (.int .i64 4) ∧ (∀ k, k < zs.length → fineAt s.ss zs k = true) ∧ (∃ k, k < zs.length ∧ heldAt s.ss zs k = true) ∧ Rep B w' b 0 s) ∨
    (e = .returned (.int .i64 0) ∧ (∀ k, k < zs.length → fineAt s.ss zs k = true) ∧ (∀ k, k < zs.length → heldAt s.ss zs k = false) ∧ ∃ s', DesPost B b s zs w w' s')) := by
 obtain ⟨w1, hw1, R1⟩ := h.lk
 have HL := lock_free Tryz.muLib ⟨b, 0, none⟩ w h.cells.1 (h.frozen 0)
 have F1 := lkF s hw1
 have HF : Hid (w.setCell ⟨b, 0, none⟩ (.int .i32 1) = w1 ∧ Rep B w1 b 1 s ∧ Fr (foot b s) w w1) := ⟨hw1, R1, F1⟩
 have HG : Hid (s.ss.length ≤ 12 ∧ s.vol.length ≤ 16 ∧ (s.ss.map Sn.guid).Nodup ∧ (∀ i, i < zs.length → In64 (tm zs i))) := ⟨hl, hv, hu, hb⟩
 have HRow : Hid (∀ W, Fr (foot b s) w W → RowG W ao zs cap) := fun W hW => by
  refine ⟨hr.1, fun h0 => ?_⟩
  obtain ⟨rb, off, e, hc⟩ := hr.2 h0
  refine ⟨rb, off, e, fun i hi => ?_⟩
  exact (World.cell?_of_block (hW.block rb (World.block_lt_of_cell? _ _ (hc i hi)) (hnf rb off e h0))).trans (hc i hi)
 have H1 : Hid (Rep B w1 b 1 s ∧ Fr (foot b s) w w1) := ⟨R1, F1⟩
 have hcap := hr.1
 clear h R1 F1 hw1 hl hv hu hr hb hnf
 go_enter_defers Tryz.func67, Tryz.ntmps67
 go_wp2_with (first
  | (go_at_call 23; refine HL.mono ?_; rintro e w' ⟨rfl, hw'⟩; rw [HF.out.1] at hw'; have hw' := hw'.symm; subst hw'))
 go_loopw [5, 21] (fun hd i wr => ∃ (k : Nat) (f : Bool), k ≤ zs.length ∧ i = .int .i64 k ∧ hd = .bool f ∧ Hid (Rep B wr b 1 s ∧ Fr (foot b s) w wr ∧ (∀ j, j < k → fineAt s.ss zs j = true) ∧ f = (List.range k).any (heldAt s.ss zs))) (fun _ i _ => zs.length - (intOf i).toNat)
 case atStart => exact ⟨0, false, Nat.zero_le _, rfl, rfl, H1.out.1, H1.out.2, fun j hj => by omega, rfl⟩
 case round =>
  obtain ⟨k, f, hk, rfl, rfl, HK⟩ := hrel
  obtain ⟨W3, hW3⟩ : ∃ W3, W3 = wr := ⟨_, rfl⟩
  subst hW3
  clear H1
  by_cases hlt : k < zs.length
  · obtain ⟨rb, off, hao, hc⟩ := (HRow.out W3 HK.out.2.1).2 (by omega)
    subst hao
    have d1 := hc k hlt
    obtain ⟨g, hg⟩ : ∃ g, tm zs k = g := ⟨_, rfl⟩
    have HGg : Hid (tm zs k = g) := hg
    rw [hg] at d1
    have hltz : (k : Int) < (zs.length : Int) := by omega
    have hltc : (k : Int) ≤ (cap : Int) := by omega
    have hS := findSnapshot_any B b 1 s g W3 HK.out.1 (by have := HG.out.1; omega)
    clear hc hg
    by_cases hfd : ∃ x ∈ s.ss, (x.guid == g) = true
    · obtain ⟨j, hj, e0, hgj⟩ := fi_some s.ss 0 hfd
      rw [e0, Nat.zero_add] at hS
      have HC : Hid (∀ W, Fr (foot b s) w W → Calls Tryz.prog 101 #[.slice (some ⟨rb, off, none⟩) k cap, .int .i64 g] W fun e w' => e = .returned (.bool ((zs.take k).any fun x => g == x)) ∧ w' = W) := fun W hW => by
       have hrt := (HRow.out W hW).take k hk
       have hlk : (zs.take k).length = k := by rw [List.length_take]; omega
       have := contains48 (some ⟨rb, off, none⟩) (zs.take k) cap g W hrt (by omega)
       rw [hlk] at this
       exact this
      have HJ : Hid (∃ hj : j < s.ss.length, isG g s.ss[j] = true) := ⟨hj, hgj⟩
      have j0 : ¬ ((j : Int) < 0) := by omega
      clear e0 hgj hj hfd
      cases hdup : ((zs.take k).any fun x => g == x)
      · rw [hdup] at HC
        have HB : Hid (fineAt s.ss zs k = true) := by
         show _ = _
         unfold fineAt
         rw [HGg.out, hdup]
         obtain ⟨hj, hgj⟩ := HJ.out
         have : s.ss.any (isG g) = true := List.any_eq_true.2 ⟨_, List.getElem_mem hj, hgj⟩
         rw [this]
         rfl
        obtain ⟨x, hx⟩ : ∃ x, s.ss[j]? = some x := ⟨_, List.getElem?_eq_getElem HJ.out.1⟩
        have HX : Hid (s.ss[j]? = some x ∧ j < s.ss.length ∧ heldAt s.ss zs k = decide (x.holds > 0)) := by
         obtain ⟨hj, hgj⟩ := HJ.out
         refine ⟨hx, hj, ?_⟩
         unfold heldAt
         rw [HGg.out, uniq_held HG.out.2.2.1 hj hgj (fun x => decide (x.holds > 0))]
         rw [List.getElem?_eq_getElem hj] at hx
         simp at hx
         rw [hx]
        obtain ⟨sao, scap, hsv⟩ := own_shape HK.out.1.ss
        have hso := HK.out.1.ss
        rw [hsv] at hso
        obtain ⟨gg, hgg, hscap, _⟩ := own_addr hso (by have := HX.out.2.1; omega)
        subst hgg
        obtain ⟨n, hn⟩ : ∃ n, s.ss.length = n := ⟨_, rfl⟩
        have HV : Hid (s.sv = .slice (some ⟨gg, 0, none⟩) n scap ∧ s.ss.length = n) := ⟨by rw [hsv, hn], hn⟩
        have hjn : (j : Int) < (n : Int) := by have := HX.out.2.1; omega
        have hjn' : j < n := by omega
        rw [hn] at hscap
        clear hx hso hsv hn hdup
        have HR3 : Hid (∀ W, Rep B W b 1 s → W.cell? ⟨b, 4, none⟩ = some (.slice (some ⟨gg, 0, none⟩) n scap) ∧ W.cell? ⟨gg, j * 4 + 2, none⟩ = some (.int .i64 x.holds)) := fun W hW => by
         refine ⟨by rw [← HV.out.1]; exact hW.cells.2.2.2.1, ?_⟩
         have h1 := hW.ss
         rw [HV.out.1, HV.out.2] at h1
         obtain ⟨g', e', _, hc⟩ := own_addr h1 (by omega)
         have : g' = gg := by simpa using e'.symm
         subst this
         rw [hc _ (by omega), (snC_get s.ss j HX.out.2.1).2.2.1]
         have h3 := HX.out.1
         rw [List.getElem?_eq_getElem HX.out.2.1] at h3
         simp at h3
         rw [h3]
        have HNx : Hid (∀ W f', Rep B W b 1 s → Fr (foot b s) w W → f' = (f || decide (x.holds > 0)) → (Rep B W b 1 s ∧ Fr (foot b s) w W ∧ (∀ j, j < k + 1 → fineAt s.ss zs j = true) ∧ f' = (List.range (k + 1)).any (heldAt s.ss zs))) := fun W f' hW hF hf' => by
         refine ⟨hW, hF, fun i hi => ?_, ?_⟩
         · by_cases hik : i < k
           · exact HK.out.2.2.1 i hik
           · have : i = k := by omega
             rw [this]
             exact HB.out
         · rw [hf', List.range_succ, List.any_append, ← HK.out.2.2.2]
           simp [HX.out.2.2]
        obtain ⟨hd, hhd⟩ : ∃ hd, x.holds = hd := ⟨_, rfl⟩
        rw [hhd] at HR3 HNx
        clear hhd HX
        cases f
        · by_cases hpos : 0 < hd
          · have hp1 : decide (hd > 0) = true := by simpa using hpos
            go_wp2_with (first
             | (go_at_call 65; refine hS.mono ?_; rintro e w2 ⟨rfl, hfr⟩
                have HR2 : Hid (Rep B w2 b 1 s ∧ Fr (foot b s) w w2) := ⟨HK.out.1.kept0 hfr, HK.out.2.1.trans hfr (by simp)⟩
                have c4 := (HR3.out _ HR2.out.1).1
                have d4 := (HR3.out _ HR2.out.1).2
                have HN2 : Hid _ := HNx.out w2 true HR2.out.1 HR2.out.2 (by rw [hp1]; rfl)
                clear hfr)
             | (go_at_call 101; refine (HC.out _ HR2.out.2).mono ?_; rintro e w' ⟨rfl, hw'⟩; have hw' := hw'.symm; subst hw'))
            go_roundw
            case rel => exact ⟨k + 1, true, by omega, by go_num, by first | rfl | trivial | simp [hpos], HN2.out⟩
            case measure => simp [intOf]; omega
          · have hp1 : decide (hd > 0) = false := by simpa using hpos
            go_wp2_with (first
             | (go_at_call 65; refine hS.mono ?_; rintro e w2 ⟨rfl, hfr⟩
                have HR2 : Hid (Rep B w2 b 1 s ∧ Fr (foot b s) w w2) := ⟨HK.out.1.kept0 hfr, HK.out.2.1.trans hfr (by simp)⟩
                have c4 := (HR3.out _ HR2.out.1).1
                have d4 := (HR3.out _ HR2.out.1).2
                have HN2 : Hid _ := HNx.out w2 false HR2.out.1 HR2.out.2 (by rw [hp1]; rfl)
                clear hfr)
             | (go_at_call 101; refine (HC.out _ HR2.out.2).mono ?_; rintro e w' ⟨rfl, hw'⟩; have hw' := hw'.symm; subst hw'))
            go_roundw
            case rel => exact ⟨k + 1, false, by omega, by go_num, by first | rfl | trivial | simp [hpos], HN2.out⟩
            case measure => simp [intOf]; omega
        · go_wp2_with (first
            | (go_at_call 65; refine hS.mono ?_; rintro e w2 ⟨rfl, hfr⟩
               have HR2 : Hid (Rep B w2 b 1 s ∧ Fr (foot b s) w w2) := ⟨HK.out.1.kept0 hfr, HK.out.2.1.trans hfr (by simp)⟩
               have HN2 : Hid _ := HNx.out w2 true HR2.out.1 HR2.out.2 (by rfl)
               clear hfr)
            | (go_at_call 101; refine (HC.out _ HR2.out.2).mono ?_; rintro e w' ⟨rfl, hw'⟩; have hw' := hw'.symm; subst hw'))
          go_roundw
          case rel => exact ⟨k + 1, true, by omega, by go_num, by first | rfl | trivial, HN2.out⟩
          case measure => simp [intOf]; omega
      · rw [hdup] at HC
        have HB : Hid (fineAt s.ss zs k = false) := by show _ = _; unfold fineAt; rw [HGg.out, hdup]; simp
        clear hdup
        go_wp2_with (first
         | (go_at_call 65; refine hS.mono ?_; rintro e w2 ⟨rfl, hfr⟩
            have HR2 : Hid (Rep B w2 b 1 s ∧ Fr (foot b s) w w2) := ⟨HK.out.1.kept0 hfr, HK.out.2.1.trans hfr (by simp)⟩
            clear hfr)
         | (go_at_call 101; refine (HC.out _ HR2.out.2).mono ?_; rintro e w' ⟨rfl, hw'⟩; have hw' := hw'.symm; subst hw'))
        refine leaves_cons (f := 24) (args := #[.pointer (some ⟨b, 0, none⟩)]) (by simp) (by simp [go_sem]) ?_
        refine (unlock_deferred Tryz.muLib ⟨b, 0, none⟩ .returning _ HR2.out.1.cells.1 (HR2.out.1.frozen 0)).mono ?_
        rintro e u' w'' ⟨rfl, rfl, rfl⟩
        exact ⟨_, results_tmp rfl _ _ _, HR2.out.2.setCell _ (Or.inl (by simp [foot])), Or.inl ⟨rfl, ⟨k, hlt, HB.out⟩, HR2.out.1.lock 0⟩⟩
    · rw [fi_none s.ss 0 (fun x hx => by cases hp : (x.guid == g); rfl; exact absurd ⟨x, hx, hp⟩ hfd)] at hS
      have HB : Hid (fineAt s.ss zs k = false) := by
       show _ = _
       unfold fineAt
       rw [HGg.out]
       have : s.ss.any (isG g) = false := by
        rw [List.any_eq_false]
        intro x hx hp
        exact hfd ⟨x, hx, hp⟩
       rw [this]
       rfl
      clear hfd
      go_wp2_with (first
       | (go_at_call 65; refine hS.mono ?_; rintro e w2 ⟨rfl, hfr⟩
          have HR2 : Hid (Rep B w2 b 1 s ∧ Fr (foot b s) w w2) := ⟨HK.out.1.kept0 hfr, HK.out.2.1.trans hfr (by simp)⟩
          clear hfr))
      refine leaves_cons (f := 24) (args := #[.pointer (some ⟨b, 0, none⟩)]) (by simp) (by simp [go_sem]) ?_
      refine (unlock_deferred Tryz.muLib ⟨b, 0, none⟩ .returning _ HR2.out.1.cells.1 (HR2.out.1.frozen 0)).mono ?_
      rintro e u' w'' ⟨rfl, rfl, rfl⟩
      exact ⟨_, results_tmp rfl _ _ _, HR2.out.2.setCell _ (Or.inl (by simp [foot])), Or.inl ⟨rfl, ⟨k, hlt, HB.out⟩, HR2.out.1.lock 0⟩⟩
  · have hkk : k = zs.length := by omega
    subst hkk
    cases f
    · have HNo : Hid (∀ k, k < zs.length → heldAt s.ss zs k = false) := fun i hi => by
        have := HK.out.2.2.2
        have h2 := List.any_eq_false.1 this.symm i (by simpa using hi)
        simpa using h2
      have HJ0 : Hid (DesJ B b s w W3 s (zs.take 0)) := ⟨HK.out.1, HK.out.2.1, (left_nil _).symm, rfl, rfl, rfl, rfl, ⟨rfl, rfl, rfl, rfl, rfl, rfl, rfl⟩, fun _ _ _ => rfl⟩
      have HFine : Hid (∀ k, k < zs.length → fineAt s.ss zs k = true) := HK.out.2.2.1
      have hz12 : zs.length ≤ 20 := by have h8 := fine_len HFine.out; have h9 := HG.out.1; omega
      clear HK
      go_wp2
      go_loopw [9, 55] (fun tl i wr => ∃ (m : Nat) (sk : Sto) (t : ByteArray), m ≤ zs.length ∧ i = .int .i64 m ∧ tl = .string t ∧ t.size = 4 * m ∧ Hid (DesJ B b s w wr sk (zs.take m) ∧ t = gtext (zs.take m))) (fun _ i _ => zs.length - (intOf i).toNat)
      case atStart => exact ⟨0, s, ⟨#[]⟩, Nat.zero_le _, rfl, rfl, rfl, HJ0.out, rfl⟩
      case round =>
       obtain ⟨m, sk, t, hm, rfl, rfl, ht, HM⟩ := hrel
       obtain ⟨W6, hW6⟩ : ∃ W6, W6 = wr := ⟨_, rfl⟩
       subst hW6
       clear HJ0
       by_cases hlm : m < zs.length
       · obtain ⟨rb, off, hao, hc⟩ := (HRow.out W6 HM.out.1.2.1).2 (by omega)
         subst hao
         have d1 := hc m hlm
         obtain ⟨g, hg⟩ : ∃ g, tm zs m = g := ⟨_, rfl⟩
         have hin := HG.out.2.2.2 m hlm
         obtain ⟨r6, f6, e6, m6, v6, o6, t6, _, _⟩ := HM.out.1
         have hex := left_has (HFine.out m hlm)
         rw [← e6] at hex
         obtain ⟨j, hj, ej, hgj⟩ := fi_some sk.ss 0 hex
         rw [Nat.zero_add] at ej
         have hlen : sk.ss.length ≤ 12 := by
          rw [e6]
          exact Nat.le_trans (List.length_filter_le _ _) HG.out.1
         have hR := remove_any B b 1 sk (tm zs m) j W6 r6 hlen ej hj hin (by rw [v6]; exact HG.out.2.1)
         have hnd : (sk.ss.map Sn.guid).Nodup := by rw [e6]; exact left_nodup HG.out.2.2.1 _
         have her := erase_filter sk.ss (tm zs m) j hj hnd hgj
         have HE : Hid (sk.ss.eraseIdx j = left s.ss (zs.take (m + 1))) := by
          show _ = _
          rw [her, left_succ s.ss zs m hlm, e6]
         rw [hg] at d1 hR
         have HU := number_any g
         have HT9 : Hid (gtext (zs.take (m + 1)) = t ++ (n4 g).ba) := by
          show _ = _
          rw [gtext_succ zs m hlm, hg, HM.out.2]
         have hz4 : (n4 g).ba.size = 4 := rfl
         obtain ⟨ba, hba⟩ : ∃ ba, (n4 g).ba = ba := ⟨_, rfl⟩
         rw [hba] at HU HT9 hz4
         have HU' : Hid (∀ W, Calls Tryz.prog 22 #[.int .i64 g] W fun e w' => e = .returned (.string ba) ∧ Fr [] W w') := HU
         have HGm : Hid (tm zs m = g) := hg
         clear HU hba hg
         have hltz : (m : Int) < (zs.length : Int) := by omega
         clear hc hex ej hj hgj hnd her hin hlen r6 f6 e6 m6 v6 o6 t6
         go_wp2_with (first
          | (go_at_call 102; refine hR.mono ?_; rintro e w7 ⟨rfl, sv7, r7, f7, o7⟩
             have H7 : Hid (DesJ B b s w w7 (sk.rem g j sv7 sk.vol.length) (zs.take (m + 1))) := by
              obtain ⟨r6, f6, e6, m6, v6, o6, t6, k6, h6⟩ := HM.out.1
              refine ⟨r7, f6.trans f7 (fun x hx => Or.inl (by rw [← t6]; exact hx)), HE.out, m6, v6, o7.trans o6, ?_, k6, fun g' i' hg' => ?_⟩
              · rw [← t6]
                simp only [foot, Sto.rem, o7]
              · rw [List.take_succ_eq_append_getElem hlm, List.mem_append] at hg'
                have hne : ¬ g' = g := fun e => hg' (Or.inr (by rw [e, ← HGm.out, tm_get zs m hlm]; simp))
                simp only [Sto.rem]
                rw [if_neg (fun h => hne h.1)]
                exact h6 g' i' (fun h => hg' (Or.inl h))
             clear r7 f7 o7)
          | (go_at_call 22; refine (HU'.out _).mono ?_; rintro e w8 ⟨rfl, f8⟩
             have H8 : Hid (DesJ B b s w w8 (sk.rem g j sv7 sk.vol.length) (zs.take (m + 1))) := by
              obtain ⟨r6, f6, rest⟩ := H7.out
              exact ⟨r6.kept0 f8, f6.trans f8 (by simp), rest⟩
             clear f8))
         go_roundw
         case rel => exact ⟨m + 1, _, t ++ ba, by omega, by go_num, rfl, by rw [ByteArray.size_append, ht, hz4]; omega, H8.out, HT9.out.symm⟩
         case measure => simp [intOf]; omega
       · have hmm : m = zs.length := by omega
         subst hmm
         have hM := HM.out.1
         rw [List.take_length] at hM
         have hT := HM.out.2
         rw [List.take_length] at hT
         have H6 : Hid (DesJ B b s w W6 sk zs ∧ t = gtext zs) := ⟨hM, hT⟩
         clear hM hT HM
         by_cases hz0 : zs.length = 0
         · have hzn : zs = [] := List.eq_nil_of_length_eq_zero hz0
           have htn : t = ⟨#[]⟩ := by
            have := H6.out.2
            rw [hzn] at this
            exact this
           subst htn
           go_wp2
           refine leaves_cons (f := 24) (args := #[.pointer (some ⟨b, 0, none⟩)]) (by simp) (by simp [go_sem]) ?_
           obtain ⟨r6, f6, e6, m6, v6, o6, t6, k6, h6⟩ := H6.out.1
           refine (unlock_deferred Tryz.muLib ⟨b, 0, none⟩ .returning _ r6.cells.1 (r6.frozen 0)).mono ?_
           rintro e u' w'' ⟨rfl, rfl, rfl⟩
           exact ⟨_, results_tmp rfl _ _ _, f6.setCell _ (Or.inl (by simp [foot])), Or.inr (Or.inr ⟨rfl, HFine.out, HNo.out, sk, ⟨fun k hk => Or.inl (by rw [← t6]; exact hk), r6.lock 0, e6, m6, v6, k6.1, k6.2.1, k6.2.2.1, k6.2.2.2.1, h6, by rw [k6.2.2.2.2.1, if_pos hzn]; simp, k6.2.2.2.2.2.2⟩⟩)⟩
         · have HNt : Hid (Calls Tryz.prog 21 #[.pointer (some ⟨b, 0, none⟩), .int .u8 68, .string t] W6 fun e w' => e = .returned (.tuple #[]) ∧ ∃ lv, Rep B w' b 1 (sk.noted 68 t lv) ∧ Fr (foot b sk) W6 w' ∧ (∀ k, lv.ownBlock = some k → sk.lv.ownBlock = some k ∨ W6.heap.size ≤ k)) := note_any B b 1 sk 68 t W6 H6.out.1.1 (by omega) (by rw [H6.out.1.2.2.2.2.2.2.2.1.2.2.2.2.1]; exact hlg)
           have hte : t.toList.isEmpty = false := by
            rw [ByteArray.toList_eq, List.isEmpty_eq_false_iff]
            intro e
            have e2 : t.data.toList.length = t.size := Array.length_toList
            rw [e, ht] at e2
            simp at e2
            omega
           go_wp2_with (go_at_call 21; refine HNt.out.mono ?_; rintro e w9 ⟨rfl, lv, r9, f9, a9⟩; have H9 : Hid (Rep B w9 b 1 (sk.noted 68 t lv) ∧ Fr (foot b sk) W6 w9 ∧ (∀ k, lv.ownBlock = some k → sk.lv.ownBlock = some k ∨ W6.heap.size ≤ k)) := ⟨r9, f9, a9⟩; clear r9 f9 a9)
           refine leaves_cons (f := 24) (args := #[.pointer (some ⟨b, 0, none⟩)]) (by simp) (by simp [go_sem]) ?_
           obtain ⟨r6, f6, e6, m6, v6, o6, t6, k6, h6⟩ := H6.out.1
           refine (unlock_deferred Tryz.muLib ⟨b, 0, none⟩ .returning _ H9.out.1.cells.1 (H9.out.1.frozen 0)).mono ?_
           rintro e u' w'' ⟨rfl, rfl, rfl⟩
           have f9 : Fr (foot b s) w w9 := f6.trans H9.out.2.1 (fun k hk => Or.inl (by rw [← t6]; exact hk))
           refine ⟨_, results_tmp rfl _ _ _, f9.setCell _ (Or.inl (by simp [foot])), Or.inr (Or.inr ⟨rfl, HFine.out, HNo.out, sk.noted 68 t lv, ⟨fun k hk => ?_, H9.out.1.lock 0, e6, m6, v6, k6.1, k6.2.1, k6.2.2.1, k6.2.2.2.1, h6, ?_, k6.2.2.2.2.2.2⟩⟩)⟩
           · rw [← t6]
             simp only [foot, Sto.noted, List.mem_append, List.mem_cons, List.not_mem_nil, or_false, Option.mem_toList] at hk ⊢
             rcases hk with h1 | h1
             · exact Or.inl (Or.inl h1)
             · rcases H9.out.2.2 k h1 with h2 | h2
               · exact Or.inl (Or.inr h2)
               · exact Or.inr (Nat.le_trans f6.size h2)
           · rw [if_neg (fun e => hz0 (by rw [e]; rfl))]
             simp only [Sto.noted]
             rw [k6.2.2.2.2.1, H6.out.2]
    · have HYes : Hid (∃ k, k < zs.length ∧ heldAt s.ss zs k = true) := by
        have := HK.out.2.2.2
        obtain ⟨i, hi, h2⟩ := List.any_eq_true.1 this.symm
        exact ⟨i, by simpa using hi, h2⟩
      go_wp2
      refine leaves_cons (f := 24) (args := #[.pointer (some ⟨b, 0, none⟩)]) (by simp) (by simp [go_sem]) ?_
      refine (unlock_deferred Tryz.muLib ⟨b, 0, none⟩ .returning _ HK.out.1.cells.1 (HK.out.1.frozen 0)).mono ?_
      rintro e u' w'' ⟨rfl, rfl, rfl⟩
      exact ⟨_, results_tmp rfl _ _ _, HK.out.2.1.setCell _ (Or.inl (by simp [foot])), Or.inr (Or.inl ⟨rfl, HK.out.2.2.1, HYes.out, HK.out.1.lock 0⟩)⟩
end Go.Proofs.YthdhegmlknpllaaGreat
