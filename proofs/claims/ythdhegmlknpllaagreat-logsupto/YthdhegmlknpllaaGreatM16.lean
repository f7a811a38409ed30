import Derived.Test.YthdhegmlknpllaaGreatM06
import Derived.Test.YthdhegmlknpllaaGreatM15
namespace Go.Proofs.YthdhegmlknpllaaGreat
open Go.RowKit Go.Maps Go.MuLone
theorem mkC_take : ∀ (l : List (Int × Int)) (i : Nat), (mkC l).take (i * 2) = mkC (l.take i)
 | [], i => by simp [mkC]
 | x :: r, 0 => by simp [mkC]
 | x :: r, i + 1 => by
  have ih := mkC_take r i
  rw [show (i + 1) * 2 = i * 2 + 2 by omega]
  simp only [mkC, List.take_succ_cons, List.flatMap_cons, mkCells, List.cons_append, List.nil_append] at ih ⊢
  simpa [List.take_succ_cons] using ih
theorem mkC_drop : ∀ (l : List (Int × Int)) (i : Nat), (mkC l).drop (i * 2) = mkC (l.drop i)
 | [], i => by simp [mkC]
 | x :: r, 0 => by simp [mkC]
 | x :: r, i + 1 => by
  have ih := mkC_drop r i
  rw [show (i + 1) * 2 = i * 2 + 2 by omega]
  simp only [mkC, List.drop_succ_cons, List.flatMap_cons, mkCells, List.cons_append, List.nil_append] at ih ⊢
  simpa [List.drop_succ_cons] using ih
theorem mkC_erase (l : List (Int × Int)) (i : Nat) : mkC (l.eraseIdx i) = mkC (l.take i) ++ mkC (l.drop (i + 1)) := by
 rw [List.eraseIdx_eq_take_drop_succ]
 simp [mkC]
def z2 : List Value := [.int .i64 0, .int .i64 0]
theorem clear_mark (w : World) (ty : TypeId) (g o c : Nat) (hc : ∀ j, j < 2 → (w.cell? ⟨g, o + j, none⟩).isSome = true) (hf : ∀ j, j < 2 → w.frozen? ⟨g, o + j, none⟩ = false) :
  (Builtin.clear_ #[73] ty #[.slice (some ⟨g, o, none⟩) 1 c]).run Tryz.prog w = .ok (.tuple #[]) (w.setCells g o z2) := by
 have hst := run_storeCells_cells (P := Tryz.prog) g o z2 0 w (by simpa [z2] using hc) (by simpa [z2] using hf) (by
  intro v hv
  simp [z2] at hv
  subst hv
  rfl)
 have hzc : (Builtin.zeroCells #[Value.int .i64 0, .int .i64 0] 1).toList = z2 := by kernel_rfl
 simp [Builtin.clear_, run_underlying Tryz.underlying73, Tryz.zeroValue125, Value.cells, hzc, hst]
theorem delm_row {w : World} {B g n cap i : Nat} {l : List (Int × Int)} (hl : l.length = n) (hi : i < n) (h : w.ownsRow B 125 2 (.slice (some ⟨g, 0, none⟩) n cap) n (mkC l)) :
  ((w.setCells g (i * 2) (mkC (l.drop (i + 1)))).setCells g ((n - 1) * 2) z2).ownsRow B 125 2 (.slice (some ⟨g, 0, none⟩) (n - 1) cap) (n - 1) (mkC (l.eraseIdx i)) := by
 rcases h.2 with ⟨h1, _⟩ | ⟨g', c, cur, h1, hb, hg, hc, hm, hs, ht⟩
 · simp at h1
 · simp at h1
   obtain ⟨rfl, rfl⟩ := h1
   obtain ⟨c1, b1, s1, e1⟩ := setCells_heap (mkC (l.drop (i + 1))) (i * 2) w cur hg
   obtain ⟨c2, b2, s2, e2⟩ := setCells_heap z2 ((n - 1) * 2) _ c1 b1
   have hd : (mkC (l.drop (i + 1))).length = (n - (i + 1)) * 2 := by rw [mkC_len, List.length_drop, hl]
   refine ⟨by rw [mkC_len, List.length_eraseIdx_of_lt (by omega), hl], Or.inr ⟨g, cap, c2, rfl, hb, b2, by omega, hm, by omega, ?_⟩⟩
   apply List.ext_getElem?
   intro j
   have hlen : (mkC (l.eraseIdx i)).length = (n - 1) * 2 := by rw [mkC_len, List.length_eraseIdx_of_lt (by omega), hl]
   by_cases hj : j < (n - 1) * 2
   · rw [List.getElem?_take_of_lt hj, Array.getElem?_toList, e2 j (by omega), if_neg (by omega), e1 j (by omega), mkC_erase]
     have ht1 : (mkC (l.take i)).length = i * 2 := by rw [mkC_len, List.length_take, hl, Nat.min_eq_left (by omega)]
     by_cases hji : j < i * 2
     · rw [if_neg (by omega), List.getElem?_append_left (by omega), ← mkC_take, List.getElem?_take_of_lt hji, ← ht, List.getElem?_take_of_lt (by omega), Array.getElem?_toList]
     · rw [if_pos (by omega), List.getElem?_append_right (by omega), ht1]
   · rw [List.getElem?_eq_none (by rw [List.length_take]; omega), List.getElem?_eq_none (by omega)]
set_option maxRecDepth 100000 in
set_option maxHeartbeats 1600000 in
theorem delete_mark (B g n cap i : Nat) (l : List (Int × Int)) (w : World) (hl : l.length = n) (hi : i < n) (hn : n ≤ 12) (h : w.ownsRow B 125 2 (.slice (some ⟨g, 0, none⟩) n cap) n (mkC l)) :
  Calls Tryz.prog 73 #[.slice (some ⟨g, 0, none⟩) n cap, .int .i64 i, .int .i64 (i + 1 : Nat)] w fun e w' => e = .returned (.slice (some ⟨g, 0, none⟩) (n - 1) cap) ∧ w'.ownsRow B 125 2 (.slice (some ⟨g, 0, none⟩) (n - 1) cap) (n - 1) (mkC (l.eraseIdx i)) ∧ w.grownBy w' (some g) := by
 obtain ⟨i0, hi0, hz0, hz1, hz2⟩ := info_parts info107
 have hO := h
 rcases h.2 with ⟨h1, _⟩ | ⟨g', c, cur, h1, hb, hg, hc, hm, hs, ht⟩
 · simp at h1
 simp at h1
 obtain ⟨rfl, rfl⟩ := h1
 have hO' : Hid (w.ownsRow B 125 2 (.slice (some ⟨g, 0, none⟩) n cap) n (mkC l) ∧ w.heap[g]? = some (.cells cur 125 (0, 0)) ∧ cur.size = cap * 2 ∧ cur.toList.take (n * 2) = mkC l) := ⟨hO, hg, hs, ht⟩
 have i1 : (0 : Int) ≤ (i : Int) := Int.natCast_nonneg _
 have i2 : (i : Int) ≤ (n : Int) := by omega
 have i3 : ((i + 1 : Nat) : Int) ≤ (n : Int) := by omega
 have i4 : (n : Int) ≤ (cap : Int) := by omega
 have i5 : ((i : Int) == ((i + 1 : Nat) : Int)) = false := by simp; omega
 have i6 : (i : Int) ≤ (cap : Int) := by omega
 obtain ⟨k, hk⟩ : ∃ k, i + 1 = k := ⟨_, rfl⟩
 rw [hk] at i3 i5 ⊢
 have i7 : (i : Int) ≤ (k : Int) := by omega
 have i8 : (k : Int) ≤ (cap : Int) := by omega
 have i9 : (0 : Int) ≤ (k : Int) := Int.natCast_nonneg _
 obtain ⟨m, hm'⟩ : ∃ m, n - k = m := ⟨_, rfl⟩
 obtain ⟨news, hnw⟩ : ∃ news, mkC (l.drop k) = news := ⟨_, rfl⟩
 have hnl : news.length = m * 2 := by rw [← hnw, mkC_len, List.length_drop, hl, hm']
 have hn1 : ∀ u ∈ news, u.oneCell' = true := by
  intro u hu
  rw [← hnw] at hu
  simp only [mkC, List.mem_flatMap, mkCells] at hu
  obtain ⟨x, _, hx⟩ := hu
  simp at hx
  rcases hx with rfl | rfl <;> rfl
 have hsrc : ∀ t u, news[t]? = some u → w.cell? ⟨g, k * 2 + t, none⟩ = some u := by
  intro t u hu
  rw [← hnw, ← mkC_drop, List.getElem?_drop, ← ht] at hu
  have hlt : k * 2 + t < n * 2 := by
   have := (List.getElem?_eq_some_iff.1 hu).1
   rw [List.length_take] at this
   omega
  rw [List.getElem?_take_of_lt hlt, Array.getElem?_toList] at hu
  rw [cell_of hg]
  exact hu
 have hsp : ∀ j, j < news.length → (w.cell? ⟨g, 0 + i * 2 + j, none⟩).isSome = true ∧ w.frozen? ⟨g, 0 + i * 2 + j, none⟩ = false := by
  intro j hj
  refine ⟨?_, froz_of hg _⟩
  rw [cell_of hg, Array.getElem?_eq_getElem (by omega)]
  rfl
 have HN : Hid (news.length = m * 2 ∧ (∀ u ∈ news, u.oneCell' = true) ∧ (∀ t u, news[t]? = some u → w.cell? ⟨g, k * 2 + t, none⟩ = some u) ∧ (∀ j, j < news.length → (w.cell? ⟨g, 0 + i * 2 + j, none⟩).isSome = true ∧ w.frozen? ⟨g, 0 + i * 2 + j, none⟩ = false) ∧ i + m = n - 1) := ⟨hnl, hn1, hsrc, hsp, by omega⟩
 clear hO h hg hs ht hnl hn1 hsrc hsp
 obtain ⟨p, hp⟩ : ∃ p, n - 1 = p := ⟨_, rfl⟩
 have him : i + m = p := by omega
 have hpc : ¬ cap = p := by omega
 have p1 : (p : Int) ≤ (n : Int) := by omega
 have p2 : (p : Int) ≤ (cap : Int) := by omega
 have p3 : n - p = 1 := by omega
 have hO2 := hO'.out
 obtain ⟨W5, hW5⟩ : ∃ W5, w.drew.setCells g (i * 2) news = W5 := ⟨_, rfl⟩
 have hb5 : ∃ c5, W5.heap[g]? = some (.cells c5 125 (0, 0)) ∧ c5.size = cap * 2 := by
  obtain ⟨c1, b1, s1, _⟩ := setCells_heap news (i * 2) w.drew cur hO2.2.1
  exact ⟨c1, by rw [← hW5]; exact b1, by rw [s1]; exact hO2.2.2.1⟩
 obtain ⟨c5, b5, s5⟩ := hb5
 have hcl : ∀ ty, (Builtin.clear_ #[73] ty #[.slice (some ⟨g, p * 2, none⟩) 1 (cap - p)]).run Tryz.prog W5 = .ok (.tuple #[]) (W5.setCells g (p * 2) z2) := fun ty =>
  clear_mark W5 ty g (p * 2) (cap - p) (fun j hj => by rw [cell_of b5, Array.getElem?_eq_getElem (by omega)]; rfl) (fun j _ => froz_of b5 _)
 have HE : Hid ((W5.setCells g (p * 2) z2).ownsRow B 125 2 (.slice (some ⟨g, 0, none⟩) p cap) p (mkC (l.eraseIdx i)) ∧ w.grownBy (W5.setCells g (p * 2) z2) (some g)) := by
  have h1 := delm_row (w := w.drew) hl hi hO2.1.drew
  rw [hk, hnw, hW5, hp] at h1
  refine ⟨h1, ?_⟩
  rw [← hW5]
  have g1 := setCells_gb g news (i * 2) w.drew
  have g2 := setCells_gb g z2 (p * 2) (w.drew.setCells g (i * 2) news)
  exact ⟨g2.os.trans g1.os, g2.tape.trans g1.tape, g2.output.trans g1.output, Nat.le_trans g1.size g2.size, fun k hk hn => (g2.block k (Nat.lt_of_lt_of_le hk g1.size) hn).trans (g1.block k hk hn)⟩
 have HP : Hid (n - k = m ∧ n - 1 = p) := ⟨hm', hp⟩
 clear hO2 hnw b5 s5 hO' hk hp
 by_cases hkc : cap = k
 · subst hkc
   have H0 : Hid (∀ t u, news[t]? = some u → False) := fun t u hu => by
    have h1 := HN.out.1
    have h2 := (List.getElem?_eq_some_iff.1 hu).1
    omega
   go_enter Tryz.func73, Tryz.ntmps73
   go_wp2
   go_region_law
    ((refine step_append_room (by rfl) _ _ _ (by rfl) 125 i0 2 Tryz.underlying73 hi0 hz1 g 0 i _ (by rfl) ⟨g, 0, none⟩ m _ news (by rfl) HN.out.1 (fun t u hu => (H0.out t u hu).elim) HN.out.2.1 (by omega) HN.out.2.2.2.1 ?_))
   all_goals
    go_wp2
    go_ret
    exact ⟨by rw [HP.out.2]; rfl, by rw [HP.out.2]; exact HE.out.1, HE.out.2⟩
 · go_enter Tryz.func73, Tryz.ntmps73
   go_wp2
   go_region_law
    ((refine step_append_room (by rfl) _ _ _ (by rfl) 125 i0 2 Tryz.underlying73 hi0 hz1 g 0 i cap (by rfl) ⟨g, k * 2, none⟩ m (cap - k) news (by rfl) HN.out.1 (fun t u hu => by rw [Addr.add_lit]; exact HN.out.2.2.1 t u hu) HN.out.2.1 (by omega) HN.out.2.2.2.1 ?_))
   all_goals
    go_wp2
    go_ret
    exact ⟨by rw [HP.out.2]; rfl, by rw [HP.out.2]; exact HE.out.1, HE.out.2⟩
def Sto.unmark (s : Sto) (j : Nat) (mv : Value) : Sto := { s with ms := s.ms.eraseIdx j, mv := mv }
theorem Rep.unmarked {B : Nat} {w w' : World} {b : Nat} {q : Int} {s : Sto} (h : Rep B w b q s) {j gg cap : Nat} (hj : j < s.ms.length) (hmv : s.mv = .slice (some ⟨gg, 0, none⟩) s.ms.length cap) (ho : w'.ownsRow B 125 2 (.slice (some ⟨gg, 0, none⟩) (s.ms.length - 1) cap) (s.ms.length - 1) (mkC (s.ms.eraseIdx j))) (hg : w.grownBy w' (some gg)) :
  Rep B (w'.setCell ⟨b, 6, none⟩ (.slice (some ⟨gg, 0, none⟩) (s.ms.length - 1) cap)) b q (s.unmark j (.slice (some ⟨gg, 0, none⟩) (s.ms.length - 1) cap)) := by
 obtain ⟨a1, a2, a3, a4, a5, a6⟩ := h.apart
 have hgg : s.mv.ownBlock = some gg := by rw [hmv]; rfl
 have an := a5 gg hgg
 have hb : w'.heap[b]? = some (s.blk q) := by rw [hg.block b (h.lt b (by simp [foot])).2 (by simpa using Ne.symm an.1)]; exact h.blk
 refine ⟨?_, ?_, ?_, ?_, ?_, ?_, h.hb, h.hvb, h.hmb⟩
 · rw [heap_setCell_same w' b 6 _ _ _ hb]; rfl
 · rw [heap_setCell_other _ _ _ _ (by exact a1)]; exact (hg.block s.vb (h.lt s.vb (by simp [foot])).2 (by simpa using Ne.symm an.2.1)).trans h.vol
 · refine own_of_block h.ss (fun k hk => ?_)
   rw [heap_setCell_other _ _ _ _ (a4 k hk).1]
   exact hg.block k (h.ss.lt k hk).2 (fun e => by
    have : k = gg := by simpa using e
    exact (a4 k hk).2.2.2 (by rw [this]; exact hgg))
 · refine h.th.of_block ?_
   rw [heap_setCell_other _ _ _ _ (by exact a2)]
   exact hg.block s.mb (h.lt s.mb (by simp [foot])).2 (by simpa using Ne.symm an.2.2)
 · show (w'.setCell ⟨b, 6, none⟩ (.slice (some ⟨gg, 0, none⟩) (s.ms.length - 1) cap)).ownsRow B 125 2 (.slice (some ⟨gg, 0, none⟩) (s.ms.length - 1) cap) (s.ms.eraseIdx j).length (mkC (s.ms.eraseIdx j))
   rw [List.length_eraseIdx_of_lt hj]
   exact own_of_block ho (fun k hk => heap_setCell_other _ _ _ _ (fun e => by
    have : gg = k := by simpa [Value.ownBlock] using hk
    exact an.1 (by rw [this]; exact e)))
 · refine own_of_block h.lg (fun k hk => ?_)
   rw [heap_setCell_other _ _ _ _ (a6 k hk).1]
   exact hg.block k (h.lg.lt k hk).2 (fun e => by
    have : k = gg := by simpa using e
    exact (a6 k hk).2.2.2.2 (by rw [this]; exact hgg))
theorem unmark_foot {b j : Nat} {s : Sto} {mv : Value} {N : Nat} (h : mv.ownBlock = s.mv.ownBlock) : ∀ k ∈ foot b (s.unmark j mv), k ∈ foot b s ∨ N ≤ k := by
 intro k hk
 left
 simp only [foot, Sto.unmark, h] at hk ⊢
 exact hk
set_option maxRecDepth 100000 in
set_option maxHeartbeats 1600000 in
theorem unmark_ok (B b : Nat) (s : Sto) (g : Int) (j : Nat) (w : World) (h : Rep B w b 0 s) (hl : s.ms.length ≤ 12) (hf : fi (fun y : Int × Int => y.1 == g) 0 s.ms = (j : Int)) (hj : j < s.ms.length) (hlg : s.log.length ≤ 140000000000000) :
  Calls Tryz.prog 44 #[.pointer (some ⟨b, 0, none⟩), .int .i64 g] w fun e w' => e = .returned (.int .i64 0) ∧ ∃ mv lv, Rep B w' b 0 ((s.unmark j mv).noted 85 (n4 g).ba lv) ∧ Fr (foot b s) w w' ∧ mv.ownBlock = s.mv.ownBlock ∧ (∀ k, lv.ownBlock = some k → s.lv.ownBlock = some k ∨ w.heap.size ≤ k) := by
 have HU : Hid (∀ W, Calls Tryz.prog 22 #[.int .i64 g] W fun e w' => e = .returned (.string (n4 g).ba) ∧ Fr [] W w') := fun W => number_any g W
 have HNt : Hid (∀ W mv, Rep B W b 1 (s.unmark j mv) → _) := fun W mv hW => note_any B b 1 (s.unmark j mv) 85 (n4 g).ba W hW (by show 4 ≤ 1000; omega) hlg
 obtain ⟨ba, hba⟩ : ∃ ba, (n4 g).ba = ba := ⟨_, rfl⟩
 rw [hba] at HU HNt ⊢
 clear hba
 obtain ⟨w1, hw1, R1⟩ := h.lk
 have HL := lock_free Tryz.muLib ⟨b, 0, none⟩ w h.cells.1 (h.frozen 0)
 have F1 := lkF s hw1
 have HF : Hid (w.setCell ⟨b, 0, none⟩ (.int .i32 1) = w1 ∧ Rep B w1 b 1 s ∧ Fr (foot b s) w w1) := ⟨hw1, R1, F1⟩
 have HS := findMark_any B b 1 s g w1 R1 (by omega)
 rw [hf] at HS
 obtain ⟨ao, cap, hmv⟩ := own_shape h.ms
 have ho := h.ms
 rw [hmv] at ho
 obtain ⟨gg, hgg, hcap, hcc⟩ := own_addr ho (by omega)
 subst hgg
 have HV : Hid (s.mv = .slice (some ⟨gg, 0, none⟩) s.ms.length cap ∧ j < s.ms.length ∧ Rep B w b 0 s) := ⟨hmv, hj, h⟩
 obtain ⟨n, hn⟩ : ∃ n, s.ms.length = n := ⟨_, rfl⟩
 have HN : Hid (s.ms.length = n) := hn
 have HD : Hid (∀ W, Rep B W b 1 s → Calls Tryz.prog 73 #[.slice (some ⟨gg, 0, none⟩) n cap, .int .i64 j, .int .i64 ((j : Int) + 1)] W fun e w' => e = .returned (.slice (some ⟨gg, 0, none⟩) (n - 1) cap) ∧ w'.ownsRow B 125 2 (.slice (some ⟨gg, 0, none⟩) (n - 1) cap) (n - 1) (mkC (s.ms.eraseIdx j)) ∧ W.grownBy w' (some gg)) := fun W hW => by
  have h1 := hW.ms
  rw [hmv, hn] at h1
  have := delete_mark B gg n cap j s.ms W hn (by omega) (by omega) h1
  rw [show ((j + 1 : Nat) : Int) = (j : Int) + 1 by simp] at this
  exact this
 have q1 : IntKind.i64.wrap ((j : Int) + 1) = (j : Int) + 1 := wrap_fit ⟨by omega, by omega⟩
 have j0 : ¬ ((j : Int) < 0) := by omega
 clear h R1 F1 hw1 hf ho hmv hcc hn hl hj
 go_enter_defers Tryz.func44, Tryz.ntmps44
 go_wp2_with (first
  | (go_at_call 23; refine HL.mono ?_; rintro e w' ⟨rfl, hw'⟩; rw [HF.out.1] at hw'; have hw' := hw'.symm; subst hw')
  | (go_at_call 69; refine HS.mono ?_; rintro e w2 ⟨rfl, hfr⟩
     have HR2 : Hid (Rep B w2 b 1 s ∧ Fr (foot b s) w w2) := ⟨HF.out.2.1.kept0 hfr, HF.out.2.2.trans hfr (by simp)⟩
     have c6 : w2.cell? ⟨b, 6, none⟩ = some (.slice (some ⟨gg, 0, none⟩) n cap) := by rw [← HN.out, ← HV.out.1]; exact HR2.out.1.cells.2.2.2.2.2.1
     clear hfr)
  | (go_at_call 73; refine (HD.out _ HR2.out.1).mono ?_; rintro e w3 ⟨rfl, ho3, hg3⟩
     have hgb : b ≠ gg := Ne.symm (HV.out.2.2.apart.2.2.2.2.1 gg (by rw [HV.out.1]; rfl)).1
     have HR3 : Hid (Rep B (w3.setCell ⟨b, 6, none⟩ (.slice (some ⟨gg, 0, none⟩) (n - 1) cap)) b 1 (s.unmark j (.slice (some ⟨gg, 0, none⟩) (n - 1) cap)) ∧ Fr (foot b s) w (w3.setCell ⟨b, 6, none⟩ (.slice (some ⟨gg, 0, none⟩) (n - 1) cap))) := by
      refine ⟨?_, (HR2.out.2.grown hg3 (fun k hk => Or.inl ?_)).setCell _ (Or.inl (by simp [foot]))⟩
      · have := HR2.out.1.unmarked (j := j) HV.out.2.1 HV.out.1 (by rw [HN.out]; exact ho3) hg3
        rw [HN.out] at this
        exact this
      · have : gg = k := by simpa using hk
        rw [← this]
        simp [foot, HV.out.1, Value.ownBlock]
     have c6' : w3.cell? ⟨b, 6, none⟩ = some (.slice (some ⟨gg, 0, none⟩) n cap) := hg3.cell c6 (by simpa using hgb)
     have f6' : w3.frozen? ⟨b, 6, none⟩ = false := (hg3.frozen_far ⟨b, 6, none⟩ (World.block_lt_of_cell? _ _ c6) (by simpa using hgb)).trans (HR2.out.1.frozen 6)
     clear ho3 hg3)
  | (go_at_call 22; refine (HU.out _).mono ?_; rintro e w5 ⟨rfl, f5⟩; have HR5 : Hid (Rep B w5 b 1 (s.unmark j (.slice (some ⟨gg, 0, none⟩) (n - 1) cap)) ∧ Fr (foot b s) w w5) := ⟨HR3.out.1.kept0 f5, HR3.out.2.trans f5 (by simp)⟩; clear f5)
  | (go_at_call 21; refine (HNt.out _ _ HR5.out.1).mono ?_; rintro e w6 ⟨rfl, lv, r6, f6, a6⟩; have HR6 : Hid (Rep B w6 b 1 ((s.unmark j (.slice (some ⟨gg, 0, none⟩) (n - 1) cap)).noted 85 ba lv) ∧ Fr (foot b s) w w6 ∧ (∀ k, lv.ownBlock = some k → s.lv.ownBlock = some k ∨ w.heap.size ≤ k)) := ⟨r6, HR5.out.2.trans f6 (unmark_foot (by rw [HV.out.1]; rfl)), fun k hk => (a6 k hk).imp_right (fun h => Nat.le_trans HR5.out.2.size h)⟩; clear r6 f6 a6))
 refine leaves_cons (f := 24) (args := #[.pointer (some ⟨b, 0, none⟩)]) (by simp) (by simp [go_sem]) ?_
 refine (unlock_deferred Tryz.muLib ⟨b, 0, none⟩ .returning _ HR6.out.1.cells.1 (HR6.out.1.frozen 0)).mono ?_
 rintro e u' w'' ⟨rfl, rfl, rfl⟩
 exact ⟨_, results_tmp rfl _ _ _, rfl, _, lv, HR6.out.1.lock 0, HR6.out.2.1.setCell _ (Or.inl (by simp [foot])), by rw [HV.out.1]; rfl, HR6.out.2.2⟩
def newS (id : Int) (n vb mb : Nat) (lv : Value) : Sto := (Sto.fresh id n vb mb).noted 78 (ntext id n) lv
set_option maxRecDepth 100000 in
set_option maxHeartbeats 800000 in
theorem fresh_ok (id : Int) (n : Nat) (w : World) (h1 : 1 ≤ id ∧ id ≤ 999) (h2 : 1 ≤ n ∧ n ≤ 16) :
  Calls Tryz.prog 7 #[.int .i64 id, .int .i64 n] w fun e w' => ∃ db b vb mb lv rb, e = .returned (.tuple #[.pointer (some ⟨db, 0, none⟩), .bool true]) ∧ w'.heap[db]? = some (.cells #[.pointer (some ⟨b, 0, none⟩), .pointer (some ⟨rb, 0, none⟩), .slice none 0 0] 53 (0, 0)) ∧ w.heap.size ≤ db ∧ Rep w.heap.size w' b 0 (newS id n vb mb lv) ∧ RRep w.heap.size w' rb (RSto.fresh id n 16) ∧ (∀ k ∈ foot b (newS id n vb mb lv), k ∉ rfoot rb (RSto.fresh id n 16)) ∧ Fr [] w w' := by
 have HN := new_ok id n w h1 h2
 have HR : Hid (∀ W, Calls Tryz.prog 13 #[.int .i64 id, .int .i64 n] W _) := fun W => rnew_ok id n W h1 h2
 clear h1 h2
 go_enter Tryz.func7, Tryz.ntmps7
 go_wp2_with (first
  | (go_at_call 12; refine HN.mono ?_; rintro e w1 ⟨b, vb, mb, lv, rfl, r1, f1⟩
     have H1 : Hid (Rep w.heap.size w1 b 0 (newS id n vb mb lv) ∧ Fr [] w w1) := ⟨r1, f1⟩
     clear r1 f1)
  | (go_at_call 13; refine (HR.out _).mono ?_; rintro e w2 ⟨rb, rfl, r2, f2⟩
     have H2 : Hid (RRep w1.heap.size w2 rb (RSto.fresh id n 16) ∧ Fr [] w1 w2) := ⟨r2, f2⟩
     clear r2 f2))
 go_ret2
 refine ⟨w2.heap.size, b, vb, mb, lv, rb, by first | rfl | simp, heap_alloc_new w2 _, ?_, ?_, ?_, ?_, ?_⟩
 · have := H1.out.2.size
   have := H2.out.2.size
   omega
 · exact (H1.out.1.kept0 H2.out.2).kept0 ((Fr.refl _ _).alloc _)
 · have r := H2.out.1.kept0 ((Fr.refl _ _).alloc (.cells #[.pointer (some ⟨b, 0, none⟩), .pointer (some ⟨rb, 0, none⟩), .slice none 0 0] 53))
   exact ⟨r.blk, r.d16, r.b16, r.wf, World.ownsRow_nil _ _ _ _, World.ownsRow_nil _ _ _ _, Nat.le_trans H1.out.2.size r.hb⟩
 · intro k hk hm
   have h3 := (H1.out.1.lt k hk).2
   have h4 := (H2.out.1.lt k hm).1
   omega
 · exact (H1.out.2.trans H2.out.2 (by simp)).alloc _
set_option maxHeartbeats 800000 in
theorem fresh_bad (id n : Int) (w : World) (h : ((decide (id < 1) || decide (999 < id)) || decide (n < 1)) = true ∨ 16 < n) :
  Calls Tryz.prog 7 #[.int .i64 id, .int .i64 n] w fun e w' => e = .returned (.tuple #[.pointer none, .bool true]) ∧ w' = w := by
 have HN := new_bad id n w h
 have HR := rnew_bad id n w h
 clear h
 go_enter Tryz.func7, Tryz.ntmps7
 go_wp2_with (first
  | (go_at_call 12; refine HN.mono ?_; rintro e w' ⟨rfl, hw'⟩; have hw' := hw'.symm; subst hw')
  | (go_at_call 13; refine HR.mono ?_; rintro e w' ⟨rfl, hw'⟩; have hw' := hw'.symm; subst hw'))
 go_ret2
 exact ⟨rfl, rfl⟩
end Go.Proofs.YthdhegmlknpllaaGreat
