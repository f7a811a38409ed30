import Derived.Test.YthdhegmlknpllaaGreatM04
namespace Go.Proofs.YthdhegmlknpllaaGreat
open Go.RowKit Go.Maps Go.MuLone
theorem own_set {w : World} {base g n cap size j : Nat} {e : TypeId} {xs : List Value} (h : w.ownsRow base e size (.slice (some ⟨g, 0, none⟩) n cap) n xs) (v : Value) (_hj : j < n * size) : (w.setCell ⟨g, j, none⟩ v).ownsRow base e size (.slice (some ⟨g, 0, none⟩) n cap) n (xs.set j v) := by
 refine ⟨by rw [List.length_set]; exact h.1, ?_⟩
 rcases h.2 with ⟨h1, _⟩ | ⟨g', c, cur, h1, hb, hg, hc, hm, hs, ht⟩
 · simp at h1
 · simp at h1
   obtain ⟨rfl, rfl⟩ := h1
   refine Or.inr ⟨g, cap, cur.setIfInBounds j v, rfl, hb, heap_setCell_same w g j cur e v hg, hc, hm, by simpa using hs, ?_⟩
   rw [← ht, Array.toList_setIfInBounds, List.take_set]
def Sn.hold (x : Sn) (z : Int) : Sn := { x with holds := z }
def Sto.setH (s : Sto) (j : Nat) (x : Sn) (z : Int) : Sto := { s with ss := s.ss.set j (x.hold z) }
theorem snC_set : ∀ (l : List Sn) (j : Nat) (x : Sn) (z : Int), l[j]? = some x → (snC l).set (j * 4 + 2) (.int .i64 z) = snC (l.set j (x.hold z))
 | [], _, _, _, h => by simp at h
 | y :: r, 0, x, z, h => by
  simp at h
  subst h
  simp [snC, Sn.cells, Sn.hold]
 | y :: r, j + 1, x, z, h => by
  have ih := snC_set r j x z (by simpa using h)
  have e : (j + 1) * 4 + 2 = j * 4 + 2 + 4 := by omega
  simp only [snC, List.flatMap_cons, List.set_cons_succ, Sn.cells, List.cons_append, List.nil_append, e] at ih ⊢
  simpa [List.set_cons_succ] using ih
theorem Rep.setH {B : Nat} {w : World} {b : Nat} {q : Int} {s : Sto} (h : Rep B w b q s) {j : Nat} {x : Sn} (hx : s.ss[j]? = some x) (z : Int) {gg cap : Nat} (hsv : s.sv = .slice (some ⟨gg, 0, none⟩) s.ss.length cap) : Rep B (w.setCell ⟨gg, j * 4 + 2, none⟩ (.int .i64 z)) b q (s.setH j x z) := by
 obtain ⟨a1, a2, a3, a4, a5, a6⟩ := h.apart
 have hj : j < s.ss.length := (List.getElem?_eq_some_iff.1 hx).1
 have hgg : s.sv.ownBlock = some gg := by rw [hsv]; rfl
 have an := a4 gg hgg
 refine ⟨?_, ?_, ?_, ?_, ?_, ?_, h.hb, h.hvb, h.hmb⟩
 · rw [heap_setCell_other _ _ _ _ (by exact Ne.symm an.1)]; exact h.blk
 · rw [heap_setCell_other _ _ _ _ (by exact Ne.symm an.2.1)]; exact h.vol
 · show (w.setCell ⟨gg, j * 4 + 2, none⟩ (.int .i64 z)).ownsRow B 119 4 s.sv (s.ss.set j (x.hold z)).length (snC (s.ss.set j (x.hold z)))
   rw [← snC_set _ _ _ _ hx, List.length_set, hsv]
   have ho := h.ss
   rw [hsv] at ho
   exact own_set ho _ (by omega)
 · exact h.th.of_block (heap_setCell_other _ _ _ _ (by exact Ne.symm an.2.2.1))
 · exact own_of_block h.ms (fun k hk => heap_setCell_other _ _ _ _ (fun e => by
     have e' : k = gg := e
     subst e'
     exact an.2.2.2 hk))
 · exact own_of_block h.lg (fun k hk => heap_setCell_other _ _ _ _ (fun e => by
     have e' : k = gg := e
     subst e'
     exact (a6 k hk).2.2.2.1 hgg))
set_option maxRecDepth 100000 in
set_option maxHeartbeats 800000 in
theorem hold_ok (B b : Nat) (s : Sto) (g : Int) (j : Nat) (x : Sn) (w : World) (h : Rep B w b 0 s) (hl : s.ss.length ≤ 12) (hf : fi (fun y : Sn => y.guid == g) 0 s.ss = (j : Int)) (hx : s.ss[j]? = some x) (hh : 0 ≤ x.holds ∧ x.holds < 9) (hlg : s.log.length ≤ 140000000000000) :
  Calls Tryz.prog 37 #[.pointer (some ⟨b, 0, none⟩), .int .i64 g] w fun e w' => e = .returned (.int .i64 0) ∧ ∃ lv, Rep B w' b 0 ((s.setH j x (x.holds + 1)).noted 72 (n4 g).ba lv) ∧ Fr (foot b s) w w' ∧ (∀ k, lv.ownBlock = some k → s.lv.ownBlock = some k ∨ w.heap.size ≤ k) := by
 have HU : Hid (∀ W, Calls Tryz.prog 22 #[.int .i64 g] W fun e w' => e = .returned (.string (n4 g).ba) ∧ Fr [] W w') := fun W => number_any g W
 have HNt : Hid (∀ W, Rep B W b 1 (s.setH j x (x.holds + 1)) → _) := fun W hW => note_any B b 1 (s.setH j x (x.holds + 1)) 72 (n4 g).ba W hW (by show 4 ≤ 1000; omega) hlg
 obtain ⟨ba, hba⟩ : ∃ ba, (n4 g).ba = ba := ⟨_, rfl⟩
 rw [hba] at HU HNt ⊢
 clear hba
 obtain ⟨w1, hw1, R1⟩ := h.lk
 have hj : j < s.ss.length := (List.getElem?_eq_some_iff.1 hx).1
 have HL := lock_free Tryz.muLib ⟨b, 0, none⟩ w h.cells.1 (h.frozen 0)
 have F1 := lkF s hw1
 have HF : Hid (w.setCell ⟨b, 0, none⟩ (.int .i32 1) = w1 ∧ Rep B w1 b 1 s ∧ Fr (foot b s) w w1 ∧ s.ss[j]? = some x) := ⟨hw1, R1, F1, hx⟩
 have HS := findSnapshot_any B b 1 s g w1 R1 (by omega)
 rw [hf] at HS
 obtain ⟨ao, cap, hsv⟩ := own_shape h.ss
 have ho := h.ss
 rw [hsv] at ho
 obtain ⟨gg, hgg, hcap, _⟩ := own_addr ho (by omega)
 subst hgg
 have hgl := h.ss.lt gg (by rw [hsv]; rfl)
 have t1 : ¬ ((9 : Int) ≤ x.holds) := by omega
 have e1 : IntKind.i64.wrap (x.holds + 1) = x.holds + 1 := wrap_fit ⟨by omega, by omega⟩
 have HV : Hid (s.sv = .slice (some ⟨gg, 0, none⟩) s.ss.length cap) := hsv
 obtain ⟨n, hn⟩ : ∃ n, s.ss.length = n := ⟨_, rfl⟩
 have hjn : (j : Int) < (n : Int) := by omega
 have HN : Hid (s.ss.length = n) := hn
 clear h R1 F1 hw1 hf hx ho hsv hgl
 rw [hn] at hcap hj hl
 clear hn
 go_enter_defers Tryz.func37, Tryz.ntmps37
 go_wp2_with (first
  | (go_at_call 23; refine HL.mono ?_; rintro e w' ⟨rfl, hw'⟩; rw [HF.out.1] at hw'; have hw' := hw'.symm; subst hw')
  | (go_at_call 65; refine HS.mono ?_; rintro e w2 ⟨rfl, hfr⟩
     have HR2 : Hid (Rep B w2 b 1 s ∧ Fr (foot b s) w w2) := ⟨HF.out.2.1.kept0 hfr, HF.out.2.2.1.trans hfr (by simp)⟩
     have c4 : w2.cell? ⟨b, 4, none⟩ = some (.slice (some ⟨gg, 0, none⟩) n cap) := by rw [← HN.out, ← HV.out]; exact HR2.out.1.cells.2.2.2.1
     have d2 : w2.cell? ⟨gg, j * 4 + 2, none⟩ = some (.int .i64 x.holds) := by
      have h1 := HR2.out.1.ss
      rw [HV.out, HN.out] at h1
      obtain ⟨g', e', _, hc⟩ := own_addr h1 (by omega)
      have : g' = gg := by simpa using e'.symm
      subst this
      rw [hc _ (by omega)]
      have h2 := (snC_get s.ss j (by rw [HN.out]; exact hj)).2.2.1
      rw [h2]
      have h3 := HF.out.2.2.2
      rw [List.getElem?_eq_getElem (by rw [HN.out]; exact hj)] at h3
      simp at h3
      rw [h3]
     have z2 : w2.frozen? ⟨gg, j * 4 + 2, none⟩ = false := by
      obtain ⟨_, cur, h1⟩ := own_tag HR2.out.1.ss (k := gg) (by rw [HV.out]; rfl)
      exact froz_of h1 _
     have HR3 : Hid (Rep B (w2.setCell ⟨gg, j * 4 + 2, none⟩ (.int .i64 (x.holds + 1))) b 1 (s.setH j x (x.holds + 1)) ∧ Fr (foot b s) w (w2.setCell ⟨gg, j * 4 + 2, none⟩ (.int .i64 (x.holds + 1)))) := ⟨HR2.out.1.setH HF.out.2.2.2 _ HV.out, HR2.out.2.setCell _ (Or.inl (by simp [foot, HV.out, Value.ownBlock]))⟩
     clear hfr)
  | (go_at_call 22; refine (HU.out _).mono ?_; rintro e w5 ⟨rfl, f5⟩; have HR5 : Hid (Rep B w5 b 1 (s.setH j x (x.holds + 1)) ∧ Fr (foot b s) w w5) := ⟨HR3.out.1.kept0 f5, HR3.out.2.trans f5 (by simp)⟩; clear f5)
  | (go_at_call 21; refine (HNt.out _ HR5.out.1).mono ?_; rintro e w6 ⟨rfl, lv, r6, f6, a6⟩; have HR6 : Hid (Rep B w6 b 1 ((s.setH j x (x.holds + 1)).noted 72 ba lv) ∧ Fr (foot b s) w w6 ∧ (∀ k, lv.ownBlock = some k → s.lv.ownBlock = some k ∨ w.heap.size ≤ k)) := ⟨r6, HR5.out.2.trans f6 (fun k hk => Or.inl hk), fun k hk => (a6 k hk).imp_right (fun h => Nat.le_trans HR5.out.2.size h)⟩; clear r6 f6 a6))
 refine leaves_cons (f := 24) (args := #[.pointer (some ⟨b, 0, none⟩)]) (by simp) (by simp [go_sem]) ?_
 refine (unlock_deferred Tryz.muLib ⟨b, 0, none⟩ .returning _ HR6.out.1.cells.1 (HR6.out.1.frozen 0)).mono ?_
 rintro e u' w'' ⟨rfl, rfl, rfl⟩
 exact ⟨_, results_tmp rfl _ _ _, rfl, lv, HR6.out.1.lock 0, HR6.out.2.1.setCell _ (Or.inl (by simp [foot])), HR6.out.2.2⟩
set_option maxRecDepth 100000 in
set_option maxHeartbeats 800000 in
theorem release_ok (B b : Nat) (s : Sto) (g : Int) (j : Nat) (x : Sn) (w : World) (h : Rep B w b 0 s) (hl : s.ss.length ≤ 12) (hf : fi (fun y : Sn => y.guid == g) 0 s.ss = (j : Int)) (hx : s.ss[j]? = some x) (hh : 0 < x.holds ∧ x.holds ≤ 9) (hlg : s.log.length ≤ 140000000000000) :
  Calls Tryz.prog 39 #[.pointer (some ⟨b, 0, none⟩), .int .i64 g] w fun e w' => e = .returned (.int .i64 0) ∧ ∃ lv, Rep B w' b 0 ((s.setH j x (x.holds - 1)).noted 82 (n4 g).ba lv) ∧ Fr (foot b s) w w' ∧ (∀ k, lv.ownBlock = some k → s.lv.ownBlock = some k ∨ w.heap.size ≤ k) := by
 have HU : Hid (∀ W, Calls Tryz.prog 22 #[.int .i64 g] W fun e w' => e = .returned (.string (n4 g).ba) ∧ Fr [] W w') := fun W => number_any g W
 have HNt : Hid (∀ W, Rep B W b 1 (s.setH j x (x.holds - 1)) → _) := fun W hW => note_any B b 1 (s.setH j x (x.holds - 1)) 82 (n4 g).ba W hW (by show 4 ≤ 1000; omega) hlg
 obtain ⟨ba, hba⟩ : ∃ ba, (n4 g).ba = ba := ⟨_, rfl⟩
 rw [hba] at HU HNt ⊢
 clear hba
 obtain ⟨w1, hw1, R1⟩ := h.lk
 have hj : j < s.ss.length := (List.getElem?_eq_some_iff.1 hx).1
 have HL := lock_free Tryz.muLib ⟨b, 0, none⟩ w h.cells.1 (h.frozen 0)
 have F1 := lkF s hw1
 have HF : Hid (w.setCell ⟨b, 0, none⟩ (.int .i32 1) = w1 ∧ Rep B w1 b 1 s ∧ Fr (foot b s) w w1 ∧ s.ss[j]? = some x) := ⟨hw1, R1, F1, hx⟩
 have HS := findSnapshot_any B b 1 s g w1 R1 (by omega)
 rw [hf] at HS
 obtain ⟨ao, cap, hsv⟩ := own_shape h.ss
 have ho := h.ss
 rw [hsv] at ho
 obtain ⟨gg, hgg, hcap, _⟩ := own_addr ho (by omega)
 subst hgg
 have hgl := h.ss.lt gg (by rw [hsv]; rfl)
 have t1 : (x.holds == 0) = false := by simp; omega
 have e1 : IntKind.i64.wrap (x.holds - 1) = x.holds - 1 := wrap_fit ⟨by omega, by omega⟩
 have HV : Hid (s.sv = .slice (some ⟨gg, 0, none⟩) s.ss.length cap) := hsv
 obtain ⟨n, hn⟩ : ∃ n, s.ss.length = n := ⟨_, rfl⟩
 have hjn : (j : Int) < (n : Int) := by omega
 have HN : Hid (s.ss.length = n) := hn
 clear h R1 F1 hw1 hf hx ho hsv hgl
 rw [hn] at hcap hj hl
 clear hn
 go_enter_defers Tryz.func39, Tryz.ntmps39
 go_wp2_with (first
  | (go_at_call 23; refine HL.mono ?_; rintro e w' ⟨rfl, hw'⟩; rw [HF.out.1] at hw'; have hw' := hw'.symm; subst hw')
  | (go_at_call 65; refine HS.mono ?_; rintro e w2 ⟨rfl, hfr⟩
     have HR2 : Hid (Rep B w2 b 1 s ∧ Fr (foot b s) w w2) := ⟨HF.out.2.1.kept0 hfr, HF.out.2.2.1.trans hfr (by simp)⟩
     have c4 : w2.cell? ⟨b, 4, none⟩ = some (.slice (some ⟨gg, 0, none⟩) n cap) := by rw [← HN.out, ← HV.out]; exact HR2.out.1.cells.2.2.2.1
     have d2 : w2.cell? ⟨gg, j * 4 + 2, none⟩ = some (.int .i64 x.holds) := by
      have h1 := HR2.out.1.ss
      rw [HV.out, HN.out] at h1
      obtain ⟨g', e', _, hc⟩ := own_addr h1 (by omega)
      have : g' = gg := by simpa using e'.symm
      subst this
      rw [hc _ (by omega)]
      have h2 := (snC_get s.ss j (by rw [HN.out]; exact hj)).2.2.1
      rw [h2]
      have h3 := HF.out.2.2.2
      rw [List.getElem?_eq_getElem (by rw [HN.out]; exact hj)] at h3
      simp at h3
      rw [h3]
     have z2 : w2.frozen? ⟨gg, j * 4 + 2, none⟩ = false := by
      obtain ⟨_, cur, h1⟩ := own_tag HR2.out.1.ss (k := gg) (by rw [HV.out]; rfl)
      exact froz_of h1 _
     have HR3 : Hid (Rep B (w2.setCell ⟨gg, j * 4 + 2, none⟩ (.int .i64 (x.holds - 1))) b 1 (s.setH j x (x.holds - 1)) ∧ Fr (foot b s) w (w2.setCell ⟨gg, j * 4 + 2, none⟩ (.int .i64 (x.holds - 1)))) := ⟨HR2.out.1.setH HF.out.2.2.2 _ HV.out, HR2.out.2.setCell _ (Or.inl (by simp [foot, HV.out, Value.ownBlock]))⟩
     clear hfr)
  | (go_at_call 22; refine (HU.out _).mono ?_; rintro e w5 ⟨rfl, f5⟩; have HR5 : Hid (Rep B w5 b 1 (s.setH j x (x.holds - 1)) ∧ Fr (foot b s) w w5) := ⟨HR3.out.1.kept0 f5, HR3.out.2.trans f5 (by simp)⟩; clear f5)
  | (go_at_call 21; refine (HNt.out _ HR5.out.1).mono ?_; rintro e w6 ⟨rfl, lv, r6, f6, a6⟩; have HR6 : Hid (Rep B w6 b 1 ((s.setH j x (x.holds - 1)).noted 82 ba lv) ∧ Fr (foot b s) w w6 ∧ (∀ k, lv.ownBlock = some k → s.lv.ownBlock = some k ∨ w.heap.size ≤ k)) := ⟨r6, HR5.out.2.trans f6 (fun k hk => Or.inl hk), fun k hk => (a6 k hk).imp_right (fun h => Nat.le_trans HR5.out.2.size h)⟩; clear r6 f6 a6))
 refine leaves_cons (f := 24) (args := #[.pointer (some ⟨b, 0, none⟩)]) (by simp) (by simp [go_sem]) ?_
 refine (unlock_deferred Tryz.muLib ⟨b, 0, none⟩ .returning _ HR6.out.1.cells.1 (HR6.out.1.frozen 0)).mono ?_
 rintro e u' w'' ⟨rfl, rfl, rfl⟩
 exact ⟨_, results_tmp rfl _ _ _, rfl, lv, HR6.out.1.lock 0, HR6.out.2.1.setCell _ (Or.inl (by simp [foot])), HR6.out.2.2⟩
set_option maxRecDepth 100000 in
set_option maxHeartbeats 800000 in
theorem release_bad (B b : Nat) (s : Sto) (g : Int) (j : Nat) (x : Sn) (w : World) (h : Rep B w b 0 s) (hl : s.ss.length ≤ 12) (hf : fi (fun y : Sn => y.guid == g) 0 s.ss = (j : Int)) (hx : s.ss[j]? = some x) (hh : x.holds = 0) :
  Calls Tryz.prog 39 #[.pointer (some ⟨b, 0, none⟩), .int .i64 g] w fun e w' => e = .returned (.int .i64 1) ∧ Rep B w' b 0 s ∧ Fr (foot b s) w w' := by
 obtain ⟨w1, hw1, R1⟩ := h.lk
 have hj : j < s.ss.length := (List.getElem?_eq_some_iff.1 hx).1
 have HL := lock_free Tryz.muLib ⟨b, 0, none⟩ w h.cells.1 (h.frozen 0)
 have F1 := lkF s hw1
 have HF : Hid (w.setCell ⟨b, 0, none⟩ (.int .i32 1) = w1 ∧ Rep B w1 b 1 s ∧ Fr (foot b s) w w1 ∧ s.ss[j]? = some x) := ⟨hw1, R1, F1, hx⟩
 have HS := findSnapshot_any B b 1 s g w1 R1 (by omega)
 rw [hf] at HS
 obtain ⟨ao, cap, hsv⟩ := own_shape h.ss
 have ho := h.ss
 rw [hsv] at ho
 obtain ⟨gg, hgg, hcap, _⟩ := own_addr ho (by omega)
 subst hgg
 have hgl := h.ss.lt gg (by rw [hsv]; rfl)
 have t1 : (x.holds == 0) = true := by simp [hh]
 have HX : Hid (x.holds = 0) := hh
 have HV : Hid (s.sv = .slice (some ⟨gg, 0, none⟩) s.ss.length cap) := hsv
 obtain ⟨n, hn⟩ : ∃ n, s.ss.length = n := ⟨_, rfl⟩
 have hjn : (j : Int) < (n : Int) := by omega
 have HN : Hid (s.ss.length = n) := hn
 clear h R1 F1 hw1 hf hx ho hsv hgl
 rw [hn] at hcap hj hl
 clear hn
 go_enter_defers Tryz.func39, Tryz.ntmps39
 go_wp2_with (first
  | (go_at_call 23; refine HL.mono ?_; rintro e w' ⟨rfl, hw'⟩; rw [HF.out.1] at hw'; have hw' := hw'.symm; subst hw')
  | (go_at_call 65; refine HS.mono ?_; rintro e w2 ⟨rfl, hfr⟩
     have HR2 : Hid (Rep B w2 b 1 s ∧ Fr (foot b s) w w2) := ⟨HF.out.2.1.kept0 hfr, HF.out.2.2.1.trans hfr (by simp)⟩
     have c4 : w2.cell? ⟨b, 4, none⟩ = some (.slice (some ⟨gg, 0, none⟩) n cap) := by rw [← HN.out, ← HV.out]; exact HR2.out.1.cells.2.2.2.1
     have d2 : w2.cell? ⟨gg, j * 4 + 2, none⟩ = some (.int .i64 x.holds) := by
      have h1 := HR2.out.1.ss
      rw [HV.out, HN.out] at h1
      obtain ⟨g', e', _, hc⟩ := own_addr h1 (by omega)
      have : g' = gg := by simpa using e'.symm
      subst this
      rw [hc _ (by omega)]
      have h2 := (snC_get s.ss j (by rw [HN.out]; exact hj)).2.2.1
      rw [h2]
      have h3 := HF.out.2.2.2
      rw [List.getElem?_eq_getElem (by rw [HN.out]; exact hj)] at h3
      simp at h3
      rw [h3]
     clear hfr))
 refine leaves_cons (f := 24) (args := #[.pointer (some ⟨b, 0, none⟩)]) (by simp) (by simp [go_sem]) ?_
 refine (unlock_deferred Tryz.muLib ⟨b, 0, none⟩ .returning _ HR2.out.1.cells.1 (HR2.out.1.frozen 0)).mono ?_
 rintro e u' w'' ⟨rfl, rfl, rfl⟩
 exact ⟨_, results_tmp rfl _ _ _, rfl, HR2.out.1.lock 0, HR2.out.2.setCell _ (Or.inl (by simp [foot]))⟩
def i1C (l : List Int) : List Value := l.map (Value.int .i64)
theorem i1C_len (l : List Int) : (i1C l).length = l.length := by simp [i1C]
def toldM (l : List (Int × Int)) (k : Nat) : List Int := (l.take k).map Prod.fst ++ List.replicate (l.length - k) 0
theorem toldM_len (l : List (Int × Int)) (k : Nat) (h : k ≤ l.length) : (toldM l k).length = l.length := by simp [toldM]; omega
theorem toldM_set (l : List (Int × Int)) (k : Nat) (h : k < l.length) : (toldM l k).set k l[k].1 = toldM l (k + 1) := by
 unfold toldM
 rw [List.set_append_right _ _ (by simp; omega), List.length_map, List.length_take, Nat.min_eq_left (Nat.le_of_lt h), Nat.sub_self, show l.length - k = (l.length - (k + 1)) + 1 by omega, List.replicate_succ, List.set_cons_zero, List.take_succ_eq_append_getElem h, List.map_append, List.append_assoc]
 rfl
theorem toldM_end (l : List (Int × Int)) : toldM l l.length = l.map Prod.fst := by simp [toldM]
theorem made_toldM (l : List (Int × Int)) : (madeCells (Value.int .i64 0).cells (l.length * 1)).toList = i1C (toldM l 0) := by
 apply List.ext_getElem
 · simp [madeCells, i1C, toldM]
 · intro i h1 h2
   simp [madeCells, i1C, toldM, Value.cells, Nat.mod_one]
theorem i1C_set (l : List Int) (k : Nat) (z : Int) : (i1C l).set k (.int .i64 z) = i1C (l.set k z) := by simp [i1C, List.map_set]
theorem info3 : (Tryz.prog.info? 3).map (fun i => (i.zero, i.size, i.bytes)) = some (some (.int .i64 0), 1, 8) := by kernel_rfl
set_option maxRecDepth 100000 in
set_option maxHeartbeats 1600000 in
theorem marks_any (B b : Nat) (s : Sto) (w : World) (h : Rep B w b 0 s) (hl : s.ms.length ≤ 12) :
  Calls Tryz.prog 46 #[.pointer (some ⟨b, 0, none⟩)] w fun e w' => ∃ gg, e = .returned (.slice (some ⟨gg, 0, none⟩) s.ms.length s.ms.length) ∧ w.heap.size ≤ gg ∧ w'.heap[gg]? = some (.cells (i1C (s.ms.map Prod.fst)).toArray 3 (0, 0)) ∧ Rep B w' b 0 s ∧ Fr (foot b s) w w' := by
 obtain ⟨i0, hi, hz0, hz1, hz2⟩ := info_parts info3
 obtain ⟨w1, hw1, R1⟩ := h.lk
 have HL := lock_free Tryz.muLib ⟨b, 0, none⟩ w h.cells.1 (h.frozen 0)
 have F1 := lkF s hw1
 have hz : w1.heap.size = w.heap.size := by rw [← hw1]; simp
 have HF : Hid (w.setCell ⟨b, 0, none⟩ (.int .i32 1) = w1 ∧ Rep B w1 b 1 s ∧ Fr (foot b s) w w1 ∧ w1.heap.size = w.heap.size) := ⟨hw1, R1, F1, hz⟩
 obtain ⟨ao, cap, hsv⟩ := own_shape h.ms
 have c4 : w1.cell? ⟨b, 6, none⟩ = some (.slice ao s.ms.length cap) := by rw [← hsv]; exact R1.cells.2.2.2.2.2.1
 have lb := World.block_lt_of_cell? _ _ c4
 obtain ⟨n, hn⟩ : ∃ n, s.ms.length = n := ⟨_, rfl⟩
 have HN : Hid (s.ms.length = n ∧ s.mv = .slice ao n cap) := ⟨hn, by rw [hsv, hn]⟩
 rw [hn] at c4 hl ⊢
 clear h R1 F1 hw1 hz hn hsv
 go_enter_defers Tryz.func46, Tryz.ntmps46
 go_wp2_with (first
  | (go_at_call 23; refine HL.mono ?_; rintro e w' ⟨rfl, hw'⟩; rw [HF.out.1] at hw'; have hw' := hw'.symm; subst hw')
  | (at_make; refine wpList_make_full _ rfl _ _ 39 rfl w1.heap.size 3 i0 _ 1 Tryz.underlying39 hi hz0 hz1 _ _ _ _ n rfl rfl rfl rfl (by rw [hz2]; omega) (by unfold maxLen; omega) (by simp) ?_; intro w2 hown2 hgrow2; have c4' : w2.cell? ⟨b, 6, none⟩ = some (.slice ao n cap) := (hgrow2.cell_far ⟨b, 6, none⟩ lb (by simp)).trans c4))
 have hz' := HF.out.2.2.2
 have hd : w2.heap[w1.heap.size]? = some (.cells (i1C (toldM s.ms 0)).toArray 3 (0, 0)) := by
  have := own_full hown2
  rw [← HN.out.1, made_toldM s.ms] at this
  exact this
 have HW : Hid (Rep B w2 b 1 s ∧ Fr (foot b s) w w2 ∧ w2.heap[w1.heap.size]? = some (.cells (i1C (toldM s.ms 0)).toArray 3 (0, 0))) := ⟨HF.out.2.1.kept0 ((Fr.refl _ _).grown hgrow2 (fun k h => by cases h)), HF.out.2.2.1.grown hgrow2 (fun k h => by cases h), hd⟩
 obtain ⟨gg, hgg⟩ : ∃ gg, w1.heap.size = gg := ⟨_, rfl⟩
 have hg0 : w.heap.size ≤ gg := by omega
 rw [hgg] at HW ⊢
 clear hown2 hgrow2 hd hz' c4 hgg
 go_loopw [24] (fun i wr => ∃ k : Nat, k ≤ n ∧ i = .int .i64 k ∧ Hid (Rep B wr b 1 s ∧ Fr (foot b s) w wr ∧ wr.heap[gg]? = some (.cells (i1C (toldM s.ms k)).toArray 3 (0, 0)))) (fun i _ => n - (intOf i).toNat)
 case atStart => exact ⟨0, Nat.zero_le _, rfl, HW⟩
 case round =>
  obtain ⟨k, hk, rfl, HK⟩ := hrel
  obtain ⟨W3, hW3⟩ : ∃ W3, W3 = wr := ⟨_, rfl⟩
  subst hW3
  clear HW c4'
  by_cases hlt : k < n
  · have hlt' : k < s.ms.length := by rw [HN.out.1]; exact hlt
    have ho := HK.out.1.ms
    rw [HN.out.2, HN.out.1] at ho
    obtain ⟨sg, hao, hcap, hc⟩ := own_addr ho (by omega)
    have hs := mkC_get s.ms k hlt'
    obtain ⟨x, hx⟩ : ∃ x, s.ms[k] = x := ⟨_, rfl⟩
    rw [hx] at hs
    subst hao
    have d0 : W3.cell? ⟨sg, k * 2, none⟩ = some (.int .i64 x.1) := by rw [hc _ (by omega)]; exact hs.1
    have d1 : W3.cell? ⟨sg, k * 2 + 1, none⟩ = some (.int .i64 x.2) := by rw [hc _ (by omega)]; exact hs.2
    have hgl : gg < W3.heap.size := (Array.getElem?_eq_some_iff.1 HK.out.2.2).1
    have hll : (i1C (toldM s.ms k)).length = n := by rw [i1C_len, toldM_len _ _ (by omega), HN.out.1]
    have g0 : ∃ v, W3.cell? ⟨gg, k, none⟩ = some v := by rw [cell_of HK.out.2.2, List.getElem?_toArray]; exact ⟨_, List.getElem?_eq_getElem (by omega)⟩
    obtain ⟨y0, g0⟩ := g0
    have z0 : W3.frozen? ⟨gg, k, none⟩ = false := froz_of HK.out.2.2 _
    have hltz : (k : Int) < (n : Int) := by omega
    have HK8 : Hid (Rep B ((W3.setCell ⟨gg, k, none⟩ (.int .i64 x.1)).alloc (.cells #[.int .i64 x.1, .int .i64 x.2] 125)) b 1 s ∧ Fr (foot b s) w ((W3.setCell ⟨gg, k, none⟩ (.int .i64 x.1)).alloc (.cells #[.int .i64 x.1, .int .i64 x.2] 125)) ∧ ((W3.setCell ⟨gg, k, none⟩ (.int .i64 x.1)).alloc (.cells #[.int .i64 x.1, .int .i64 x.2] 125)).heap[gg]? = some (.cells (i1C (toldM s.ms (k + 1))).toArray 3 (0, 0))) := by
     refine ⟨?_, ?_, ?_⟩
     · refine Rep.kept0 (w := W3.setCell ⟨gg, k, none⟩ (.int .i64 x.1)) (HK.out.1.of_foot (fun j hj => ?_)) ((Fr.refl _ _).alloc _)
       have hjg : j ≠ gg := by
        have := (HF.out.2.1.lt j hj).2
        rw [HF.out.2.2.2] at this
        omega
       rw [heap_setCell_other _ _ _ _ hjg]
     · exact (HK.out.2.1.setCell _ (Or.inr hg0)).alloc _
     · rw [Below.heap_alloc _ _ _ (by simpa using hgl)]
       rw [heap_setCell_same _ gg k _ _ _ HK.out.2.2]
       rw [← toldM_set s.ms k hlt', hx, ← i1C_set]
       simp
    clear hc hs ho HK hx hll
    go_wp2
    go_roundw
    case rel => exact ⟨k + 1, by omega, by go_num, HK8⟩
    case measure => simp [intOf]; omega
  · have hkk : k = n := by omega
    subst hkk
    have HK9 : Hid (Rep B W3 b 1 s ∧ Fr (foot b s) w W3 ∧ W3.heap[gg]? = some (.cells (i1C (s.ms.map Prod.fst)).toArray 3 (0, 0))) := by
     have := HK.out
     rw [← toldM_end, HN.out.1]
     exact this
    clear HK
    go_wp2
    refine leaves_cons (f := 24) (args := #[.pointer (some ⟨b, 0, none⟩)]) (by simp) (by simp [go_sem]) ?_
    refine (unlock_deferred Tryz.muLib ⟨b, 0, none⟩ .returning _ HK9.out.1.cells.1 (HK9.out.1.frozen 0)).mono ?_
    rintro e u' w'' ⟨rfl, rfl, rfl⟩
    refine ⟨_, results_tmp rfl _ _ _, gg, rfl, hg0, ?_, HK9.out.1.lock 0, HK9.out.2.1.setCell _ (Or.inl (by simp [foot]))⟩
    rw [heap_setCell_other _ _ _ _ (fun e => ?_)]
    · exact HK9.out.2.2
    · have := (HF.out.2.1.lt b (by simp [foot])).2
      rw [HF.out.2.2.2] at this
      simp at e
      omega
theorem info107 : (Tryz.prog.info? 125).map (fun i => (i.zero, i.size, i.bytes)) = some (some (.agg #[.int .i64 0, .int .i64 0]), 2, 16) := by kernel_rfl
def Sto.mark1 (s : Sto) (g c : Int) (mv : Value) : Sto := { s with ms := [(g, c)], mv := mv }
end Go.Proofs.YthdhegmlknpllaaGreat
