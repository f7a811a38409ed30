import Derived.Test.YthdhegmlknpllaaGreatM18
import Derived.Deep.QuietTactic
import Derived.BigQuiet
namespace Go.Proofs.YthdhegmlknpllaaGreat
open Go.RowKit Go.Maps Go.MuLone
theorem Fr.drewQ {F : List Nat} {w w1 : World} (h : Fr F w w1) (n : Nat) : Fr F w (w1.drewN n) := ⟨h.os, h.tape, h.output, h.size, h.block⟩
theorem rmark_fin {B b n k : Nat} {w w4 w7 : World} {s : RSto} {g cm : Int} {mv : Value} (h : RRep B w b s) (f4 : Fr [] w w4) (f7 : Fr [] w4 w7) (hn : s.ms.length = n) (ha : ahead cm s.ms = k) (ho : w7.ownsRow w4.heap.size 129 2 mv (n + 1) (mkC (s.ms.take k) ++ [.int .i64 g, .int .i64 cm] ++ mkC (s.ms.drop k))) :
  ∃ mv', RRep B (w7.setCell ⟨b, 37, none⟩ mv) b (s.setM (insM (g, cm) s.ms) mv') ∧ Fr (rfoot b s) w (w7.setCell ⟨b, 37, none⟩ mv) ∧ (∀ k, mv'.ownBlock = some k → w.heap.size ≤ k) := by
 have f := f4.trans f7 (by simp)
 have hBw : B ≤ w.heap.size := by have := h.hb; have := (h.lt b (by simp [rfoot])).2; omega
 have e : mkC (s.ms.take k) ++ [.int .i64 g, .int .i64 cm] ++ mkC (s.ms.drop k) = mkC (insM (g, cm) s.ms) := by rw [mkC_insM, ← ha]; rfl
 rw [e] at ho
 refine ⟨mv, (h.kept0 f).setM ?_, (f.mono (by simp)).setCell _ (Or.inl (by simp [rfoot])), fun k hk => Nat.le_trans f4.size (own_tag ho hk).1⟩
 rw [insM_length, hn]
 exact ⟨ho.1, ho.2.imp id fun ⟨g, cap, cur, e, hb, r⟩ => ⟨g, cap, cur, e, Nat.le_trans (Nat.le_trans hBw f4.size) hb, r⟩⟩
set_option maxRecDepth 100000 in
set_option maxHeartbeats 1600000 in
theorem rmark_mid (B b : Nat) (s : RSto) (g : Int) (j : Nat) (x : RSh) (w : World) (h : RRep B w b s) (hl : s.ms.length < 12) (hs : s.sh.length ≤ 12) (hf : fi (fun y : Int × Int => y.1 == g) 0 s.ms = -1) (hg : fi (fun y : RSh => y.guid == g) 0 s.sh = (j : Int)) (hx : s.sh[j]? = some x) (ha : ahead x.came s.ms < s.ms.length) :
  Calls Tryz.prog 43 #[.pointer (some ⟨b, 0, none⟩), .int .i64 g] w fun e w' => e = .returned (.int .i64 0) ∧ ∃ mv, RRep B w' b (s.setM (insM (g, x.came) s.ms) mv) ∧ Fr (rfoot b s) w w' ∧ (∀ k, mv.ownBlock = some k → w.heap.size ≤ k) := by
 obtain ⟨i0, i0h, hz0, hz1, hz2⟩ := info_parts info120
 have hj : j < s.sh.length := (List.getElem?_eq_some_iff.1 hx).1
 have HM := rmark_any B b s g w h (by omega)
 have HS := rshot_any B b s g w h (by omega)
 rw [hf] at HM
 rw [hg] at HS
 obtain ⟨ao, cap, hsv⟩ := own_shape h.sh
 have ho := h.sh
 rw [hsv] at ho
 obtain ⟨sg, hsg, hcap, hcc⟩ := own_addr ho (by omega)
 subst hsg
 have c36 : w.cell? ⟨b, 36, none⟩ = some (.slice (some ⟨sg, 0, none⟩) s.sh.length cap) := by rw [← hsv]; exact h.cells.2.2.2.2.1
 obtain ⟨cm, hcm⟩ : ∃ cm, x.came = cm := ⟨_, rfl⟩
 have d3 : w.cell? ⟨sg, j * 36 + 3, none⟩ = some (.int .i64 cm) := by
  rw [h.shotC hsv j hj 3 (by omega)]
  rw [List.getElem?_eq_getElem hj] at hx
  have : s.sh[j] = x := by simpa using hx
  rw [this, ← hcm]
  rfl
 rw [hcm] at ha ⊢
 obtain ⟨mo, mcap, hmv⟩ := own_shape h.ms
 have c37 : w.cell? ⟨b, 37, none⟩ = some (.slice mo s.ms.length mcap) := by rw [← hmv]; exact h.cells.2.2.2.2.2
 obtain ⟨n, hn⟩ : ∃ n, s.ms.length = n := ⟨_, rfl⟩
 have HO : Hid (RRep B w b s ∧ s.mv = .slice mo n mcap ∧ s.ms.length = n ∧ ahead cm s.ms < n ∧ Tryz.prog.info? 129 = some i0) := ⟨h, by rw [hmv, hn], hn, by rw [← hn]; exact ha, i0h⟩
 obtain ⟨m, hm⟩ : ∃ m, s.sh.length = m := ⟨_, rfl⟩
 rw [hn] at c37 hl
 rw [hm] at c36 hcap hj hs
 have j0 : ¬ ((j : Int) < 0) := by omega
 have hjm : (j : Int) < (m : Int) := by omega
 have n12 : ¬ ((12 : Int) ≤ (n : Int)) := by omega
 obtain ⟨w1, hw1⟩ : ∃ w1, w.alloc (.cells #[.int .i64 g, .int .i64 cm] 129) = w1 := ⟨_, rfl⟩
 obtain ⟨mb, hmb⟩ : ∃ mb, w.heap.size = mb := ⟨_, rfl⟩
 have HW : Hid (Fr [] w w1 ∧ w1.heap[mb]? = some (.cells #[.int .i64 g, .int .i64 cm] 129 (0, 0)) ∧ 0 ≤ ahead cm s.ms) := ⟨by rw [← hw1]; exact (Fr.refl _ _).alloc _, by rw [← hw1, ← hmb]; exact heap_alloc_new w _, Nat.zero_le _⟩
 have HMB : Hid (w.heap.size = mb) := hmb
 clear h hf hg hx ho hsv hcc hmv hn hm hcm i0h ha
 go_enter Tryz.func43, Tryz.ntmps43
 go_wp2_with (first
  | (go_at_call 66; refine HS.mono ?_; rintro e w' ⟨rfl, hw'⟩; have hw' := hw'.symm; subst hw')
  | (go_at_call 72; refine HM.mono ?_; rintro e w' ⟨rfl, hw'⟩; have hw' := hw'.symm; subst hw'))
 clear hw1 hmb HS HM c36 d3 c37
 go_loopw [8] (fun i wr => ∃ k : Nat, k ≤ n ∧ i = .int .i64 k ∧ Hid (Fr [] w wr ∧ wr.heap[mb]? = some (.cells #[.int .i64 g, .int .i64 cm] 129 (0, 0)) ∧ k ≤ ahead cm s.ms)) (fun i _ => n - (intOf i).toNat)
 case atStart => exact ⟨0, Nat.zero_le _, rfl, HW⟩
 case round =>
  obtain ⟨k, hk, rfl, HK⟩ := hrel
  obtain ⟨W3, hW3⟩ : ∃ W3, W3 = wr := ⟨_, rfl⟩
  subst hW3
  clear HW
  have R3 := HO.out.1.kept0 HK.out.1
  have e37 : ∀ q, (W3.drewN q).cell? ⟨b, 37, none⟩ = some (.slice mo n mcap) := fun q => by have := R3.cells.2.2.2.2.2; rw [HO.out.2.1] at this; exact this
  have em : ∀ q, (W3.drewN q).cell? ⟨mb, 1, none⟩ = some (.int .i64 cm) := fun q => by
   show W3.cell? ⟨mb, 1, none⟩ = _
   rw [cell_of HK.out.2.1]; rfl
  by_cases hlt : k < n
  · have hlt' : k < s.ms.length := by rw [HO.out.2.2.1]; exact hlt
    have ho := R3.ms
    rw [HO.out.2.1, HO.out.2.2.1] at ho
    obtain ⟨gg, hgg, hgc, hcc⟩ := own_addr ho (by omega)
    subst hgg
    obtain ⟨y, hy⟩ : ∃ y, s.ms[k].2 = y := ⟨_, rfl⟩
    have ed : ∀ q, (W3.drewN q).cell? ⟨gg, k * 2 + 1, none⟩ = some (.int .i64 y) := fun q => by
     show W3.cell? ⟨gg, k * 2 + 1, none⟩ = _
     rw [hcc _ (by omega), (mkC_get s.ms k hlt').2, hy]
    have g1 : (k : Int) < (n : Int) := by omega
    have g0 : decide ((k : Int) < (n : Int)) = true := by simpa using g1
    have HCC : Hid (∀ t, t < n * 2 → W3.cell? ⟨gg, t, none⟩ = (mkC s.ms)[t]?) := hcc
    clear ho hcc R3
    by_cases hc : y < cm
    · have hdec : decide (y < cm) = true := by simpa using hc
      have HK8 : Hid (∀ q, Fr [] w (W3.drewN q) ∧ (W3.drewN q).heap[mb]? = some (.cells #[.int .i64 g, .int .i64 cm] 129 (0, 0)) ∧ k + 1 ≤ ahead cm s.ms) := fun q => ⟨HK.out.1.drewQ q, HK.out.2.1, ahead_step cm s.ms k hlt' HK.out.2.2 (by rw [hy]; exact hc)⟩
      clear HK hy
      go_wp2
      go_quiet (fail)
      go_wp2
      go_roundw
      case rel => exact ⟨k + 1, by omega, by go_num, HK8.out _⟩
      case measure => simp [intOf]; omega
    · have hdec : decide (y < cm) = false := by simpa using hc
      have HA : Hid (ahead cm s.ms = k) := ahead_stop cm s.ms k hlt' HK.out.2.2 (by rw [hy]; exact hc)
      clear hy
      go_wp2
      go_quiet (fail)
      have em0 : W3.cell? ⟨mb, 0, none⟩ = some (.int .i64 g) := by rw [cell_of HK.out.2.1]; rfl
      have H4 : Hid (Fr [] w (W3.drewN nq) ∧ (∀ t, t < n * 2 → (W3.drewN nq).cell? ⟨gg, t, none⟩ = (mkC s.ms)[t]?)) := ⟨HK.out.1.drewQ nq, HCC.out⟩
      have f37 := e37 nq
      have fm0 : (W3.drewN nq).cell? ⟨mb, 0, none⟩ = some (.int .i64 g) := em0
      have fm1 := em nq
      generalize W3.drewN nq = W4 at H4 f37 fm0 fm1 ⊢
      have i1 : (k : Int) ≤ (n : Int) := by omega
      have i2 : (k : Int) ≤ (mcap : Int) := by omega
      have i5 : (n : Int) ≤ (mcap : Int) := by omega
      have i6 : ¬ mcap = k := by omega
      have i7 : 0 ≤ (k : Int) := Int.natCast_nonneg _
      have hi := HO.out.2.2.2.2
      clear e37 em ed HK HCC em0
      go_wp2_with (first
       | (at_builtin; refine wpList_append_own _ rfl _ _ 84 rfl W4.heap.size 129 i0 _ 2 16 Tryz.underlying84 hi hz0 hz1 hz2 rfl (by omega) (.slice none 0 0) 0 [] rfl (World.ownsRow_nil _ _ _ _) ⟨gg, 0, none⟩ k mcap (mkC (s.ms.take k)) rfl (by rw [mkC_len, List.length_take, HO.out.2.2.1, Nat.min_eq_left (by omega)]) (fun t u hu => by
            rw [Addr.add_lit, Nat.zero_add, ← mkC_take] at *
            have ht : t < k * 2 := by
             have := (List.getElem?_eq_some_iff.1 hu).1
             rw [List.length_take] at this
             omega
            rw [List.getElem?_take_of_lt ht] at hu
            rw [H4.out.2 t (by omega)]
            exact hu) mk_one (by unfold maxLen; omega) (by omega) (Nat.le_refl _) ?_; intro v5 w5 hown5 hgrow5 _
          rw [Nat.zero_add, List.nil_append] at hown5
          have H5 : Hid (w5.ownsRow W4.heap.size 129 2 v5 k (mkC (s.ms.take k)) ∧ Fr [] W4 w5) := ⟨hown5, (Fr.refl _ _).grown hgrow5 (fun x hx => by simp [Value.ownBlock] at hx)⟩
          have f37' : w5.cell? ⟨b, 37, none⟩ = some (.slice (some ⟨gg, 0, none⟩) n mcap) := H5.out.2.gb.cell f37 (by simp)
          have fm0' : w5.cell? ⟨mb, 0, none⟩ = some (.int .i64 g) := H5.out.2.gb.cell fm0 (by simp)
          have fm1' : w5.cell? ⟨mb, 1, none⟩ = some (.int .i64 cm) := H5.out.2.gb.cell fm1 (by simp)
          obtain ⟨ao5, c5, e5⟩ := own_shape H5.out.1
          subst e5
          clear hown5 hgrow5)
       | (at_builtin; refine wpList_append_own _ rfl _ _ 84 rfl W4.heap.size 129 i0 _ 2 16 Tryz.underlying84 hi hz0 hz1 hz2 rfl (by omega) (.slice ao5 k c5) k _ rfl (H5.out.1.alloc _) ⟨w5.heap.size, 0, none⟩ 1 1 [.int .i64 g, .int .i64 cm] rfl rfl (World.news_of_block (cs := #[.int .i64 g, .int .i64 cm]) (t := 129) (fr := (0, 0)) (heap_alloc_new w5 _)) (by simp [Value.oneCell']) (by unfold maxLen; omega) (by omega) (by have := H5.out.2.size; simp; omega) ?_; intro v6 w6 hown6 hgrow6 _
          have H6 : Hid (w6.ownsRow W4.heap.size 129 2 v6 (k + 1) (mkC (s.ms.take k) ++ [.int .i64 g, .int .i64 cm]) ∧ Fr [] W4 w6) := ⟨hown6, (H5.out.2.alloc _).grown hgrow6 (fun k hk => Or.inr (own_tag H5.out.1 hk).1)⟩
          have f37'' : w6.cell? ⟨b, 37, none⟩ = some (.slice (some ⟨gg, 0, none⟩) n mcap) := H6.out.2.gb.cell f37 (by simp)
          obtain ⟨ao6, c6, e6⟩ := own_shape H6.out.1
          subst e6
          clear hown6 hgrow6)
       | (at_builtin; refine wpList_append_own _ rfl _ _ 84 rfl W4.heap.size 129 i0 _ 2 16 Tryz.underlying84 hi hz0 hz1 hz2 rfl (by omega) (.slice ao6 (k + 1) c6) (k + 1) _ rfl H6.out.1 ⟨gg, k * 2, none⟩ (n - k) (mcap - k) (mkC (s.ms.drop k)) rfl (by rw [mkC_len, List.length_drop, HO.out.2.2.1]) (fun t u hu => by
            rw [Addr.add_lit]
            have ht : t < (n - k) * 2 := by
             have := (List.getElem?_eq_some_iff.1 hu).1
             rw [mkC_len, List.length_drop, HO.out.2.2.1] at this
             exact this
            rw [← mkC_drop, List.getElem?_drop, ← H4.out.2 _ (by omega)] at hu
            exact H6.out.2.gb.cell hu (by simp)) mk_one (by unfold maxLen; omega) (by omega) H6.out.2.size ?_; intro v7 w7 hown7 hgrow7 _
          rw [show k + 1 + (n - k) = n + 1 by omega] at hown7
          have H7 : Hid (w7.ownsRow W4.heap.size 129 2 v7 (n + 1) (mkC (s.ms.take k) ++ [.int .i64 g, .int .i64 cm] ++ mkC (s.ms.drop k)) ∧ Fr [] W4 w7) := ⟨hown7, H6.out.2.grown hgrow7 (fun k hk => Or.inr (own_tag H6.out.1 hk).1)⟩
          have f37c : w7.cell? ⟨b, 37, none⟩ = some (.slice (some ⟨gg, 0, none⟩) n mcap) := H7.out.2.gb.cell f37 (by simp)
          have fz : w7.frozen? ⟨b, 37, none⟩ = false := (HO.out.1.kept0 (H4.out.1.trans H7.out.2 (by simp))).frozen 37
          obtain ⟨ao7, c7, e7⟩ := own_shape H7.out.1
          subst e7
          clear hown7 hgrow7))
      go_ret
      exact ⟨rfl, rmark_fin HO.out.1 H4.out.1 H7.out.2 HO.out.2.2.1 HA.out H7.out.1⟩
  · have hkk : k = n := by omega
    exact absurd HK.out.2.2 (by have := HO.out.2.2.2.1; omega)
theorem own_addr0 {w : World} {base : Nat} {e : TypeId} {size : Nat} {a : Option Addr} {c : Nat} {n : Nat} {xs : List Value} (h : w.ownsRow base e size (.slice a n c) n xs) : (a = none ∧ n = 0 ∧ c = 0) ∨ ∃ g, a = some ⟨g, 0, none⟩ ∧ n ≤ c ∧ ∀ j, j < n * size → w.cell? ⟨g, j, none⟩ = xs[j]? := by
 rcases h.2 with ⟨h1, h2⟩ | ⟨g, c, cur, h1, hb, hg, hc, hm, hs, ht⟩
 · simp at h1
   exact Or.inl ⟨h1.1, h2, h1.2.2⟩
 · simp at h1
   obtain ⟨rfl, rfl⟩ := h1
   refine Or.inr ⟨g, rfl, hc, fun j hj => ?_⟩
   rw [cell_of hg, ← ht, List.getElem?_take_of_lt hj, ← Array.getElem?_toList]
set_option maxRecDepth 100000 in
set_option maxHeartbeats 1600000 in
theorem rmark_last (B b : Nat) (s : RSto) (g : Int) (j : Nat) (x : RSh) (w : World) (h : RRep B w b s) (hl : s.ms.length < 12) (hs : s.sh.length ≤ 12) (hf : fi (fun y : Int × Int => y.1 == g) 0 s.ms = -1) (hg : fi (fun y : RSh => y.guid == g) 0 s.sh = (j : Int)) (hx : s.sh[j]? = some x) (ha : ahead x.came s.ms = s.ms.length) (hne : s.mv ≠ .slice none 0 0) :
  Calls Tryz.prog 43 #[.pointer (some ⟨b, 0, none⟩), .int .i64 g] w fun e w' => e = .returned (.int .i64 0) ∧ ∃ mv, RRep B w' b (s.setM (insM (g, x.came) s.ms) mv) ∧ Fr (rfoot b s) w w' ∧ (∀ k, mv.ownBlock = some k → w.heap.size ≤ k) := by
 obtain ⟨i0, i0h, hz0, hz1, hz2⟩ := info_parts info120
 have hj : j < s.sh.length := (List.getElem?_eq_some_iff.1 hx).1
 have HM := rmark_any B b s g w h (by omega)
 have HS := rshot_any B b s g w h (by omega)
 rw [hf] at HM
 rw [hg] at HS
 obtain ⟨ao, cap, hsv⟩ := own_shape h.sh
 have ho := h.sh
 rw [hsv] at ho
 obtain ⟨sg, hsg, hcap, hcc⟩ := own_addr ho (by omega)
 subst hsg
 have c36 : w.cell? ⟨b, 36, none⟩ = some (.slice (some ⟨sg, 0, none⟩) s.sh.length cap) := by rw [← hsv]; exact h.cells.2.2.2.2.1
 obtain ⟨cm, hcm⟩ : ∃ cm, x.came = cm := ⟨_, rfl⟩
 have d3 : w.cell? ⟨sg, j * 36 + 3, none⟩ = some (.int .i64 cm) := by
  rw [h.shotC hsv j hj 3 (by omega)]
  rw [List.getElem?_eq_getElem hj] at hx
  have : s.sh[j] = x := by simpa using hx
  rw [this, ← hcm]
  rfl
 rw [hcm] at ha ⊢
 obtain ⟨mo, mcap, hmv⟩ := own_shape h.ms
 have c37 : w.cell? ⟨b, 37, none⟩ = some (.slice mo s.ms.length mcap) := by rw [← hmv]; exact h.cells.2.2.2.2.2
 obtain ⟨n, hn⟩ : ∃ n, s.ms.length = n := ⟨_, rfl⟩
 have HO : Hid (RRep B w b s ∧ s.mv = .slice mo n mcap ∧ s.ms.length = n ∧ ahead cm s.ms = n ∧ Tryz.prog.info? 129 = some i0) := ⟨h, by rw [hmv, hn], hn, by rw [← hn]; exact ha, i0h⟩
 obtain ⟨m, hm⟩ : ∃ m, s.sh.length = m := ⟨_, rfl⟩
 rw [hn] at c37 hl
 rw [hm] at c36 hcap hj hs
 have j0 : ¬ ((j : Int) < 0) := by omega
 have hjm : (j : Int) < (m : Int) := by omega
 have n12 : ¬ ((12 : Int) ≤ (n : Int)) := by omega
 obtain ⟨w1, hw1⟩ : ∃ w1, w.alloc (.cells #[.int .i64 g, .int .i64 cm] 129) = w1 := ⟨_, rfl⟩
 obtain ⟨mb, hmb⟩ : ∃ mb, w.heap.size = mb := ⟨_, rfl⟩
 have HW : Hid (Fr [] w w1 ∧ w1.heap[mb]? = some (.cells #[.int .i64 g, .int .i64 cm] 129 (0, 0)) ∧ 0 ≤ ahead cm s.ms) := ⟨by rw [← hw1]; exact (Fr.refl _ _).alloc _, by rw [← hw1, ← hmb]; exact heap_alloc_new w _, Nat.zero_le _⟩
 have HMB : Hid (w.heap.size = mb) := hmb
 have HNE : Hid (s.mv ≠ .slice none 0 0) := hne
 clear h hf hg hx ho hsv hcc hmv hn hm hcm i0h ha hne
 go_enter Tryz.func43, Tryz.ntmps43
 go_wp2_with (first
  | (go_at_call 66; refine HS.mono ?_; rintro e w' ⟨rfl, hw'⟩; have hw' := hw'.symm; subst hw')
  | (go_at_call 72; refine HM.mono ?_; rintro e w' ⟨rfl, hw'⟩; have hw' := hw'.symm; subst hw'))
 clear hw1 hmb HS HM c36 d3 c37
 go_loopw [8] (fun i wr => ∃ k : Nat, k ≤ n ∧ i = .int .i64 k ∧ Hid (Fr [] w wr ∧ wr.heap[mb]? = some (.cells #[.int .i64 g, .int .i64 cm] 129 (0, 0)) ∧ k ≤ ahead cm s.ms)) (fun i _ => n - (intOf i).toNat)
 case atStart => exact ⟨0, Nat.zero_le _, rfl, HW⟩
 case round =>
  obtain ⟨k, hk, rfl, HK⟩ := hrel
  obtain ⟨W3, hW3⟩ : ∃ W3, W3 = wr := ⟨_, rfl⟩
  subst hW3
  clear HW
  have R3 := HO.out.1.kept0 HK.out.1
  have e37 : ∀ q, (W3.drewN q).cell? ⟨b, 37, none⟩ = some (.slice mo n mcap) := fun q => by have := R3.cells.2.2.2.2.2; rw [HO.out.2.1] at this; exact this
  have em : ∀ q, (W3.drewN q).cell? ⟨mb, 1, none⟩ = some (.int .i64 cm) := fun q => by
   show W3.cell? ⟨mb, 1, none⟩ = _
   rw [cell_of HK.out.2.1]; rfl
  by_cases hlt : k < n
  · have hlt' : k < s.ms.length := by rw [HO.out.2.2.1]; exact hlt
    have ho := R3.ms
    rw [HO.out.2.1, HO.out.2.2.1] at ho
    obtain ⟨gg, hgg, hgc, hcc⟩ := own_addr ho (by omega)
    subst hgg
    obtain ⟨y, hy⟩ : ∃ y, s.ms[k].2 = y := ⟨_, rfl⟩
    have ed : ∀ q, (W3.drewN q).cell? ⟨gg, k * 2 + 1, none⟩ = some (.int .i64 y) := fun q => by
     show W3.cell? ⟨gg, k * 2 + 1, none⟩ = _
     rw [hcc _ (by omega), (mkC_get s.ms k hlt').2, hy]
    have g1 : (k : Int) < (n : Int) := by omega
    have g0 : decide ((k : Int) < (n : Int)) = true := by simpa using g1
    clear ho hcc R3
    by_cases hc : y < cm
    · have hdec : decide (y < cm) = true := by simpa using hc
      have HK8 : Hid (∀ q, Fr [] w (W3.drewN q) ∧ (W3.drewN q).heap[mb]? = some (.cells #[.int .i64 g, .int .i64 cm] 129 (0, 0)) ∧ k + 1 ≤ ahead cm s.ms) := fun q => ⟨HK.out.1.drewQ q, HK.out.2.1, ahead_step cm s.ms k hlt' HK.out.2.2 (by rw [hy]; exact hc)⟩
      clear HK hy
      go_wp2
      go_quiet (fail)
      go_wp2
      go_roundw
      case rel => exact ⟨k + 1, by omega, by go_num, HK8.out _⟩
      case measure => simp [intOf]; omega
    · exact absurd (ahead_stop cm s.ms k hlt' HK.out.2.2 (by rw [hy]; exact hc)) (by have := HO.out.2.2.2.1; omega)
  · have hkk : k = n := by omega
    subst hkk
    have g0 : decide ((k : Int) < (k : Int)) = false := by simp
    have em0 : W3.cell? ⟨mb, 0, none⟩ = some (.int .i64 g) := by rw [cell_of HK.out.2.1]; rfl
    have ho := R3.ms
    rw [HO.out.2.1, HO.out.2.2.1] at ho
    have hi := HO.out.2.2.2.2
    have HD : Hid (mkC (s.ms.drop k) = []) := by show _ = _; rw [List.drop_of_length_le (by rw [HO.out.2.2.1]; omega)]; rfl
    clear R3
    rcases own_addr0 ho with ⟨rfl, rfl, rfl⟩ | ⟨gg, rfl, hgc, hcc⟩
    · exact absurd HO.out.2.1 HNE.out
    · have HCC : Hid (∀ t, t < k * 2 → W3.cell? ⟨gg, t, none⟩ = (mkC s.ms)[t]?) := hcc
      clear ho hcc
      by_cases hkc : mcap = k
      · have hkc := hkc.symm
        subst hkc
        go_wp2
        go_quiet (fail)
        have H4 : Hid (Fr [] w (W3.drewN nq) ∧ (∀ t, t < k * 2 → (W3.drewN nq).cell? ⟨gg, t, none⟩ = (mkC s.ms)[t]?)) := ⟨HK.out.1.drewQ nq, HCC.out⟩
        have f37 := e37 nq
        have fm0 : (W3.drewN nq).cell? ⟨mb, 0, none⟩ = some (.int .i64 g) := em0
        have fm1 := em nq
        generalize W3.drewN nq = W4 at H4 f37 fm0 fm1 ⊢
        clear e37 em HK HCC em0
        have i7 : 0 ≤ (k : Int) := Int.natCast_nonneg _
        go_wp2_with (first
         | (at_builtin; refine wpList_append_own _ rfl _ _ 84 rfl W4.heap.size 129 i0 _ 2 16 Tryz.underlying84 hi hz0 hz1 hz2 rfl (by omega) (.slice none 0 0) 0 [] rfl (World.ownsRow_nil _ _ _ _) ⟨gg, 0, none⟩ k k (mkC (s.ms.take k)) rfl (by rw [mkC_len, List.length_take, HO.out.2.2.1, Nat.min_eq_left (by omega)]) (fun t u hu => by
              rw [Addr.add_lit, Nat.zero_add, ← mkC_take] at *
              have ht : t < k * 2 := by
               have := (List.getElem?_eq_some_iff.1 hu).1
               rw [List.length_take] at this
               omega
              rw [List.getElem?_take_of_lt ht] at hu
              rw [H4.out.2 t (by omega)]
              exact hu) mk_one (by unfold maxLen; omega) (by omega) (Nat.le_refl _) ?_; intro v5 w5 hown5 hgrow5 _
            rw [Nat.zero_add, List.nil_append] at hown5
            have H5 : Hid (w5.ownsRow W4.heap.size 129 2 v5 k (mkC (s.ms.take k)) ∧ Fr [] W4 w5) := ⟨hown5, (Fr.refl _ _).grown hgrow5 (fun x hx => by simp [Value.ownBlock] at hx)⟩
            have f37' : w5.cell? ⟨b, 37, none⟩ = some (.slice (some ⟨gg, 0, none⟩) k k) := H5.out.2.gb.cell f37 (by simp)
            have fm0' : w5.cell? ⟨mb, 0, none⟩ = some (.int .i64 g) := H5.out.2.gb.cell fm0 (by simp)
            have fm1' : w5.cell? ⟨mb, 1, none⟩ = some (.int .i64 cm) := H5.out.2.gb.cell fm1 (by simp)
            obtain ⟨ao5, c5, e5⟩ := own_shape H5.out.1
            subst e5
            clear hown5 hgrow5)
         | (at_builtin; refine wpList_append_own _ rfl _ _ 84 rfl W4.heap.size 129 i0 _ 2 16 Tryz.underlying84 hi hz0 hz1 hz2 rfl (by omega) (.slice ao5 k c5) k _ rfl (H5.out.1.alloc _) ⟨w5.heap.size, 0, none⟩ 1 1 [.int .i64 g, .int .i64 cm] rfl rfl (World.news_of_block (cs := #[.int .i64 g, .int .i64 cm]) (t := 129) (fr := (0, 0)) (heap_alloc_new w5 _)) (by simp [Value.oneCell']) (by unfold maxLen; omega) (by omega) (by have := H5.out.2.size; simp; omega) ?_; intro v6 w6 hown6 hgrow6 _
            have H6 : Hid (w6.ownsRow W4.heap.size 129 2 v6 (k + 1) (mkC (s.ms.take k) ++ [.int .i64 g, .int .i64 cm]) ∧ Fr [] W4 w6) := ⟨hown6, (H5.out.2.alloc _).grown hgrow6 (fun k hk => Or.inr (own_tag H5.out.1 hk).1)⟩
            have f37'' : w6.cell? ⟨b, 37, none⟩ = some (.slice (some ⟨gg, 0, none⟩) k k) := H6.out.2.gb.cell f37 (by simp)
            obtain ⟨ao6, c6, e6⟩ := own_shape H6.out.1
            subst e6
            clear hown6 hgrow6)
         | (at_builtin; refine wpList_append_own _ rfl _ _ 84 rfl W4.heap.size 129 i0 _ 2 16 Tryz.underlying84 hi hz0 hz1 hz2 rfl (by omega) (.slice ao6 (k + 1) c6) (k + 1) _ rfl H6.out.1 ⟨gg, 0, none⟩ 0 (0) [] rfl rfl (by simp) (by simp) (by unfold maxLen; omega) (by omega) H6.out.2.size ?_; intro v7 w7 hown7 hgrow7 _
            rw [Nat.add_zero] at hown7
            have H7 : Hid (w7.ownsRow W4.heap.size 129 2 v7 (k + 1) (mkC (s.ms.take k) ++ [.int .i64 g, .int .i64 cm] ++ mkC (s.ms.drop k)) ∧ Fr [] W4 w7) := ⟨by rw [HD.out]; exact hown7, H6.out.2.grown hgrow7 (fun k hk => Or.inr (own_tag H6.out.1 hk).1)⟩
            have f37c : w7.cell? ⟨b, 37, none⟩ = some (.slice (some ⟨gg, 0, none⟩) k k) := H7.out.2.gb.cell f37 (by simp)
            have fz : w7.frozen? ⟨b, 37, none⟩ = false := (HO.out.1.kept0 (H4.out.1.trans H7.out.2 (by simp))).frozen 37
            obtain ⟨ao7, c7, e7⟩ := own_shape H7.out.1
            subst e7
            clear hown7 hgrow7))
        go_ret
        exact ⟨rfl, rmark_fin HO.out.1 H4.out.1 H7.out.2 HO.out.2.2.1 HO.out.2.2.2.1 H7.out.1⟩
      · go_wp2
        go_quiet (fail)
        have H4 : Hid (Fr [] w (W3.drewN nq) ∧ (∀ t, t < k * 2 → (W3.drewN nq).cell? ⟨gg, t, none⟩ = (mkC s.ms)[t]?)) := ⟨HK.out.1.drewQ nq, HCC.out⟩
        have f37 := e37 nq
        have fm0 : (W3.drewN nq).cell? ⟨mb, 0, none⟩ = some (.int .i64 g) := em0
        have fm1 := em nq
        generalize W3.drewN nq = W4 at H4 f37 fm0 fm1 ⊢
        clear e37 em HK HCC em0
        have i2 : (k : Int) ≤ (mcap : Int) := by omega
        have i6 : ¬ mcap = k := by omega
        have i7 : 0 ≤ (k : Int) := Int.natCast_nonneg _
        go_wp2_with (first
         | (at_builtin; refine wpList_append_own _ rfl _ _ 84 rfl W4.heap.size 129 i0 _ 2 16 Tryz.underlying84 hi hz0 hz1 hz2 rfl (by omega) (.slice none 0 0) 0 [] rfl (World.ownsRow_nil _ _ _ _) ⟨gg, 0, none⟩ k mcap (mkC (s.ms.take k)) rfl (by rw [mkC_len, List.length_take, HO.out.2.2.1, Nat.min_eq_left (by omega)]) (fun t u hu => by
              rw [Addr.add_lit, Nat.zero_add, ← mkC_take] at *
              have ht : t < k * 2 := by
               have := (List.getElem?_eq_some_iff.1 hu).1
               rw [List.length_take] at this
               omega
              rw [List.getElem?_take_of_lt ht] at hu
              rw [H4.out.2 t (by omega)]
              exact hu) mk_one (by unfold maxLen; omega) (by omega) (Nat.le_refl _) ?_; intro v5 w5 hown5 hgrow5 _
            rw [Nat.zero_add, List.nil_append] at hown5
            have H5 : Hid (w5.ownsRow W4.heap.size 129 2 v5 k (mkC (s.ms.take k)) ∧ Fr [] W4 w5) := ⟨hown5, (Fr.refl _ _).grown hgrow5 (fun x hx => by simp [Value.ownBlock] at hx)⟩
            have f37' : w5.cell? ⟨b, 37, none⟩ = some (.slice (some ⟨gg, 0, none⟩) k mcap) := H5.out.2.gb.cell f37 (by simp)
            have fm0' : w5.cell? ⟨mb, 0, none⟩ = some (.int .i64 g) := H5.out.2.gb.cell fm0 (by simp)
            have fm1' : w5.cell? ⟨mb, 1, none⟩ = some (.int .i64 cm) := H5.out.2.gb.cell fm1 (by simp)
            obtain ⟨ao5, c5, e5⟩ := own_shape H5.out.1
            subst e5
            clear hown5 hgrow5)
         | (at_builtin; refine wpList_append_own _ rfl _ _ 84 rfl W4.heap.size 129 i0 _ 2 16 Tryz.underlying84 hi hz0 hz1 hz2 rfl (by omega) (.slice ao5 k c5) k _ rfl (H5.out.1.alloc _) ⟨w5.heap.size, 0, none⟩ 1 1 [.int .i64 g, .int .i64 cm] rfl rfl (World.news_of_block (cs := #[.int .i64 g, .int .i64 cm]) (t := 129) (fr := (0, 0)) (heap_alloc_new w5 _)) (by simp [Value.oneCell']) (by unfold maxLen; omega) (by omega) (by have := H5.out.2.size; simp; omega) ?_; intro v6 w6 hown6 hgrow6 _
            have H6 : Hid (w6.ownsRow W4.heap.size 129 2 v6 (k + 1) (mkC (s.ms.take k) ++ [.int .i64 g, .int .i64 cm]) ∧ Fr [] W4 w6) := ⟨hown6, (H5.out.2.alloc _).grown hgrow6 (fun k hk => Or.inr (own_tag H5.out.1 hk).1)⟩
            have f37'' : w6.cell? ⟨b, 37, none⟩ = some (.slice (some ⟨gg, 0, none⟩) k mcap) := H6.out.2.gb.cell f37 (by simp)
            obtain ⟨ao6, c6, e6⟩ := own_shape H6.out.1
            subst e6
            clear hown6 hgrow6)
         | (at_builtin; refine wpList_append_own _ rfl _ _ 84 rfl W4.heap.size 129 i0 _ 2 16 Tryz.underlying84 hi hz0 hz1 hz2 rfl (by omega) (.slice ao6 (k + 1) c6) (k + 1) _ rfl H6.out.1 ⟨gg, k * 2, none⟩ 0 (mcap - k) [] rfl rfl (by simp) (by simp) (by unfold maxLen; omega) (by omega) H6.out.2.size ?_; intro v7 w7 hown7 hgrow7 _
            rw [Nat.add_zero] at hown7
            have H7 : Hid (w7.ownsRow W4.heap.size 129 2 v7 (k + 1) (mkC (s.ms.take k) ++ [.int .i64 g, .int .i64 cm] ++ mkC (s.ms.drop k)) ∧ Fr [] W4 w7) := ⟨by rw [HD.out]; exact hown7, H6.out.2.grown hgrow7 (fun k hk => Or.inr (own_tag H6.out.1 hk).1)⟩
            have f37c : w7.cell? ⟨b, 37, none⟩ = some (.slice (some ⟨gg, 0, none⟩) k mcap) := H7.out.2.gb.cell f37 (by simp)
            have fz : w7.frozen? ⟨b, 37, none⟩ = false := (HO.out.1.kept0 (H4.out.1.trans H7.out.2 (by simp))).frozen 37
            obtain ⟨ao7, c7, e7⟩ := own_shape H7.out.1
            subst e7
            clear hown7 hgrow7))
        go_ret
        exact ⟨rfl, rmark_fin HO.out.1 H4.out.1 H7.out.2 HO.out.2.2.1 HO.out.2.2.2.1 H7.out.1⟩
end Go.Proofs.YthdhegmlknpllaaGreat
