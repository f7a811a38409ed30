import Derived.Test.YthdhegmlknpllaaGreatM17
namespace Go.Proofs.YthdhegmlknpllaaGreat
open Go.RowKit Go.Maps Go.MuLone
set_option maxHeartbeats 800000 in
theorem unmark_none (B b : Nat) (s : Sto) (g : Int) (w : World) (h : Rep B w b 0 s) (hl : s.ms.length ≤ 12) (hf : fi (fun y : Int × Int => y.1 == g) 0 s.ms = -1) :
  Calls Tryz.prog 44 #[.pointer (some ⟨b, 0, none⟩), .int .i64 g] w fun e w' => e = .returned (.int .i64 3) ∧ Rep B w' b 0 s ∧ Fr (foot b s) w w' := by
 obtain ⟨w1, hw1, R1⟩ := h.lk
 have HL := lock_free Tryz.muLib ⟨b, 0, none⟩ w h.cells.1 (h.frozen 0)
 have F1 := lkF s hw1
 have HF : Hid (w.setCell ⟨b, 0, none⟩ (.int .i32 1) = w1 ∧ Rep B w1 b 1 s ∧ Fr (foot b s) w w1) := ⟨hw1, R1, F1⟩
 have HR2 : Hid (Rep B w1 b 1 s ∧ Fr (foot b s) w w1) := ⟨R1, F1⟩
 have HS := findMark_any B b 1 s g w1 R1 (by omega)
 rw [hf] at HS
 clear h hw1 R1 F1 HR2 hf
 go_enter_defers Tryz.func44, Tryz.ntmps44
 go_wp2_with (first
  | (go_at_call 23; refine HL.mono ?_; rintro e w' ⟨rfl, hw'⟩; rw [HF.out.1] at hw'; have hw' := hw'.symm; subst hw')
  | (go_at_call 69; refine HS.mono ?_; rintro e w2 ⟨rfl, hfr⟩
     have HR2 : Hid (Rep B w2 b 1 s ∧ Fr (foot b s) w w2) := ⟨HF.out.2.1.kept0 hfr, HF.out.2.2.trans hfr (by simp)⟩
     clear hfr))
 refine leaves_cons (f := 24) (args := #[.pointer (some ⟨b, 0, none⟩)]) (by simp) (by simp [go_sem]) ?_
 refine (unlock_deferred Tryz.muLib ⟨b, 0, none⟩ .returning _ HR2.out.1.cells.1 (HR2.out.1.frozen 0)).mono ?_
 rintro e u' w'' ⟨rfl, rfl, rfl⟩
 exact ⟨_, results_tmp rfl _ _ _, rfl, HR2.out.1.lock 0, HR2.out.2.setCell _ (Or.inl (by simp [foot]))⟩
set_option maxHeartbeats 800000 in
theorem runmark_none (B b : Nat) (s : RSto) (g : Int) (w : World) (h : RRep B w b s) (hl : s.ms.length ≤ 12) (hf : fi (fun y : Int × Int => y.1 == g) 0 s.ms = -1) :
  Calls Tryz.prog 45 #[.pointer (some ⟨b, 0, none⟩), .int .i64 g] w fun e w' => e = .returned (.int .i64 3) ∧ w' = w := by
 have HS := rmark_any B b s g w h (by omega)
 rw [hf] at HS
 clear h hf
 go_enter Tryz.func45, Tryz.ntmps45
 go_wp2_with (first
  | (go_at_call 72; refine HS.mono ?_; rintro e w' ⟨rfl, hw'⟩; have hw' := hw'.symm; subst hw'))
 go_ret
 exact ⟨by first | rfl | trivial, by first | rfl | trivial⟩
set_option maxRecDepth 100000 in
set_option maxHeartbeats 800000 in
theorem hold_full (B b : Nat) (s : Sto) (g : Int) (j : Nat) (x : Sn) (w : World) (h : Rep B w b 0 s) (hl : s.ss.length ≤ 12) (hf : fi (fun y : Sn => y.guid == g) 0 s.ss = (j : Int)) (hx : s.ss[j]? = some x) (hh : 9 ≤ x.holds) :
  Calls Tryz.prog 37 #[.pointer (some ⟨b, 0, none⟩), .int .i64 g] w fun e w' => e = .returned (.int .i64 5) ∧ Rep B w' b 0 s ∧ Fr (foot b s) w w' := by
 obtain ⟨w1, hw1, R1⟩ := h.lk
 have hj : j < s.ss.length := (List.getElem?_eq_some_iff.1 hx).1
 have HL := lock_free Tryz.muLib ⟨b, 0, none⟩ w h.cells.1 (h.frozen 0)
 have F1 := lkF s hw1
 have HF : Hid (w.setCell ⟨b, 0, none⟩ (.int .i32 1) = w1 ∧ Rep B w1 b 1 s ∧ Fr (foot b s) w w1 ∧ s.ss[j]? = some x) := ⟨hw1, R1, F1, hx⟩
 have HS := findSnapshot_any B b 1 s g w1 R1 (by omega)
 rw [hf] at HS
 obtain ⟨ao, cap, hsv⟩ := own_shape h.ss
 have ho := h.ss
 rw [hsv] at ho
 obtain ⟨gg, hgg, hcap, _⟩ := own_addr ho (by omega)
 subst hgg
 have hgl := h.ss.lt gg (by rw [hsv]; rfl)
 have HV : Hid (s.sv = .slice (some ⟨gg, 0, none⟩) s.ss.length cap) := hsv
 obtain ⟨n, hn⟩ : ∃ n, s.ss.length = n := ⟨_, rfl⟩
 have hjn : (j : Int) < (n : Int) := by omega
 have HN : Hid (s.ss.length = n) := hn
 clear h R1 F1 hw1 hf hx ho hsv hgl
 rw [hn] at hcap hj hl
 clear hn
 go_enter_defers Tryz.func37, Tryz.ntmps37
 go_wp2_with (first
  | (go_at_call 23; refine HL.mono ?_; rintro e w' ⟨rfl, hw'⟩; rw [HF.out.1] at hw'; have hw' := hw'.symm; subst hw')
  | (go_at_call 65; refine HS.mono ?_; rintro e w2 ⟨rfl, hfr⟩
     have HR2 : Hid (Rep B w2 b 1 s ∧ Fr (foot b s) w w2) := ⟨HF.out.2.1.kept0 hfr, HF.out.2.2.1.trans hfr (by simp)⟩
     have c4 : w2.cell? ⟨b, 4, none⟩ = some (.slice (some ⟨gg, 0, none⟩) n cap) := by rw [← HN.out, ← HV.out]; exact HR2.out.1.cells.2.2.2.1
     have d2 : w2.cell? ⟨gg, j * 4 + 2, none⟩ = some (.int .i64 x.holds) := by
      have h1 := HR2.out.1.ss
      rw [HV.out, HN.out] at h1
      obtain ⟨g', e', _, hc⟩ := own_addr h1 (by omega)
      have : g' = gg := by simpa using e'.symm
      subst this
      rw [hc _ (by omega)]
      have h2 := (snC_get s.ss j (by rw [HN.out]; exact hj)).2.2.1
      rw [h2]
      have h3 := HF.out.2.2.2
      rw [List.getElem?_eq_getElem (by rw [HN.out]; exact hj)] at h3
      simp at h3
      rw [h3]
     clear hfr))
 refine leaves_cons (f := 24) (args := #[.pointer (some ⟨b, 0, none⟩)]) (by simp) (by simp [go_sem]) ?_
 refine (unlock_deferred Tryz.muLib ⟨b, 0, none⟩ .returning _ HR2.out.1.cells.1 (HR2.out.1.frozen 0)).mono ?_
 rintro e u' w'' ⟨rfl, rfl, rfl⟩
 exact ⟨_, results_tmp rfl _ _ _, rfl, HR2.out.1.lock 0, HR2.out.2.setCell _ (Or.inl (by simp [foot]))⟩
set_option maxHeartbeats 800000 in
theorem rsnap_arg (b : Nat) (t : Int) (w : World) (ht : t < 0 ∨ 1073741824 < t) :
  Calls Tryz.prog 30 #[.pointer (some ⟨b, 0, none⟩), .int .i64 t] w fun e w' => e = .returned (.tuple #[.int .i64 0, .int .i64 1]) ∧ w' = w := by
 by_cases h0 : t < 0
 · clear ht
   go_enter Tryz.func30, Tryz.ntmps30
   go_wp2
   go_ret2
   exact ⟨by first | rfl | trivial, by first | rfl | trivial⟩
 · have h1 : 1073741824 < t := by omega
   clear ht
   go_enter Tryz.func30, Tryz.ntmps30
   go_wp2
   go_ret2
   exact ⟨by first | rfl | trivial, by first | rfl | trivial⟩
set_option maxRecDepth 100000 in
set_option maxHeartbeats 1600000 in
theorem rsnap_full (B b : Nat) (s : RSto) (n t : Int) (w : World) (h : RRep B w b s) (ht : 0 ≤ t ∧ t ≤ 1073741824) (h1 : 1 ≤ s.id ∧ s.id ≤ 999) (h2 : 0 ≤ s.last ∧ s.last ≤ 999999) (hf : RNxt s n) (hs : s.sh.length ≤ 12) (hm : s.ms.length ≤ 12) (hfull : s.sh.length = 12 ∨ 999999 < n) :
  Calls Tryz.prog 30 #[.pointer (some ⟨b, 0, none⟩), .int .i64 t] w fun e w' => e = .returned (.tuple #[.int .i64 0, .int .i64 5]) ∧ w' = w := by
 obtain ⟨c0, _, _, c3, c36, _⟩ := h.cells
 have hlo := hf.lo
 have hhi := hf.hi
 have HH : Hid (∀ k, Calls Tryz.prog 64 #[.pointer (some ⟨b, 0, none⟩), .int .i64 (1000000 * s.id + k)] w fun e w' => e = .returned (.bool (RHs s (1000000 * s.id + k))) ∧ w' = w) := fun k => rhas_any B b s (1000000 * s.id + k) w h (by omega) (by omega)
 have HNX : Hid (RNxt s n) := hf
 obtain ⟨ao, cap, hsv⟩ := own_shape h.sh
 rw [hsv] at c36
 obtain ⟨m, hm'⟩ : ∃ m, s.sh.length = m := ⟨_, rfl⟩
 rw [hm'] at c36 hfull hs
 have p1 : IntKind.i64.wrap (s.last + 1) = s.last + 1 := wrap_fit ⟨by omega, by omega⟩
 have p2 : IntKind.i64.wrap (1000000 * s.id) = 1000000 * s.id := wrap_fit ⟨by omega, by omega⟩
 have t1 : decide (t < 0) = false := by simp; omega
 have t2 : decide (t > 1073741824) = false := by simp; omega
 have hfull' : (12 : Int) ≤ (m : Int) ∨ (999999 : Int) < n := by omega
 clear h hf hsv hm' hfull
 go_enter Tryz.func30, Tryz.ntmps30
 go_wp2
 go_loopw [6] (fun i wr => wr = w ∧ ∃ k : Int, (s.last < k ∧ k ≤ n) ∧ i = .int .i64 k) (fun i _ => (n - intOf i).toNat)
 case atStart => exact ⟨rfl, s.last + 1, ⟨by omega, by omega⟩, rfl⟩
 case round =>
  obtain ⟨rfl, k, ⟨hk1, hk2⟩, rfl⟩ := hrel
  have q3 : IntKind.i64.wrap (1000000 * s.id + k) = 1000000 * s.id + k := wrap_fit ⟨by omega, by omega⟩
  have q1 : IntKind.i64.wrap (k + 1) = k + 1 := wrap_fit ⟨by omega, by omega⟩
  by_cases hkn : k < n
  · have hb := HNX.out.no k hk1 hkn
    have HHk : Hid (Calls Tryz.prog 64 #[.pointer (some ⟨b, 0, none⟩), .int .i64 (1000000 * s.id + k)] wr fun e w' => e = .returned (.bool true) ∧ w' = wr) := by rw [← hb]; exact HH.out k
    clear hb HH hfull'
    go_wp2_with (first
     | (go_at_call 64; refine HHk.out.mono ?_; rintro e w' ⟨rfl, hw'⟩; have hw' := hw'.symm; subst hw'))
    go_roundw
    case rel => exact ⟨by first | rfl | trivial, k + 1, ⟨by omega, by omega⟩, rfl⟩
    case measure => simp [intOf]; omega
  · have hkn' : k = n := by omega
    subst hkn'
    have hb := HNX.out.yes
    have HHk : Hid (Calls Tryz.prog 64 #[.pointer (some ⟨b, 0, none⟩), .int .i64 (1000000 * s.id + k)] wr fun e w' => e = .returned (.bool false) ∧ w' = wr) := by rw [← hb]; exact HH.out k
    clear hb HH HNX
    by_cases h0 : (12 : Int) ≤ (m : Int)
    · clear hfull'
      go_wp2_with (first
       | (go_at_call 64; refine HHk.out.mono ?_; rintro e w' ⟨rfl, hw'⟩; have hw' := hw'.symm; subst hw'))
      go_ret2
      exact ⟨by first | rfl | trivial, by first | rfl | trivial⟩
    · have h0' : (999999 : Int) < k := by omega
      clear hfull'
      go_wp2_with (first
       | (go_at_call 64; refine HHk.out.mono ?_; rintro e w' ⟨rfl, hw'⟩; have hw' := hw'.symm; subst hw'))
      go_ret2
      exact ⟨by first | rfl | trivial, by first | rfl | trivial⟩
set_option maxHeartbeats 800000 in
theorem mark_was (B b : Nat) (s : Sto) (g : Int) (j : Nat) (w : World) (h : Rep B w b 0 s) (hl : s.ms.length ≤ 12) (hf : fi (fun y : Int × Int => y.1 == g) 0 s.ms = (j : Int)) :
  Calls Tryz.prog 42 #[.pointer (some ⟨b, 0, none⟩), .int .i64 g] w fun e w' => e = .returned (.int .i64 0) ∧ Rep B w' b 0 s ∧ Fr (foot b s) w w' := by
 obtain ⟨w1, hw1, R1⟩ := h.lk
 have HL := lock_free Tryz.muLib ⟨b, 0, none⟩ w h.cells.1 (h.frozen 0)
 have F1 := lkF s hw1
 have HF : Hid (w.setCell ⟨b, 0, none⟩ (.int .i32 1) = w1 ∧ Rep B w1 b 1 s ∧ Fr (foot b s) w w1) := ⟨hw1, R1, F1⟩
 have HM := findMark_any B b 1 s g w1 R1 (by omega)
 rw [hf] at HM
 have j0 : (0 : Int) ≤ (j : Int) := Int.natCast_nonneg _
 clear h hw1 R1 F1 hf
 go_enter_defers Tryz.func42, Tryz.ntmps42
 go_wp2_with (first
  | (go_at_call 23; refine HL.mono ?_; rintro e w' ⟨rfl, hw'⟩; rw [HF.out.1] at hw'; have hw' := hw'.symm; subst hw')
  | (go_at_call 69; refine HM.mono ?_; rintro e w2 ⟨rfl, hfr⟩
     have HR2 : Hid (Rep B w2 b 1 s ∧ Fr (foot b s) w w2) := ⟨HF.out.2.1.kept0 hfr, HF.out.2.2.trans hfr (by simp)⟩
     clear hfr))
 refine leaves_cons (f := 24) (args := #[.pointer (some ⟨b, 0, none⟩)]) (by simp) (by simp [go_sem]) ?_
 refine (unlock_deferred Tryz.muLib ⟨b, 0, none⟩ .returning _ HR2.out.1.cells.1 (HR2.out.1.frozen 0)).mono ?_
 rintro e u' w'' ⟨rfl, rfl, rfl⟩
 exact ⟨_, results_tmp rfl _ _ _, rfl, HR2.out.1.lock 0, HR2.out.2.setCell _ (Or.inl (by simp [foot]))⟩
set_option maxHeartbeats 800000 in
theorem mark_none (B b : Nat) (s : Sto) (g : Int) (w : World) (h : Rep B w b 0 s) (hl : s.ms.length ≤ 12) (hs : s.ss.length ≤ 12) (hf : fi (fun y : Int × Int => y.1 == g) 0 s.ms = -1) (hg : fi (fun y : Sn => y.guid == g) 0 s.ss = -1) :
  Calls Tryz.prog 42 #[.pointer (some ⟨b, 0, none⟩), .int .i64 g] w fun e w' => e = .returned (.int .i64 3) ∧ Rep B w' b 0 s ∧ Fr (foot b s) w w' := by
 obtain ⟨w1, hw1, R1⟩ := h.lk
 have HL := lock_free Tryz.muLib ⟨b, 0, none⟩ w h.cells.1 (h.frozen 0)
 have F1 := lkF s hw1
 have HF : Hid (w.setCell ⟨b, 0, none⟩ (.int .i32 1) = w1 ∧ Rep B w1 b 1 s ∧ Fr (foot b s) w w1) := ⟨hw1, R1, F1⟩
 have HM := findMark_any B b 1 s g w1 R1 (by omega)
 rw [hf] at HM
 have HS : Hid (∀ W, Rep B W b 1 s → Calls Tryz.prog 65 #[.pointer (some ⟨b, 0, none⟩), .int .i64 g] W fun e w' => e = .returned (.int .i64 (-1)) ∧ Fr [] W w') := fun W hW => by
  have := findSnapshot_any B b 1 s g W hW (by omega)
  rw [hg] at this
  exact this
 clear h hw1 R1 F1 hf hg
 go_enter_defers Tryz.func42, Tryz.ntmps42
 go_wp2_with (first
  | (go_at_call 23; refine HL.mono ?_; rintro e w' ⟨rfl, hw'⟩; rw [HF.out.1] at hw'; have hw' := hw'.symm; subst hw')
  | (go_at_call 69; refine HM.mono ?_; rintro e w2 ⟨rfl, hfr⟩
     have HR2 : Hid (Rep B w2 b 1 s ∧ Fr (foot b s) w w2) := ⟨HF.out.2.1.kept0 hfr, HF.out.2.2.trans hfr (by simp)⟩
     clear hfr)
  | (go_at_call 65; refine (HS.out _ HR2.out.1).mono ?_; rintro e w3 ⟨rfl, hfr⟩
     have HR3 : Hid (Rep B w3 b 1 s ∧ Fr (foot b s) w w3) := ⟨HR2.out.1.kept0 hfr, HR2.out.2.trans hfr (by simp)⟩
     clear hfr))
 refine leaves_cons (f := 24) (args := #[.pointer (some ⟨b, 0, none⟩)]) (by simp) (by simp [go_sem]) ?_
 refine (unlock_deferred Tryz.muLib ⟨b, 0, none⟩ .returning _ HR3.out.1.cells.1 (HR3.out.1.frozen 0)).mono ?_
 rintro e u' w'' ⟨rfl, rfl, rfl⟩
 exact ⟨_, results_tmp rfl _ _ _, rfl, HR3.out.1.lock 0, HR3.out.2.setCell _ (Or.inl (by simp [foot]))⟩
set_option maxHeartbeats 800000 in
theorem mark_full (B b : Nat) (s : Sto) (g : Int) (j : Nat) (w : World) (h : Rep B w b 0 s) (hl : s.ms.length = 12) (hs : s.ss.length ≤ 12) (hf : fi (fun y : Int × Int => y.1 == g) 0 s.ms = -1) (hg : fi (fun y : Sn => y.guid == g) 0 s.ss = (j : Int)) :
  Calls Tryz.prog 42 #[.pointer (some ⟨b, 0, none⟩), .int .i64 g] w fun e w' => e = .returned (.int .i64 5) ∧ Rep B w' b 0 s ∧ Fr (foot b s) w w' := by
 obtain ⟨w1, hw1, R1⟩ := h.lk
 have HL := lock_free Tryz.muLib ⟨b, 0, none⟩ w h.cells.1 (h.frozen 0)
 have F1 := lkF s hw1
 have HF : Hid (w.setCell ⟨b, 0, none⟩ (.int .i32 1) = w1 ∧ Rep B w1 b 1 s ∧ Fr (foot b s) w w1) := ⟨hw1, R1, F1⟩
 have HM := findMark_any B b 1 s g w1 R1 (by omega)
 rw [hf] at HM
 have HS : Hid (∀ W, Rep B W b 1 s → Calls Tryz.prog 65 #[.pointer (some ⟨b, 0, none⟩), .int .i64 g] W fun e w' => e = .returned (.int .i64 j) ∧ Fr [] W w') := fun W hW => by
  have := findSnapshot_any B b 1 s g W hW (by omega)
  rw [hg] at this
  exact this
 obtain ⟨ao, cap, hmv⟩ := own_shape h.ms
 rw [hl] at hmv
 have HV : Hid (s.mv = .slice ao 12 cap) := hmv
 have j0 : ¬ ((j : Int) < 0) := by omega
 clear h hw1 R1 F1 hf hg hmv
 go_enter_defers Tryz.func42, Tryz.ntmps42
 go_wp2_with (first
  | (go_at_call 23; refine HL.mono ?_; rintro e w' ⟨rfl, hw'⟩; rw [HF.out.1] at hw'; have hw' := hw'.symm; subst hw')
  | (go_at_call 69; refine HM.mono ?_; rintro e w2 ⟨rfl, hfr⟩
     have HR2 : Hid (Rep B w2 b 1 s ∧ Fr (foot b s) w w2) := ⟨HF.out.2.1.kept0 hfr, HF.out.2.2.trans hfr (by simp)⟩
     clear hfr)
  | (go_at_call 65; refine (HS.out _ HR2.out.1).mono ?_; rintro e w3 ⟨rfl, hfr⟩
     have HR3 : Hid (Rep B w3 b 1 s ∧ Fr (foot b s) w w3) := ⟨HR2.out.1.kept0 hfr, HR2.out.2.trans hfr (by simp)⟩
     have c6 : w3.cell? ⟨b, 6, none⟩ = some (.slice ao 12 cap) := by rw [← HV.out]; exact HR3.out.1.cells.2.2.2.2.2.1
     clear hfr))
 refine leaves_cons (f := 24) (args := #[.pointer (some ⟨b, 0, none⟩)]) (by simp) (by simp [go_sem]) ?_
 refine (unlock_deferred Tryz.muLib ⟨b, 0, none⟩ .returning _ HR3.out.1.cells.1 (HR3.out.1.frozen 0)).mono ?_
 rintro e u' w'' ⟨rfl, rfl, rfl⟩
 exact ⟨_, results_tmp rfl _ _ _, rfl, HR3.out.1.lock 0, HR3.out.2.setCell _ (Or.inl (by simp [foot]))⟩
set_option maxHeartbeats 800000 in
theorem rmark_was (B b : Nat) (s : RSto) (g : Int) (j : Nat) (w : World) (h : RRep B w b s) (hl : s.ms.length ≤ 12) (hs : s.sh.length ≤ 12) (hf : fi (fun y : Int × Int => y.1 == g) 0 s.ms = (j : Int)) :
  Calls Tryz.prog 43 #[.pointer (some ⟨b, 0, none⟩), .int .i64 g] w fun e w' => e = .returned (.int .i64 0) ∧ w' = w := by
 have HM := rmark_any B b s g w h (by omega)
 have HS := rshot_any B b s g w h (by omega)
 rw [hf] at HM
 generalize fi (fun y : RSh => y.guid == g) 0 s.sh = i at HS
 have j0 : (0 : Int) ≤ (j : Int) := Int.natCast_nonneg _
 clear h hf
 go_enter Tryz.func43, Tryz.ntmps43
 go_wp2_with (first
  | (go_at_call 66; refine HS.mono ?_; rintro e w' ⟨rfl, hw'⟩; have hw' := hw'.symm; subst hw')
  | (go_at_call 72; refine HM.mono ?_; rintro e w' ⟨rfl, hw'⟩; have hw' := hw'.symm; subst hw'))
 go_ret
 exact ⟨rfl, rfl⟩
set_option maxHeartbeats 800000 in
theorem rmark_none (B b : Nat) (s : RSto) (g : Int) (w : World) (h : RRep B w b s) (hl : s.ms.length ≤ 12) (hs : s.sh.length ≤ 12) (hf : fi (fun y : Int × Int => y.1 == g) 0 s.ms = -1) (hg : fi (fun y : RSh => y.guid == g) 0 s.sh = -1) :
  Calls Tryz.prog 43 #[.pointer (some ⟨b, 0, none⟩), .int .i64 g] w fun e w' => e = .returned (.int .i64 3) ∧ w' = w := by
 have HM := rmark_any B b s g w h (by omega)
 have HS := rshot_any B b s g w h (by omega)
 rw [hf] at HM
 rw [hg] at HS
 clear h hf hg
 go_enter Tryz.func43, Tryz.ntmps43
 go_wp2_with (first
  | (go_at_call 66; refine HS.mono ?_; rintro e w' ⟨rfl, hw'⟩; have hw' := hw'.symm; subst hw')
  | (go_at_call 72; refine HM.mono ?_; rintro e w' ⟨rfl, hw'⟩; have hw' := hw'.symm; subst hw'))
 go_ret
 exact ⟨rfl, rfl⟩
set_option maxHeartbeats 800000 in
theorem rmark_full (B b : Nat) (s : RSto) (g : Int) (j : Nat) (w : World) (h : RRep B w b s) (hl : s.ms.length = 12) (hs : s.sh.length ≤ 12) (hf : fi (fun y : Int × Int => y.1 == g) 0 s.ms = -1) (hg : fi (fun y : RSh => y.guid == g) 0 s.sh = (j : Int)) :
  Calls Tryz.prog 43 #[.pointer (some ⟨b, 0, none⟩), .int .i64 g] w fun e w' => e = .returned (.int .i64 5) ∧ w' = w := by
 have HM := rmark_any B b s g w h (by omega)
 have HS := rshot_any B b s g w h (by omega)
 rw [hf] at HM
 rw [hg] at HS
 obtain ⟨ao, cap, hmv⟩ := own_shape h.ms
 rw [hl] at hmv
 have c37 : w.cell? ⟨b, 37, none⟩ = some (.slice ao 12 cap) := by rw [← hmv]; exact h.cells.2.2.2.2.2
 have j0 : ¬ ((j : Int) < 0) := by omega
 clear h hf hg hmv
 go_enter Tryz.func43, Tryz.ntmps43
 go_wp2_with (first
  | (go_at_call 66; refine HS.mono ?_; rintro e w' ⟨rfl, hw'⟩; have hw' := hw'.symm; subst hw')
  | (go_at_call 72; refine HM.mono ?_; rintro e w' ⟨rfl, hw'⟩; have hw' := hw'.symm; subst hw'))
 go_ret
 exact ⟨rfl, rfl⟩
def ahead (c : Int) (ms : List (Int × Int)) : Nat := (ms.takeWhile (fun y => decide (y.2 < c))).length
def insM (m : Int × Int) (ms : List (Int × Int)) : List (Int × Int) := ms.take (ahead m.2 ms) ++ m :: ms.drop (ahead m.2 ms)
theorem ahead_cons (c : Int) (y : Int × Int) (r : List (Int × Int)) : ahead c (y :: r) = if y.2 < c then ahead c r + 1 else 0 := by
 unfold ahead
 by_cases h : y.2 < c <;> simp [h]
theorem ahead_le (c : Int) : ∀ (l : List (Int × Int)), ahead c l ≤ l.length
 | [] => by simp [ahead]
 | y :: r => by
  have := ahead_le c r
  rw [ahead_cons]
  split <;> simp <;> omega
theorem ahead_step (c : Int) : ∀ (l : List (Int × Int)) (k : Nat) (h : k < l.length), k ≤ ahead c l → l[k].2 < c → k + 1 ≤ ahead c l
 | y :: r, 0, _, _, hc => by
  have hc' : y.2 < c := hc
  rw [ahead_cons, if_pos hc']
  omega
 | y :: r, k + 1, h, hk, hc => by
  rw [ahead_cons] at hk ⊢
  split at hk
  · have := ahead_step c r k (by simpa using h) (by omega) (by simpa using hc)
    rw [if_pos (by assumption)]
    omega
  · omega
theorem ahead_stop (c : Int) : ∀ (l : List (Int × Int)) (k : Nat) (h : k < l.length), k ≤ ahead c l → ¬ l[k].2 < c → ahead c l = k
 | y :: r, 0, _, _, hc => by
  have hc' : ¬ y.2 < c := hc
  rw [ahead_cons, if_neg hc']
 | y :: r, k + 1, h, hk, hc => by
  rw [ahead_cons] at hk ⊢
  split at hk
  · rw [if_pos (by assumption), ahead_stop c r k (by simpa using h) (by omega) (by simpa using hc)]
  · omega
theorem ahead_all (c : Int) (l : List (Int × Int)) (h : l.length ≤ ahead c l) : ahead c l = l.length := by
 have := ahead_le c l
 omega
theorem insM_length (m : Int × Int) (l : List (Int × Int)) : (insM m l).length = l.length + 1 := by
 have := ahead_le m.2 l
 simp [insM]
 omega
theorem mkC_insM (m : Int × Int) (l : List (Int × Int)) : mkC (insM m l) = mkC (l.take (ahead m.2 l)) ++ mkCells m ++ mkC (l.drop (ahead m.2 l)) := by simp [mkC, insM]
end Go.Proofs.YthdhegmlknpllaaGreat
