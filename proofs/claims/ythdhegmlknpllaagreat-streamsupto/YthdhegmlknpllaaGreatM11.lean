import Derived.Test.YthdhegmlknpllaaGreatM09
import Derived.Deep.QuietTactic
import Derived.BigQuiet
/-
  More of the errors: Unmark of none, in the program (38) and in the reference (39); Hold where the holds are full (31); the reference's Snap (24) of no time, and where it is full.
-/
namespace Go.Proofs.YthdhegmlknpllaaGreat
open Go.RowKit Go.Maps Go.MuLone

set_option maxHeartbeats 800000 in
theorem unmark_none (B b : Nat) (s : Sto) (g : Int) (w : World) (h : Rep B w b 0 s) (hl : s.ms.length ≤ 12) (hf : fi (fun y : Int × Int => y.1 == g) 0 s.ms = -1) :
    Calls Tryz.prog 44 #[.pointer (some ⟨b, 0, none⟩), .int .i64 g] w fun e w' => e = .returned (.int .i64 3) ∧ Rep B w' b 0 s ∧ Fr (foot b s) w w' := by
  have R1 := h.lock 1
  obtain ⟨w1, hw1⟩ : ∃ w1, w.setCell ⟨b, 0, none⟩ (.int .i32 1) = w1 := ⟨_, rfl⟩
  rw [hw1] at R1
  have HL := lock_free Tryz.muLib ⟨b, 0, none⟩ w h.cells.1 (h.frozen 0)
  have F1 : Fr (foot b s) w w1 := by rw [← hw1]; exact fr_lock b s w _
  have HF : Hid (w.setCell ⟨b, 0, none⟩ (.int .i32 1) = w1 ∧ Rep B w1 b 1 s ∧ Fr (foot b s) w w1) := ⟨hw1, R1, F1⟩
  have HR2 : Hid (Rep B w1 b 1 s ∧ Fr (foot b s) w w1) := ⟨R1, F1⟩
  have HS := findMark_any B b 1 s g w1 R1 (by omega)
  rw [hf] at HS
  clear h hw1 R1 F1 HR2 hf
  go_enter_defers Tryz.func44, Tryz.ntmps44
  go_wp2_with (first
    | (go_at_call 23; refine HL.mono ?_; rintro e w' ⟨rfl, hw'⟩; rw [HF.out.1] at hw'; have hw' := hw'.symm; subst hw')
    | (go_at_call 69; refine HS.mono ?_; rintro e w2 ⟨rfl, hfr⟩
       have HR2 : Hid (Rep B w2 b 1 s ∧ Fr (foot b s) w w2) := ⟨HF.out.2.1.kept0 hfr, HF.out.2.2.trans hfr (by simp)⟩
       clear hfr))
  refine leaves_cons (f := 24) (args := #[.pointer (some ⟨b, 0, none⟩)]) (by simp) (by simp [go_sem]) ?_
  refine (unlock_deferred Tryz.muLib ⟨b, 0, none⟩ .returning _ HR2.out.1.cells.1 (HR2.out.1.frozen 0)).mono ?_
  rintro e u' w'' ⟨rfl, rfl, rfl⟩
  exact ⟨_, results_tmp rfl _ _ _, rfl, HR2.out.1.lock 0, HR2.out.2.setCell _ (Or.inl (by simp [foot]))⟩

set_option maxHeartbeats 800000 in
theorem runmark_none (B b : Nat) (s : RSto) (g : Int) (w : World) (h : RRep B w b s) (hl : s.ms.length ≤ 12) (hf : fi (fun y : Int × Int => y.1 == g) 0 s.ms = -1) :
    Calls Tryz.prog 45 #[.pointer (some ⟨b, 0, none⟩), .int .i64 g] w fun e w' => e = .returned (.int .i64 3) ∧ w' = w := by
  have HS := rmark_any B b s g w h (by omega)
  rw [hf] at HS
  clear h hf
  go_enter Tryz.func45, Tryz.ntmps45
  go_wp2_with (first
    | (go_at_call 72; refine HS.mono ?_; rintro e w' ⟨rfl, hw'⟩; have hw' := hw'.symm; subst hw'))
  go_ret
  exact ⟨by first | rfl | trivial, by first | rfl | trivial⟩


set_option maxRecDepth 100000 in
set_option maxHeartbeats 800000 in
theorem hold_full (B b : Nat) (s : Sto) (g : Int) (j : Nat) (x : Sn) (w : World) (h : Rep B w b 0 s) (hl : s.ss.length ≤ 12) (hf : fi (fun y : Sn => y.guid == g) 0 s.ss = (j : Int)) (hx : s.ss[j]? = some x) (hh : 9 ≤ x.holds) :
    Calls Tryz.prog 37 #[.pointer (some ⟨b, 0, none⟩), .int .i64 g] w fun e w' => e = .returned (.int .i64 5) ∧ Rep B w' b 0 s ∧ Fr (foot b s) w w' := by
  have R1 := h.lock 1
  obtain ⟨w1, hw1⟩ : ∃ w1, w.setCell ⟨b, 0, none⟩ (.int .i32 1) = w1 := ⟨_, rfl⟩
  rw [hw1] at R1
  have hj : j < s.ss.length := (List.getElem?_eq_some_iff.1 hx).1
  have HL := lock_free Tryz.muLib ⟨b, 0, none⟩ w h.cells.1 (h.frozen 0)
  have F1 : Fr (foot b s) w w1 := by rw [← hw1]; exact fr_lock b s w _
  have HF : Hid (w.setCell ⟨b, 0, none⟩ (.int .i32 1) = w1 ∧ Rep B w1 b 1 s ∧ Fr (foot b s) w w1 ∧ s.ss[j]? = some x) := ⟨hw1, R1, F1, hx⟩
  have HS := findSnapshot_any B b 1 s g w1 R1 (by omega)
  rw [hf] at HS
  obtain ⟨ao, cap, hsv⟩ := own_shape h.ss
  have ho := h.ss
  rw [hsv] at ho
  obtain ⟨gg, hgg, hcap, _⟩ := own_addr ho (by omega)
  subst hgg
  have hgl := h.ss.lt gg (by rw [hsv]; rfl)
  have HV : Hid (s.sv = .slice (some ⟨gg, 0, none⟩) s.ss.length cap) := hsv
  obtain ⟨n, hn⟩ : ∃ n, s.ss.length = n := ⟨_, rfl⟩
  have hjn : (j : Int) < (n : Int) := by omega
  have HN : Hid (s.ss.length = n) := hn
  clear h R1 F1 hw1 hf hx ho hsv hgl
  rw [hn] at hcap hj hl
  clear hn
  go_enter_defers Tryz.func37, Tryz.ntmps37
  go_wp2_with (first
    | (go_at_call 23; refine HL.mono ?_; rintro e w' ⟨rfl, hw'⟩; rw [HF.out.1] at hw'; have hw' := hw'.symm; subst hw')
    | (go_at_call 65; refine HS.mono ?_; rintro e w2 ⟨rfl, hfr⟩
       have HR2 : Hid (Rep B w2 b 1 s ∧ Fr (foot b s) w w2) := ⟨HF.out.2.1.kept0 hfr, HF.out.2.2.1.trans hfr (by simp)⟩
       have c4 : w2.cell? ⟨b, 4, none⟩ = some (.slice (some ⟨gg, 0, none⟩) n cap) := by rw [← HN.out, ← HV.out]; exact HR2.out.1.cells.2.2.2.1
       have d2 : w2.cell? ⟨gg, j * 4 + 2, none⟩ = some (.int .i64 x.holds) := by
         have h1 := HR2.out.1.ss
         rw [HV.out, HN.out] at h1
         obtain ⟨g', e', _, hc⟩ := own_addr h1 (by omega)
         have : g' = gg := by simpa using e'.symm
         subst this
         rw [hc _ (by omega)]
         have h2 := (snC_get s.ss j (by rw [HN.out]; exact hj)).2.2.1
         rw [h2]
         have h3 := HF.out.2.2.2
         rw [List.getElem?_eq_getElem (by rw [HN.out]; exact hj)] at h3
         simp at h3
         rw [h3]
       clear hfr))
  refine leaves_cons (f := 24) (args := #[.pointer (some ⟨b, 0, none⟩)]) (by simp) (by simp [go_sem]) ?_
  refine (unlock_deferred Tryz.muLib ⟨b, 0, none⟩ .returning _ HR2.out.1.cells.1 (HR2.out.1.frozen 0)).mono ?_
  rintro e u' w'' ⟨rfl, rfl, rfl⟩
  exact ⟨_, results_tmp rfl _ _ _, rfl, HR2.out.1.lock 0, HR2.out.2.setCell _ (Or.inl (by simp [foot]))⟩

set_option maxHeartbeats 800000 in
theorem rsnap_arg (b : Nat) (t : Int) (w : World) (ht : t < 0 ∨ 1073741824 < t) :
    Calls Tryz.prog 30 #[.pointer (some ⟨b, 0, none⟩), .int .i64 t] w fun e w' => e = .returned (.tuple #[.int .i64 0, .int .i64 1]) ∧ w' = w := by
  by_cases h0 : t < 0
  · clear ht
    go_enter Tryz.func30, Tryz.ntmps30
    go_wp2
    go_ret2
    exact ⟨by first | rfl | trivial, by first | rfl | trivial⟩
  · have h1 : 1073741824 < t := by omega
    clear ht
    go_enter Tryz.func30, Tryz.ntmps30
    go_wp2
    go_ret2
    exact ⟨by first | rfl | trivial, by first | rfl | trivial⟩

set_option maxRecDepth 100000 in
set_option maxHeartbeats 1600000 in
theorem rsnap_full (B b : Nat) (s : RSto) (n t : Int) (w : World) (h : RRep B w b s) (ht : 0 ≤ t ∧ t ≤ 1073741824) (h1 : 1 ≤ s.id ∧ s.id ≤ 999) (h2 : 0 ≤ s.last ∧ s.last ≤ 999999) (hf : RNxt s n) (hs : s.sh.length ≤ 12) (hm : s.ms.length ≤ 12) (hfull : s.sh.length = 12 ∨ 999999 < n) :
    Calls Tryz.prog 30 #[.pointer (some ⟨b, 0, none⟩), .int .i64 t] w fun e w' => e = .returned (.tuple #[.int .i64 0, .int .i64 5]) ∧ w' = w := by
  obtain ⟨c0, _, _, c3, c36, _⟩ := h.cells
  have hlo := hf.lo
  have hhi := hf.hi
  have HH : Hid (∀ k, Calls Tryz.prog 64 #[.pointer (some ⟨b, 0, none⟩), .int .i64 (1000000 * s.id + k)] w fun e w' => e = .returned (.bool (RHs s (1000000 * s.id + k))) ∧ w' = w) := fun k => rhas_any B b s (1000000 * s.id + k) w h (by omega) (by omega)
  have HNX : Hid (RNxt s n) := hf
  obtain ⟨ao, cap, hsv⟩ := own_shape h.sh
  rw [hsv] at c36
  obtain ⟨m, hm'⟩ : ∃ m, s.sh.length = m := ⟨_, rfl⟩
  rw [hm'] at c36 hfull hs
  have p1 : IntKind.i64.wrap (s.last + 1) = s.last + 1 := wrap_fit ⟨by omega, by omega⟩
  have p2 : IntKind.i64.wrap (1000000 * s.id) = 1000000 * s.id := wrap_fit ⟨by omega, by omega⟩
  have t1 : decide (t < 0) = false := by simp; omega
  have t2 : decide (t > 1073741824) = false := by simp; omega
  have hfull' : (12 : Int) ≤ (m : Int) ∨ (999999 : Int) < n := by omega
  clear h hf hsv hm' hfull
  go_enter Tryz.func30, Tryz.ntmps30
  go_wp2
  go_loopw [6] (fun i wr => wr = w ∧ ∃ k : Int, (s.last < k ∧ k ≤ n) ∧ i = .int .i64 k) (fun i _ => (n - intOf i).toNat)
  case atStart => exact ⟨rfl, s.last + 1, ⟨by omega, by omega⟩, rfl⟩
  case round =>
    obtain ⟨rfl, k, ⟨hk1, hk2⟩, rfl⟩ := hrel
    have q3 : IntKind.i64.wrap (1000000 * s.id + k) = 1000000 * s.id + k := wrap_fit ⟨by omega, by omega⟩
    have q1 : IntKind.i64.wrap (k + 1) = k + 1 := wrap_fit ⟨by omega, by omega⟩
    by_cases hkn : k < n
    · have hb := HNX.out.no k hk1 hkn
      have HHk : Hid (Calls Tryz.prog 64 #[.pointer (some ⟨b, 0, none⟩), .int .i64 (1000000 * s.id + k)] wr fun e w' => e = .returned (.bool true) ∧ w' = wr) := by rw [← hb]; exact HH.out k
      clear hb HH hfull'
      go_wp2_with (first
        | (go_at_call 64; refine HHk.out.mono ?_; rintro e w' ⟨rfl, hw'⟩; have hw' := hw'.symm; subst hw'))
      go_roundw
      case rel => exact ⟨by first | rfl | trivial, k + 1, ⟨by omega, by omega⟩, rfl⟩
      case measure => simp [intOf]; omega
    · have hkn' : k = n := by omega
      subst hkn'
      have hb := HNX.out.yes
      have HHk : Hid (Calls Tryz.prog 64 #[.pointer (some ⟨b, 0, none⟩), .int .i64 (1000000 * s.id + k)] wr fun e w' => e = .returned (.bool false) ∧ w' = wr) := by rw [← hb]; exact HH.out k
      clear hb HH HNX
      by_cases h0 : (12 : Int) ≤ (m : Int)
      · clear hfull'
        go_wp2_with (first
          | (go_at_call 64; refine HHk.out.mono ?_; rintro e w' ⟨rfl, hw'⟩; have hw' := hw'.symm; subst hw'))
        go_ret2
        exact ⟨by first | rfl | trivial, by first | rfl | trivial⟩
      · have h0' : (999999 : Int) < k := by omega
        clear hfull'
        go_wp2_with (first
          | (go_at_call 64; refine HHk.out.mono ?_; rintro e w' ⟨rfl, hw'⟩; have hw' := hw'.symm; subst hw'))
        go_ret2
        exact ⟨by first | rfl | trivial, by first | rfl | trivial⟩
end Go.Proofs.YthdhegmlknpllaaGreat

/-
  Mark where nothing is laid in: it is marked already, no such snapshot, twelve marks: the program's (36), the reference's (37).
-/
namespace Go.Proofs.YthdhegmlknpllaaGreat
open Go.RowKit Go.Maps Go.MuLone

set_option maxHeartbeats 800000 in
theorem mark_was (B b : Nat) (s : Sto) (g : Int) (j : Nat) (w : World) (h : Rep B w b 0 s) (hl : s.ms.length ≤ 12) (hf : fi (fun y : Int × Int => y.1 == g) 0 s.ms = (j : Int)) :
    Calls Tryz.prog 42 #[.pointer (some ⟨b, 0, none⟩), .int .i64 g] w fun e w' => e = .returned (.int .i64 0) ∧ Rep B w' b 0 s ∧ Fr (foot b s) w w' := by
  have R1 := h.lock 1
  obtain ⟨w1, hw1⟩ : ∃ w1, w.setCell ⟨b, 0, none⟩ (.int .i32 1) = w1 := ⟨_, rfl⟩
  rw [hw1] at R1
  have HL := lock_free Tryz.muLib ⟨b, 0, none⟩ w h.cells.1 (h.frozen 0)
  have F1 : Fr (foot b s) w w1 := by rw [← hw1]; exact fr_lock b s w _
  have HF : Hid (w.setCell ⟨b, 0, none⟩ (.int .i32 1) = w1 ∧ Rep B w1 b 1 s ∧ Fr (foot b s) w w1) := ⟨hw1, R1, F1⟩
  have HM := findMark_any B b 1 s g w1 R1 (by omega)
  rw [hf] at HM
  have j0 : (0 : Int) ≤ (j : Int) := Int.natCast_nonneg _
  clear h hw1 R1 F1 hf
  go_enter_defers Tryz.func42, Tryz.ntmps42
  go_wp2_with (first
    | (go_at_call 23; refine HL.mono ?_; rintro e w' ⟨rfl, hw'⟩; rw [HF.out.1] at hw'; have hw' := hw'.symm; subst hw')
    | (go_at_call 69; refine HM.mono ?_; rintro e w2 ⟨rfl, hfr⟩
       have HR2 : Hid (Rep B w2 b 1 s ∧ Fr (foot b s) w w2) := ⟨HF.out.2.1.kept0 hfr, HF.out.2.2.trans hfr (by simp)⟩
       clear hfr))
  refine leaves_cons (f := 24) (args := #[.pointer (some ⟨b, 0, none⟩)]) (by simp) (by simp [go_sem]) ?_
  refine (unlock_deferred Tryz.muLib ⟨b, 0, none⟩ .returning _ HR2.out.1.cells.1 (HR2.out.1.frozen 0)).mono ?_
  rintro e u' w'' ⟨rfl, rfl, rfl⟩
  exact ⟨_, results_tmp rfl _ _ _, rfl, HR2.out.1.lock 0, HR2.out.2.setCell _ (Or.inl (by simp [foot]))⟩

set_option maxHeartbeats 800000 in
theorem mark_none (B b : Nat) (s : Sto) (g : Int) (w : World) (h : Rep B w b 0 s) (hl : s.ms.length ≤ 12) (hs : s.ss.length ≤ 12) (hf : fi (fun y : Int × Int => y.1 == g) 0 s.ms = -1) (hg : fi (fun y : Sn => y.guid == g) 0 s.ss = -1) :
    Calls Tryz.prog 42 #[.pointer (some ⟨b, 0, none⟩), .int .i64 g] w fun e w' => e = .returned (.int .i64 3) ∧ Rep B w' b 0 s ∧ Fr (foot b s) w w' := by
  have R1 := h.lock 1
  obtain ⟨w1, hw1⟩ : ∃ w1, w.setCell ⟨b, 0, none⟩ (.int .i32 1) = w1 := ⟨_, rfl⟩
  rw [hw1] at R1
  have HL := lock_free Tryz.muLib ⟨b, 0, none⟩ w h.cells.1 (h.frozen 0)
  have F1 : Fr (foot b s) w w1 := by rw [← hw1]; exact fr_lock b s w _
  have HF : Hid (w.setCell ⟨b, 0, none⟩ (.int .i32 1) = w1 ∧ Rep B w1 b 1 s ∧ Fr (foot b s) w w1) := ⟨hw1, R1, F1⟩
  have HM := findMark_any B b 1 s g w1 R1 (by omega)
  rw [hf] at HM
  have HS : Hid (∀ W, Rep B W b 1 s → Calls Tryz.prog 65 #[.pointer (some ⟨b, 0, none⟩), .int .i64 g] W fun e w' => e = .returned (.int .i64 (-1)) ∧ Fr [] W w') := fun W hW => by
    have := findSnapshot_any B b 1 s g W hW (by omega)
    rw [hg] at this
    exact this
  clear h hw1 R1 F1 hf hg
  go_enter_defers Tryz.func42, Tryz.ntmps42
  go_wp2_with (first
    | (go_at_call 23; refine HL.mono ?_; rintro e w' ⟨rfl, hw'⟩; rw [HF.out.1] at hw'; have hw' := hw'.symm; subst hw')
    | (go_at_call 69; refine HM.mono ?_; rintro e w2 ⟨rfl, hfr⟩
       have HR2 : Hid (Rep B w2 b 1 s ∧ Fr (foot b s) w w2) := ⟨HF.out.2.1.kept0 hfr, HF.out.2.2.trans hfr (by simp)⟩
       clear hfr)
    | (go_at_call 65; refine (HS.out _ HR2.out.1).mono ?_; rintro e w3 ⟨rfl, hfr⟩
       have HR3 : Hid (Rep B w3 b 1 s ∧ Fr (foot b s) w w3) := ⟨HR2.out.1.kept0 hfr, HR2.out.2.trans hfr (by simp)⟩
       clear hfr))
  refine leaves_cons (f := 24) (args := #[.pointer (some ⟨b, 0, none⟩)]) (by simp) (by simp [go_sem]) ?_
  refine (unlock_deferred Tryz.muLib ⟨b, 0, none⟩ .returning _ HR3.out.1.cells.1 (HR3.out.1.frozen 0)).mono ?_
  rintro e u' w'' ⟨rfl, rfl, rfl⟩
  exact ⟨_, results_tmp rfl _ _ _, rfl, HR3.out.1.lock 0, HR3.out.2.setCell _ (Or.inl (by simp [foot]))⟩

set_option maxHeartbeats 800000 in
theorem mark_full (B b : Nat) (s : Sto) (g : Int) (j : Nat) (w : World) (h : Rep B w b 0 s) (hl : s.ms.length = 12) (hs : s.ss.length ≤ 12) (hf : fi (fun y : Int × Int => y.1 == g) 0 s.ms = -1) (hg : fi (fun y : Sn => y.guid == g) 0 s.ss = (j : Int)) :
    Calls Tryz.prog 42 #[.pointer (some ⟨b, 0, none⟩), .int .i64 g] w fun e w' => e = .returned (.int .i64 5) ∧ Rep B w' b 0 s ∧ Fr (foot b s) w w' := by
  have R1 := h.lock 1
  obtain ⟨w1, hw1⟩ : ∃ w1, w.setCell ⟨b, 0, none⟩ (.int .i32 1) = w1 := ⟨_, rfl⟩
  rw [hw1] at R1
  have HL := lock_free Tryz.muLib ⟨b, 0, none⟩ w h.cells.1 (h.frozen 0)
  have F1 : Fr (foot b s) w w1 := by rw [← hw1]; exact fr_lock b s w _
  have HF : Hid (w.setCell ⟨b, 0, none⟩ (.int .i32 1) = w1 ∧ Rep B w1 b 1 s ∧ Fr (foot b s) w w1) := ⟨hw1, R1, F1⟩
  have HM := findMark_any B b 1 s g w1 R1 (by omega)
  rw [hf] at HM
  have HS : Hid (∀ W, Rep B W b 1 s → Calls Tryz.prog 65 #[.pointer (some ⟨b, 0, none⟩), .int .i64 g] W fun e w' => e = .returned (.int .i64 j) ∧ Fr [] W w') := fun W hW => by
    have := findSnapshot_any B b 1 s g W hW (by omega)
    rw [hg] at this
    exact this
  obtain ⟨ao, cap, hmv⟩ := own_shape h.ms
  rw [hl] at hmv
  have HV : Hid (s.mv = .slice ao 12 cap) := hmv
  have j0 : ¬ ((j : Int) < 0) := by omega
  clear h hw1 R1 F1 hf hg hmv
  go_enter_defers Tryz.func42, Tryz.ntmps42
  go_wp2_with (first
    | (go_at_call 23; refine HL.mono ?_; rintro e w' ⟨rfl, hw'⟩; rw [HF.out.1] at hw'; have hw' := hw'.symm; subst hw')
    | (go_at_call 69; refine HM.mono ?_; rintro e w2 ⟨rfl, hfr⟩
       have HR2 : Hid (Rep B w2 b 1 s ∧ Fr (foot b s) w w2) := ⟨HF.out.2.1.kept0 hfr, HF.out.2.2.trans hfr (by simp)⟩
       clear hfr)
    | (go_at_call 65; refine (HS.out _ HR2.out.1).mono ?_; rintro e w3 ⟨rfl, hfr⟩
       have HR3 : Hid (Rep B w3 b 1 s ∧ Fr (foot b s) w w3) := ⟨HR2.out.1.kept0 hfr, HR2.out.2.trans hfr (by simp)⟩
       have c6 : w3.cell? ⟨b, 6, none⟩ = some (.slice ao 12 cap) := by rw [← HV.out]; exact HR3.out.1.cells.2.2.2.2.2.1
       clear hfr))
  refine leaves_cons (f := 24) (args := #[.pointer (some ⟨b, 0, none⟩)]) (by simp) (by simp [go_sem]) ?_
  refine (unlock_deferred Tryz.muLib ⟨b, 0, none⟩ .returning _ HR3.out.1.cells.1 (HR3.out.1.frozen 0)).mono ?_
  rintro e u' w'' ⟨rfl, rfl, rfl⟩
  exact ⟨_, results_tmp rfl _ _ _, rfl, HR3.out.1.lock 0, HR3.out.2.setCell _ (Or.inl (by simp [foot]))⟩

set_option maxHeartbeats 800000 in
theorem rmark_was (B b : Nat) (s : RSto) (g : Int) (j : Nat) (w : World) (h : RRep B w b s) (hl : s.ms.length ≤ 12) (hs : s.sh.length ≤ 12) (hf : fi (fun y : Int × Int => y.1 == g) 0 s.ms = (j : Int)) :
    Calls Tryz.prog 43 #[.pointer (some ⟨b, 0, none⟩), .int .i64 g] w fun e w' => e = .returned (.int .i64 0) ∧ w' = w := by
  have HM := rmark_any B b s g w h (by omega)
  have HS := rshot_any B b s g w h (by omega)
  rw [hf] at HM
  generalize fi (fun y : RSh => y.guid == g) 0 s.sh = i at HS
  have j0 : (0 : Int) ≤ (j : Int) := Int.natCast_nonneg _
  clear h hf
  go_enter Tryz.func43, Tryz.ntmps43
  go_wp2_with (first
    | (go_at_call 66; refine HS.mono ?_; rintro e w' ⟨rfl, hw'⟩; have hw' := hw'.symm; subst hw')
    | (go_at_call 72; refine HM.mono ?_; rintro e w' ⟨rfl, hw'⟩; have hw' := hw'.symm; subst hw'))
  go_ret
  exact ⟨rfl, rfl⟩

set_option maxHeartbeats 800000 in
theorem rmark_none (B b : Nat) (s : RSto) (g : Int) (w : World) (h : RRep B w b s) (hl : s.ms.length ≤ 12) (hs : s.sh.length ≤ 12) (hf : fi (fun y : Int × Int => y.1 == g) 0 s.ms = -1) (hg : fi (fun y : RSh => y.guid == g) 0 s.sh = -1) :
    Calls Tryz.prog 43 #[.pointer (some ⟨b, 0, none⟩), .int .i64 g] w fun e w' => e = .returned (.int .i64 3) ∧ w' = w := by
  have HM := rmark_any B b s g w h (by omega)
  have HS := rshot_any B b s g w h (by omega)
  rw [hf] at HM
  rw [hg] at HS
  clear h hf hg
  go_enter Tryz.func43, Tryz.ntmps43
  go_wp2_with (first
    | (go_at_call 66; refine HS.mono ?_; rintro e w' ⟨rfl, hw'⟩; have hw' := hw'.symm; subst hw')
    | (go_at_call 72; refine HM.mono ?_; rintro e w' ⟨rfl, hw'⟩; have hw' := hw'.symm; subst hw'))
  go_ret
  exact ⟨rfl, rfl⟩

set_option maxHeartbeats 800000 in
theorem rmark_full (B b : Nat) (s : RSto) (g : Int) (j : Nat) (w : World) (h : RRep B w b s) (hl : s.ms.length = 12) (hs : s.sh.length ≤ 12) (hf : fi (fun y : Int × Int => y.1 == g) 0 s.ms = -1) (hg : fi (fun y : RSh => y.guid == g) 0 s.sh = (j : Int)) :
    Calls Tryz.prog 43 #[.pointer (some ⟨b, 0, none⟩), .int .i64 g] w fun e w' => e = .returned (.int .i64 5) ∧ w' = w := by
  have HM := rmark_any B b s g w h (by omega)
  have HS := rshot_any B b s g w h (by omega)
  rw [hf] at HM
  rw [hg] at HS
  obtain ⟨ao, cap, hmv⟩ := own_shape h.ms
  rw [hl] at hmv
  have c37 : w.cell? ⟨b, 37, none⟩ = some (.slice ao 12 cap) := by rw [← hmv]; exact h.cells.2.2.2.2.2
  have j0 : ¬ ((j : Int) < 0) := by omega
  clear h hf hg hmv
  go_enter Tryz.func43, Tryz.ntmps43
  go_wp2_with (first
    | (go_at_call 66; refine HS.mono ?_; rintro e w' ⟨rfl, hw'⟩; have hw' := hw'.symm; subst hw')
    | (go_at_call 72; refine HM.mono ?_; rintro e w' ⟨rfl, hw'⟩; have hw' := hw'.symm; subst hw'))
  go_ret
  exact ⟨rfl, rfl⟩
end Go.Proofs.YthdhegmlknpllaaGreat

/-
  The reference's Mark (37): where the new mark stands among the others.
-/
namespace Go.Proofs.YthdhegmlknpllaaGreat
open Go.RowKit Go.Maps Go.MuLone

/-- How many marks stand ahead of one that came at c. -/
def ahead (c : Int) (ms : List (Int × Int)) : Nat := (ms.takeWhile (fun y => decide (y.2 < c))).length
def insM (m : Int × Int) (ms : List (Int × Int)) : List (Int × Int) := ms.take (ahead m.2 ms) ++ m :: ms.drop (ahead m.2 ms)

theorem ahead_cons (c : Int) (y : Int × Int) (r : List (Int × Int)) : ahead c (y :: r) = if y.2 < c then ahead c r + 1 else 0 := by
  unfold ahead
  by_cases h : y.2 < c <;> simp [h]
theorem ahead_le (c : Int) : ∀ (l : List (Int × Int)), ahead c l ≤ l.length
  | [] => by simp [ahead]
  | y :: r => by
    have := ahead_le c r
    rw [ahead_cons]
    split <;> simp <;> omega
theorem ahead_step (c : Int) : ∀ (l : List (Int × Int)) (k : Nat) (h : k < l.length), k ≤ ahead c l → l[k].2 < c → k + 1 ≤ ahead c l
  | y :: r, 0, _, _, hc => by
    have hc' : y.2 < c := hc
    rw [ahead_cons, if_pos hc']
    omega
  | y :: r, k + 1, h, hk, hc => by
    rw [ahead_cons] at hk ⊢
    split at hk
    · have := ahead_step c r k (by simpa using h) (by omega) (by simpa using hc)
      rw [if_pos (by assumption)]
      omega
    · omega
theorem ahead_stop (c : Int) : ∀ (l : List (Int × Int)) (k : Nat) (h : k < l.length), k ≤ ahead c l → ¬ l[k].2 < c → ahead c l = k
  | y :: r, 0, _, _, hc => by
    have hc' : ¬ y.2 < c := hc
    rw [ahead_cons, if_neg hc']
  | y :: r, k + 1, h, hk, hc => by
    rw [ahead_cons] at hk ⊢
    split at hk
    · rw [if_pos (by assumption), ahead_stop c r k (by simpa using h) (by omega) (by simpa using hc)]
    · omega
theorem ahead_all (c : Int) (l : List (Int × Int)) (h : l.length ≤ ahead c l) : ahead c l = l.length := by
  have := ahead_le c l
  omega
theorem insM_length (m : Int × Int) (l : List (Int × Int)) : (insM m l).length = l.length + 1 := by
  have := ahead_le m.2 l
  simp [insM]
  omega
theorem mkC_insM (m : Int × Int) (l : List (Int × Int)) : mkC (insM m l) = mkC (l.take (ahead m.2 l)) ++ mkCells m ++ mkC (l.drop (ahead m.2 l)) := by simp [mkC, insM]
end Go.Proofs.YthdhegmlknpllaaGreat

/-
  The reference's Mark (37): the walk.
-/
namespace Go.Proofs.YthdhegmlknpllaaGreat
open Go.RowKit Go.Maps Go.MuLone

theorem Fr.drewQ {F : List Nat} {w w1 : World} (h : Fr F w w1) (n : Nat) : Fr F w (w1.drewN n) := ⟨h.os, h.tape, h.output, h.size, h.block⟩

theorem rmark_fin {B b n k : Nat} {w w4 w7 : World} {s : RSto} {g cm : Int} {mv : Value} (h : RRep B w b s) (f4 : Fr [] w w4) (f7 : Fr [] w4 w7) (hn : s.ms.length = n) (ha : ahead cm s.ms = k) (ho : w7.ownsRow w4.heap.size 129 2 mv (n + 1) (mkC (s.ms.take k) ++ [.int .i64 g, .int .i64 cm] ++ mkC (s.ms.drop k))) :
    ∃ mv', RRep B (w7.setCell ⟨b, 37, none⟩ mv) b (s.setM (insM (g, cm) s.ms) mv') ∧ Fr (rfoot b s) w (w7.setCell ⟨b, 37, none⟩ mv) ∧ (∀ k, mv'.ownBlock = some k → w.heap.size ≤ k) := by
  have f := f4.trans f7 (by simp)
  have hBw : B ≤ w.heap.size := by have := h.hb; have := (h.lt b (by simp [rfoot])).2; omega
  have e : mkC (s.ms.take k) ++ [.int .i64 g, .int .i64 cm] ++ mkC (s.ms.drop k) = mkC (insM (g, cm) s.ms) := by rw [mkC_insM, ← ha]; rfl
  rw [e] at ho
  refine ⟨mv, (h.kept0 f).setM ?_, (f.mono (by simp)).setCell _ (Or.inl (by simp [rfoot])), fun k hk => Nat.le_trans f4.size (own_tag ho hk).1⟩
  rw [insM_length, hn]
  exact ⟨ho.1, ho.2.imp id fun ⟨g, cap, cur, e, hb, r⟩ => ⟨g, cap, cur, e, Nat.le_trans (Nat.le_trans hBw f4.size) hb, r⟩⟩

set_option maxRecDepth 100000 in
set_option maxHeartbeats 1600000 in
/-- A mark that goes in ahead of another. -/
theorem rmark_mid (B b : Nat) (s : RSto) (g : Int) (j : Nat) (x : RSh) (w : World) (h : RRep B w b s) (hl : s.ms.length < 12) (hs : s.sh.length ≤ 12) (hf : fi (fun y : Int × Int => y.1 == g) 0 s.ms = -1) (hg : fi (fun y : RSh => y.guid == g) 0 s.sh = (j : Int)) (hx : s.sh[j]? = some x) (ha : ahead x.came s.ms < s.ms.length) :
    Calls Tryz.prog 43 #[.pointer (some ⟨b, 0, none⟩), .int .i64 g] w fun e w' => e = .returned (.int .i64 0) ∧ ∃ mv, RRep B w' b (s.setM (insM (g, x.came) s.ms) mv) ∧ Fr (rfoot b s) w w' ∧ (∀ k, mv.ownBlock = some k → w.heap.size ≤ k) := by
  obtain ⟨i0, i0h, hz0, hz1, hz2⟩ := info_parts info120
  have hj : j < s.sh.length := (List.getElem?_eq_some_iff.1 hx).1
  have HM := rmark_any B b s g w h (by omega)
  have HS := rshot_any B b s g w h (by omega)
  rw [hf] at HM
  rw [hg] at HS
  obtain ⟨ao, cap, hsv⟩ := own_shape h.sh
  have ho := h.sh
  rw [hsv] at ho
  obtain ⟨sg, hsg, hcap, hcc⟩ := own_addr ho (by omega)
  subst hsg
  have c36 : w.cell? ⟨b, 36, none⟩ = some (.slice (some ⟨sg, 0, none⟩) s.sh.length cap) := by rw [← hsv]; exact h.cells.2.2.2.2.1
  obtain ⟨cm, hcm⟩ : ∃ cm, x.came = cm := ⟨_, rfl⟩
  have d3 : w.cell? ⟨sg, j * 36 + 3, none⟩ = some (.int .i64 cm) := by
    rw [h.shotC hsv j hj 3 (by omega)]
    rw [List.getElem?_eq_getElem hj] at hx
    have : s.sh[j] = x := by simpa using hx
    rw [this, ← hcm]
    rfl
  rw [hcm] at ha ⊢
  obtain ⟨mo, mcap, hmv⟩ := own_shape h.ms
  have c37 : w.cell? ⟨b, 37, none⟩ = some (.slice mo s.ms.length mcap) := by rw [← hmv]; exact h.cells.2.2.2.2.2
  obtain ⟨n, hn⟩ : ∃ n, s.ms.length = n := ⟨_, rfl⟩
  have HO : Hid (RRep B w b s ∧ s.mv = .slice mo n mcap ∧ s.ms.length = n ∧ ahead cm s.ms < n ∧ Tryz.prog.info? 129 = some i0) := ⟨h, by rw [hmv, hn], hn, by rw [← hn]; exact ha, i0h⟩
  obtain ⟨m, hm⟩ : ∃ m, s.sh.length = m := ⟨_, rfl⟩
  rw [hn] at c37 hl
  rw [hm] at c36 hcap hj hs
  have j0 : ¬ ((j : Int) < 0) := by omega
  have hjm : (j : Int) < (m : Int) := by omega
  have n12 : ¬ ((12 : Int) ≤ (n : Int)) := by omega
  obtain ⟨w1, hw1⟩ : ∃ w1, w.alloc (.cells #[.int .i64 g, .int .i64 cm] 129) = w1 := ⟨_, rfl⟩
  obtain ⟨mb, hmb⟩ : ∃ mb, w.heap.size = mb := ⟨_, rfl⟩
  have HW : Hid (Fr [] w w1 ∧ w1.heap[mb]? = some (.cells #[.int .i64 g, .int .i64 cm] 129 (0, 0)) ∧ 0 ≤ ahead cm s.ms) := ⟨by rw [← hw1]; exact (Fr.refl _ _).alloc _, by rw [← hw1, ← hmb]; exact heap_alloc_new w _, Nat.zero_le _⟩
  have HMB : Hid (w.heap.size = mb) := hmb
  clear h hf hg hx ho hsv hcc hmv hn hm hcm i0h ha
  go_enter Tryz.func43, Tryz.ntmps43
  go_wp2_with (first
    | (go_at_call 66; refine HS.mono ?_; rintro e w' ⟨rfl, hw'⟩; have hw' := hw'.symm; subst hw')
    | (go_at_call 72; refine HM.mono ?_; rintro e w' ⟨rfl, hw'⟩; have hw' := hw'.symm; subst hw'))
  clear hw1 hmb HS HM c36 d3 c37
  go_loopw [8] (fun i wr => ∃ k : Nat, k ≤ n ∧ i = .int .i64 k ∧ Hid (Fr [] w wr ∧ wr.heap[mb]? = some (.cells #[.int .i64 g, .int .i64 cm] 129 (0, 0)) ∧ k ≤ ahead cm s.ms)) (fun i _ => n - (intOf i).toNat)
  case atStart => exact ⟨0, Nat.zero_le _, rfl, HW⟩
  case round =>
    obtain ⟨k, hk, rfl, HK⟩ := hrel
    obtain ⟨W3, hW3⟩ : ∃ W3, W3 = wr := ⟨_, rfl⟩
    subst hW3
    clear HW
    have R3 := HO.out.1.kept0 HK.out.1
    have e37 : ∀ q, (W3.drewN q).cell? ⟨b, 37, none⟩ = some (.slice mo n mcap) := fun q => by have := R3.cells.2.2.2.2.2; rw [HO.out.2.1] at this; exact this
    have em : ∀ q, (W3.drewN q).cell? ⟨mb, 1, none⟩ = some (.int .i64 cm) := fun q => by
      show W3.cell? ⟨mb, 1, none⟩ = _
      rw [cell_of HK.out.2.1]; rfl
    by_cases hlt : k < n
    · have hlt' : k < s.ms.length := by rw [HO.out.2.2.1]; exact hlt
      have ho := R3.ms
      rw [HO.out.2.1, HO.out.2.2.1] at ho
      obtain ⟨gg, hgg, hgc, hcc⟩ := own_addr ho (by omega)
      subst hgg
      obtain ⟨y, hy⟩ : ∃ y, s.ms[k].2 = y := ⟨_, rfl⟩
      have ed : ∀ q, (W3.drewN q).cell? ⟨gg, k * 2 + 1, none⟩ = some (.int .i64 y) := fun q => by
        show W3.cell? ⟨gg, k * 2 + 1, none⟩ = _
        rw [hcc _ (by omega), (mkC_get s.ms k hlt').2, hy]
      have g1 : (k : Int) < (n : Int) := by omega
      have g0 : decide ((k : Int) < (n : Int)) = true := by simpa using g1
      have HCC : Hid (∀ t, t < n * 2 → W3.cell? ⟨gg, t, none⟩ = (mkC s.ms)[t]?) := hcc
      clear ho hcc R3
      by_cases hc : y < cm
      · have hdec : decide (y < cm) = true := by simpa using hc
        have HK8 : Hid (∀ q, Fr [] w (W3.drewN q) ∧ (W3.drewN q).heap[mb]? = some (.cells #[.int .i64 g, .int .i64 cm] 129 (0, 0)) ∧ k + 1 ≤ ahead cm s.ms) := fun q => ⟨HK.out.1.drewQ q, HK.out.2.1, ahead_step cm s.ms k hlt' HK.out.2.2 (by rw [hy]; exact hc)⟩
        clear HK hy
        go_wp2
        go_quiet (fail)
        go_wp2
        go_roundw
        case rel => exact ⟨k + 1, by omega, by go_num, HK8.out _⟩
        case measure => simp [intOf]; omega
      · have hdec : decide (y < cm) = false := by simpa using hc
        have HA : Hid (ahead cm s.ms = k) := ahead_stop cm s.ms k hlt' HK.out.2.2 (by rw [hy]; exact hc)
        clear hy
        go_wp2
        go_quiet (fail)
        have em0 : W3.cell? ⟨mb, 0, none⟩ = some (.int .i64 g) := by rw [cell_of HK.out.2.1]; rfl
        have H4 : Hid (Fr [] w (W3.drewN nq) ∧ (∀ t, t < n * 2 → (W3.drewN nq).cell? ⟨gg, t, none⟩ = (mkC s.ms)[t]?)) := ⟨HK.out.1.drewQ nq, HCC.out⟩
        have f37 := e37 nq
        have fm0 : (W3.drewN nq).cell? ⟨mb, 0, none⟩ = some (.int .i64 g) := em0
        have fm1 := em nq
        generalize W3.drewN nq = W4 at H4 f37 fm0 fm1 ⊢
        have i1 : (k : Int) ≤ (n : Int) := by omega
        have i2 : (k : Int) ≤ (mcap : Int) := by omega
        have i5 : (n : Int) ≤ (mcap : Int) := by omega
        have i6 : ¬ mcap = k := by omega
        have i7 : 0 ≤ (k : Int) := Int.natCast_nonneg _
        have hi := HO.out.2.2.2.2
        clear e37 em ed HK HCC em0
        go_wp2_with (first
          | (at_builtin; refine wpList_append_own _ rfl _ _ 84 rfl W4.heap.size 129 i0 _ 2 16 Tryz.underlying84 hi hz0 hz1 hz2 rfl (by omega) (.slice none 0 0) 0 [] rfl (World.ownsRow_nil _ _ _ _) ⟨gg, 0, none⟩ k mcap (mkC (s.ms.take k)) rfl (by rw [mkC_len, List.length_take, HO.out.2.2.1, Nat.min_eq_left (by omega)]) (fun t u hu => by
               rw [Addr.add_lit, Nat.zero_add, ← mkC_take] at *
               have ht : t < k * 2 := by
                 have := (List.getElem?_eq_some_iff.1 hu).1
                 rw [List.length_take] at this
                 omega
               rw [List.getElem?_take_of_lt ht] at hu
               rw [H4.out.2 t (by omega)]
               exact hu) mk_one (by unfold maxLen; omega) (by omega) (Nat.le_refl _) ?_; intro v5 w5 hown5 hgrow5 _
             rw [Nat.zero_add, List.nil_append] at hown5
             have H5 : Hid (w5.ownsRow W4.heap.size 129 2 v5 k (mkC (s.ms.take k)) ∧ Fr [] W4 w5) := ⟨hown5, (Fr.refl _ _).grown hgrow5 (fun x hx => by simp [Value.ownBlock] at hx)⟩
             have f37' : w5.cell? ⟨b, 37, none⟩ = some (.slice (some ⟨gg, 0, none⟩) n mcap) := H5.out.2.gb.cell f37 (by simp)
             have fm0' : w5.cell? ⟨mb, 0, none⟩ = some (.int .i64 g) := H5.out.2.gb.cell fm0 (by simp)
             have fm1' : w5.cell? ⟨mb, 1, none⟩ = some (.int .i64 cm) := H5.out.2.gb.cell fm1 (by simp)
             obtain ⟨ao5, c5, e5⟩ := own_shape H5.out.1
             subst e5
             clear hown5 hgrow5)
          | (at_builtin; refine wpList_append_own _ rfl _ _ 84 rfl W4.heap.size 129 i0 _ 2 16 Tryz.underlying84 hi hz0 hz1 hz2 rfl (by omega) (.slice ao5 k c5) k _ rfl (H5.out.1.alloc _) ⟨w5.heap.size, 0, none⟩ 1 1 [.int .i64 g, .int .i64 cm] rfl rfl (World.news_of_block (cs := #[.int .i64 g, .int .i64 cm]) (t := 129) (fr := (0, 0)) (heap_alloc_new w5 _)) (by simp [Value.oneCell']) (by unfold maxLen; omega) (by omega) (by have := H5.out.2.size; simp; omega) ?_; intro v6 w6 hown6 hgrow6 _
             have H6 : Hid (w6.ownsRow W4.heap.size 129 2 v6 (k + 1) (mkC (s.ms.take k) ++ [.int .i64 g, .int .i64 cm]) ∧ Fr [] W4 w6) := ⟨hown6, (H5.out.2.alloc _).grown hgrow6 (fun k hk => Or.inr (own_tag H5.out.1 hk).1)⟩
             have f37'' : w6.cell? ⟨b, 37, none⟩ = some (.slice (some ⟨gg, 0, none⟩) n mcap) := H6.out.2.gb.cell f37 (by simp)
             obtain ⟨ao6, c6, e6⟩ := own_shape H6.out.1
             subst e6
             clear hown6 hgrow6)
          | (at_builtin; refine wpList_append_own _ rfl _ _ 84 rfl W4.heap.size 129 i0 _ 2 16 Tryz.underlying84 hi hz0 hz1 hz2 rfl (by omega) (.slice ao6 (k + 1) c6) (k + 1) _ rfl H6.out.1 ⟨gg, k * 2, none⟩ (n - k) (mcap - k) (mkC (s.ms.drop k)) rfl (by rw [mkC_len, List.length_drop, HO.out.2.2.1]) (fun t u hu => by
               rw [Addr.add_lit]
               have ht : t < (n - k) * 2 := by
                 have := (List.getElem?_eq_some_iff.1 hu).1
                 rw [mkC_len, List.length_drop, HO.out.2.2.1] at this
                 exact this
               rw [← mkC_drop, List.getElem?_drop, ← H4.out.2 _ (by omega)] at hu
               exact H6.out.2.gb.cell hu (by simp)) mk_one (by unfold maxLen; omega) (by omega) H6.out.2.size ?_; intro v7 w7 hown7 hgrow7 _
             rw [show k + 1 + (n - k) = n + 1 by omega] at hown7
             have H7 : Hid (w7.ownsRow W4.heap.size 129 2 v7 (n + 1) (mkC (s.ms.take k) ++ [.int .i64 g, .int .i64 cm] ++ mkC (s.ms.drop k)) ∧ Fr [] W4 w7) := ⟨hown7, H6.out.2.grown hgrow7 (fun k hk => Or.inr (own_tag H6.out.1 hk).1)⟩
             have f37c : w7.cell? ⟨b, 37, none⟩ = some (.slice (some ⟨gg, 0, none⟩) n mcap) := H7.out.2.gb.cell f37 (by simp)
             have fz : w7.frozen? ⟨b, 37, none⟩ = false := (HO.out.1.kept0 (H4.out.1.trans H7.out.2 (by simp))).frozen 37
             obtain ⟨ao7, c7, e7⟩ := own_shape H7.out.1
             subst e7
             clear hown7 hgrow7))
        go_ret
        exact ⟨rfl, rmark_fin HO.out.1 H4.out.1 H7.out.2 HO.out.2.2.1 HA.out H7.out.1⟩
    · have hkk : k = n := by omega
      exact absurd HK.out.2.2 (by have := HO.out.2.2.2.1; omega)
end Go.Proofs.YthdhegmlknpllaaGreat
