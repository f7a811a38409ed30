/-
  Mark where nothing is laid in: it is marked already, no such snapshot, twelve marks: the program's (36), the reference's (37).
-/
import Derived.Test.YthdhegmlknpllaaGreatErs
namespace Go.Proofs.YthdhegmlknpllaaGreat
open Go.RowKit Go.Maps Go.MuLone

set_option maxHeartbeats 800000 in
theorem mark_was (B b : Nat) (s : Sto) (g : Int) (j : Nat) (w : World) (h : Rep B w b 0 s) (hl : s.ms.length ≤ 12) (hf : fi (fun y : Int × Int => y.1 == g) 0 s.ms = (j : Int)) :
    Calls Tryz.prog 42 #[.pointer (some ⟨b, 0, none⟩), .int .i64 g] w fun e w' => e = .returned (.int .i64 0) ∧ Rep B w' b 0 s ∧ Fr (foot b s) w w' := by
  have R1 := h.lock 1
  obtain ⟨w1, hw1⟩ : ∃ w1, w.setCell ⟨b, 0, none⟩ (.int .i32 1) = w1 := ⟨_, rfl⟩
  rw [hw1] at R1
  have HL := lock_free Tryz.muLib ⟨b, 0, none⟩ w h.cells.1 (h.frozen 0)
  have F1 : Fr (foot b s) w w1 := by rw [← hw1]; exact fr_lock b s w _
  have HF : Hid (w.setCell ⟨b, 0, none⟩ (.int .i32 1) = w1 ∧ Rep B w1 b 1 s ∧ Fr (foot b s) w w1) := ⟨hw1, R1, F1⟩
  have HM := findMark_any B b 1 s g w1 R1 (by omega)
  rw [hf] at HM
  have j0 : (0 : Int) ≤ (j : Int) := Int.natCast_nonneg _
  clear h hw1 R1 F1 hf
  go_enter_defers Tryz.func42, Tryz.ntmps42
  go_wp2_with (first
    | (go_at_call 23; refine HL.mono ?_; rintro e w' ⟨rfl, hw'⟩; rw [HF.out.1] at hw'; have hw' := hw'.symm; subst hw')
    | (go_at_call 69; refine HM.mono ?_; rintro e w2 ⟨rfl, hfr⟩
       have HR2 : Hid (Rep B w2 b 1 s ∧ Fr (foot b s) w w2) := ⟨HF.out.2.1.kept0 hfr, HF.out.2.2.trans hfr (by simp)⟩
       clear hfr))
  refine leaves_cons (f := 24) (args := #[.pointer (some ⟨b, 0, none⟩)]) (by simp) (by simp [go_sem]) ?_
  refine (unlock_deferred Tryz.muLib ⟨b, 0, none⟩ .returning _ HR2.out.1.cells.1 (HR2.out.1.frozen 0)).mono ?_
  rintro e u' w'' ⟨rfl, rfl, rfl⟩
  exact ⟨_, results_tmp rfl _ _ _, rfl, HR2.out.1.lock 0, HR2.out.2.setCell _ (Or.inl (by simp [foot]))⟩

set_option maxHeartbeats 800000 in
theorem mark_none (B b : Nat) (s : Sto) (g : Int) (w : World) (h : Rep B w b 0 s) (hl : s.ms.length ≤ 12) (hs : s.ss.length ≤ 12) (hf : fi (fun y : Int × Int => y.1 == g) 0 s.ms = -1) (hg : fi (fun y : Sn => y.guid == g) 0 s.ss = -1) :
    Calls Tryz.prog 42 #[.pointer (some ⟨b, 0, none⟩), .int .i64 g] w fun e w' => e = .returned (.int .i64 3) ∧ Rep B w' b 0 s ∧ Fr (foot b s) w w' := by
  have R1 := h.lock 1
  obtain ⟨w1, hw1⟩ : ∃ w1, w.setCell ⟨b, 0, none⟩ (.int .i32 1) = w1 := ⟨_, rfl⟩
  rw [hw1] at R1
  have HL := lock_free Tryz.muLib ⟨b, 0, none⟩ w h.cells.1 (h.frozen 0)
  have F1 : Fr (foot b s) w w1 := by rw [← hw1]; exact fr_lock b s w _
  have HF : Hid (w.setCell ⟨b, 0, none⟩ (.int .i32 1) = w1 ∧ Rep B w1 b 1 s ∧ Fr (foot b s) w w1) := ⟨hw1, R1, F1⟩
  have HM := findMark_any B b 1 s g w1 R1 (by omega)
  rw [hf] at HM
  have HS : Hid (∀ W, Rep B W b 1 s → Calls Tryz.prog 65 #[.pointer (some ⟨b, 0, none⟩), .int .i64 g] W fun e w' => e = .returned (.int .i64 (-1)) ∧ Fr [] W w') := fun W hW => by
    have := findSnapshot_any B b 1 s g W hW (by omega)
    rw [hg] at this
    exact this
  clear h hw1 R1 F1 hf hg
  go_enter_defers Tryz.func42, Tryz.ntmps42
  go_wp2_with (first
    | (go_at_call 23; refine HL.mono ?_; rintro e w' ⟨rfl, hw'⟩; rw [HF.out.1] at hw'; have hw' := hw'.symm; subst hw')
    | (go_at_call 69; refine HM.mono ?_; rintro e w2 ⟨rfl, hfr⟩
       have HR2 : Hid (Rep B w2 b 1 s ∧ Fr (foot b s) w w2) := ⟨HF.out.2.1.kept0 hfr, HF.out.2.2.trans hfr (by simp)⟩
       clear hfr)
    | (go_at_call 65; refine (HS.out _ HR2.out.1).mono ?_; rintro e w3 ⟨rfl, hfr⟩
       have HR3 : Hid (Rep B w3 b 1 s ∧ Fr (foot b s) w w3) := ⟨HR2.out.1.kept0 hfr, HR2.out.2.trans hfr (by simp)⟩
       clear hfr))
  refine leaves_cons (f := 24) (args := #[.pointer (some ⟨b, 0, none⟩)]) (by simp) (by simp [go_sem]) ?_
  refine (unlock_deferred Tryz.muLib ⟨b, 0, none⟩ .returning _ HR3.out.1.cells.1 (HR3.out.1.frozen 0)).mono ?_
  rintro e u' w'' ⟨rfl, rfl, rfl⟩
  exact ⟨_, results_tmp rfl _ _ _, rfl, HR3.out.1.lock 0, HR3.out.2.setCell _ (Or.inl (by simp [foot]))⟩

set_option maxHeartbeats 800000 in
theorem mark_full (B b : Nat) (s : Sto) (g : Int) (j : Nat) (w : World) (h : Rep B w b 0 s) (hl : s.ms.length = 12) (hs : s.ss.length ≤ 12) (hf : fi (fun y : Int × Int => y.1 == g) 0 s.ms = -1) (hg : fi (fun y : Sn => y.guid == g) 0 s.ss = (j : Int)) :
    Calls Tryz.prog 42 #[.pointer (some ⟨b, 0, none⟩), .int .i64 g] w fun e w' => e = .returned (.int .i64 5) ∧ Rep B w' b 0 s ∧ Fr (foot b s) w w' := by
  have R1 := h.lock 1
  obtain ⟨w1, hw1⟩ : ∃ w1, w.setCell ⟨b, 0, none⟩ (.int .i32 1) = w1 := ⟨_, rfl⟩
  rw [hw1] at R1
  have HL := lock_free Tryz.muLib ⟨b, 0, none⟩ w h.cells.1 (h.frozen 0)
  have F1 : Fr (foot b s) w w1 := by rw [← hw1]; exact fr_lock b s w _
  have HF : Hid (w.setCell ⟨b, 0, none⟩ (.int .i32 1) = w1 ∧ Rep B w1 b 1 s ∧ Fr (foot b s) w w1) := ⟨hw1, R1, F1⟩
  have HM := findMark_any B b 1 s g w1 R1 (by omega)
  rw [hf] at HM
  have HS : Hid (∀ W, Rep B W b 1 s → Calls Tryz.prog 65 #[.pointer (some ⟨b, 0, none⟩), .int .i64 g] W fun e w' => e = .returned (.int .i64 j) ∧ Fr [] W w') := fun W hW => by
    have := findSnapshot_any B b 1 s g W hW (by omega)
    rw [hg] at this
    exact this
  obtain ⟨ao, cap, hmv⟩ := own_shape h.ms
  rw [hl] at hmv
  have HV : Hid (s.mv = .slice ao 12 cap) := hmv
  have j0 : ¬ ((j : Int) < 0) := by omega
  clear h hw1 R1 F1 hf hg hmv
  go_enter_defers Tryz.func42, Tryz.ntmps42
  go_wp2_with (first
    | (go_at_call 23; refine HL.mono ?_; rintro e w' ⟨rfl, hw'⟩; rw [HF.out.1] at hw'; have hw' := hw'.symm; subst hw')
    | (go_at_call 69; refine HM.mono ?_; rintro e w2 ⟨rfl, hfr⟩
       have HR2 : Hid (Rep B w2 b 1 s ∧ Fr (foot b s) w w2) := ⟨HF.out.2.1.kept0 hfr, HF.out.2.2.trans hfr (by simp)⟩
       clear hfr)
    | (go_at_call 65; refine (HS.out _ HR2.out.1).mono ?_; rintro e w3 ⟨rfl, hfr⟩
       have HR3 : Hid (Rep B w3 b 1 s ∧ Fr (foot b s) w w3) := ⟨HR2.out.1.kept0 hfr, HR2.out.2.trans hfr (by simp)⟩
       have c6 : w3.cell? ⟨b, 6, none⟩ = some (.slice ao 12 cap) := by rw [← HV.out]; exact HR3.out.1.cells.2.2.2.2.2.1
       clear hfr))
  refine leaves_cons (f := 24) (args := #[.pointer (some ⟨b, 0, none⟩)]) (by simp) (by simp [go_sem]) ?_
  refine (unlock_deferred Tryz.muLib ⟨b, 0, none⟩ .returning _ HR3.out.1.cells.1 (HR3.out.1.frozen 0)).mono ?_
  rintro e u' w'' ⟨rfl, rfl, rfl⟩
  exact ⟨_, results_tmp rfl _ _ _, rfl, HR3.out.1.lock 0, HR3.out.2.setCell _ (Or.inl (by simp [foot]))⟩

set_option maxHeartbeats 800000 in
theorem rmark_was (B b : Nat) (s : RSto) (g : Int) (j : Nat) (w : World) (h : RRep B w b s) (hl : s.ms.length ≤ 12) (hs : s.sh.length ≤ 12) (hf : fi (fun y : Int × Int => y.1 == g) 0 s.ms = (j : Int)) :
    Calls Tryz.prog 43 #[.pointer (some ⟨b, 0, none⟩), .int .i64 g] w fun e w' => e = .returned (.int .i64 0) ∧ w' = w := by
  have HM := rmark_any B b s g w h (by omega)
  have HS := rshot_any B b s g w h (by omega)
  rw [hf] at HM
  generalize fi (fun y : RSh => y.guid == g) 0 s.sh = i at HS
  have j0 : (0 : Int) ≤ (j : Int) := Int.natCast_nonneg _
  clear h hf
  go_enter Tryz.func43, Tryz.ntmps43
  go_wp2_with (first
    | (go_at_call 66; refine HS.mono ?_; rintro e w' ⟨rfl, hw'⟩; have hw' := hw'.symm; subst hw')
    | (go_at_call 72; refine HM.mono ?_; rintro e w' ⟨rfl, hw'⟩; have hw' := hw'.symm; subst hw'))
  go_ret
  exact ⟨rfl, rfl⟩

set_option maxHeartbeats 800000 in
theorem rmark_none (B b : Nat) (s : RSto) (g : Int) (w : World) (h : RRep B w b s) (hl : s.ms.length ≤ 12) (hs : s.sh.length ≤ 12) (hf : fi (fun y : Int × Int => y.1 == g) 0 s.ms = -1) (hg : fi (fun y : RSh => y.guid == g) 0 s.sh = -1) :
    Calls Tryz.prog 43 #[.pointer (some ⟨b, 0, none⟩), .int .i64 g] w fun e w' => e = .returned (.int .i64 3) ∧ w' = w := by
  have HM := rmark_any B b s g w h (by omega)
  have HS := rshot_any B b s g w h (by omega)
  rw [hf] at HM
  rw [hg] at HS
  clear h hf hg
  go_enter Tryz.func43, Tryz.ntmps43
  go_wp2_with (first
    | (go_at_call 66; refine HS.mono ?_; rintro e w' ⟨rfl, hw'⟩; have hw' := hw'.symm; subst hw')
    | (go_at_call 72; refine HM.mono ?_; rintro e w' ⟨rfl, hw'⟩; have hw' := hw'.symm; subst hw'))
  go_ret
  exact ⟨rfl, rfl⟩

set_option maxHeartbeats 800000 in
theorem rmark_full (B b : Nat) (s : RSto) (g : Int) (j : Nat) (w : World) (h : RRep B w b s) (hl : s.ms.length = 12) (hs : s.sh.length ≤ 12) (hf : fi (fun y : Int × Int => y.1 == g) 0 s.ms = -1) (hg : fi (fun y : RSh => y.guid == g) 0 s.sh = (j : Int)) :
    Calls Tryz.prog 43 #[.pointer (some ⟨b, 0, none⟩), .int .i64 g] w fun e w' => e = .returned (.int .i64 5) ∧ w' = w := by
  have HM := rmark_any B b s g w h (by omega)
  have HS := rshot_any B b s g w h (by omega)
  rw [hf] at HM
  rw [hg] at HS
  obtain ⟨ao, cap, hmv⟩ := own_shape h.ms
  rw [hl] at hmv
  have c37 : w.cell? ⟨b, 37, none⟩ = some (.slice ao 12 cap) := by rw [← hmv]; exact h.cells.2.2.2.2.2
  have j0 : ¬ ((j : Int) < 0) := by omega
  clear h hf hg hmv
  go_enter Tryz.func43, Tryz.ntmps43
  go_wp2_with (first
    | (go_at_call 66; refine HS.mono ?_; rintro e w' ⟨rfl, hw'⟩; have hw' := hw'.symm; subst hw')
    | (go_at_call 72; refine HM.mono ?_; rintro e w' ⟨rfl, hw'⟩; have hw' := hw'.symm; subst hw'))
  go_ret
  exact ⟨rfl, rfl⟩
end Go.Proofs.YthdhegmlknpllaaGreat
