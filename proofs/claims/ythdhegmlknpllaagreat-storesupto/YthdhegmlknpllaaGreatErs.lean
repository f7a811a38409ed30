/-
  More of the errors: Unmark of none, in the program (38) and in the reference (39); Hold where the holds are full (31); the reference's Snap (24) of no time, and where it is full.
-/
import Derived.Test.YthdhegmlknpllaaGreatRum
namespace Go.Proofs.YthdhegmlknpllaaGreat
open Go.RowKit Go.Maps Go.MuLone

set_option maxHeartbeats 800000 in
theorem unmark_none (B b : Nat) (s : Sto) (g : Int) (w : World) (h : Rep B w b 0 s) (hl : s.ms.length ≤ 12) (hf : fi (fun y : Int × Int => y.1 == g) 0 s.ms = -1) :
    Calls Tryz.prog 44 #[.pointer (some ⟨b, 0, none⟩), .int .i64 g] w fun e w' => e = .returned (.int .i64 3) ∧ Rep B w' b 0 s ∧ Fr (foot b s) w w' := by
  have R1 := h.lock 1
  obtain ⟨w1, hw1⟩ : ∃ w1, w.setCell ⟨b, 0, none⟩ (.int .i32 1) = w1 := ⟨_, rfl⟩
  rw [hw1] at R1
  have HL := lock_free Tryz.muLib ⟨b, 0, none⟩ w h.cells.1 (h.frozen 0)
  have F1 : Fr (foot b s) w w1 := by rw [← hw1]; exact fr_lock b s w _
  have HF : Hid (w.setCell ⟨b, 0, none⟩ (.int .i32 1) = w1 ∧ Rep B w1 b 1 s ∧ Fr (foot b s) w w1) := ⟨hw1, R1, F1⟩
  have HR2 : Hid (Rep B w1 b 1 s ∧ Fr (foot b s) w w1) := ⟨R1, F1⟩
  have HS := findMark_any B b 1 s g w1 R1 (by omega)
  rw [hf] at HS
  clear h hw1 R1 F1 HR2 hf
  go_enter_defers Tryz.func44, Tryz.ntmps44
  go_wp2_with (first
    | (go_at_call 23; refine HL.mono ?_; rintro e w' ⟨rfl, hw'⟩; rw [HF.out.1] at hw'; have hw' := hw'.symm; subst hw')
    | (go_at_call 69; refine HS.mono ?_; rintro e w2 ⟨rfl, hfr⟩
       have HR2 : Hid (Rep B w2 b 1 s ∧ Fr (foot b s) w w2) := ⟨HF.out.2.1.kept0 hfr, HF.out.2.2.trans hfr (by simp)⟩
       clear hfr))
  refine leaves_cons (f := 24) (args := #[.pointer (some ⟨b, 0, none⟩)]) (by simp) (by simp [go_sem]) ?_
  refine (unlock_deferred Tryz.muLib ⟨b, 0, none⟩ .returning _ HR2.out.1.cells.1 (HR2.out.1.frozen 0)).mono ?_
  rintro e u' w'' ⟨rfl, rfl, rfl⟩
  exact ⟨_, results_tmp rfl _ _ _, rfl, HR2.out.1.lock 0, HR2.out.2.setCell _ (Or.inl (by simp [foot]))⟩

set_option maxHeartbeats 800000 in
theorem runmark_none (B b : Nat) (s : RSto) (g : Int) (w : World) (h : RRep B w b s) (hl : s.ms.length ≤ 12) (hf : fi (fun y : Int × Int => y.1 == g) 0 s.ms = -1) :
    Calls Tryz.prog 45 #[.pointer (some ⟨b, 0, none⟩), .int .i64 g] w fun e w' => e = .returned (.int .i64 3) ∧ w' = w := by
  have HS := rmark_any B b s g w h (by omega)
  rw [hf] at HS
  clear h hf
  go_enter Tryz.func45, Tryz.ntmps45
  go_wp2_with (first
    | (go_at_call 72; refine HS.mono ?_; rintro e w' ⟨rfl, hw'⟩; have hw' := hw'.symm; subst hw'))
  go_ret
  exact ⟨rfl, rfl⟩


set_option maxRecDepth 100000 in
set_option maxHeartbeats 800000 in
theorem hold_full (B b : Nat) (s : Sto) (g : Int) (j : Nat) (x : Sn) (w : World) (h : Rep B w b 0 s) (hl : s.ss.length ≤ 12) (hf : fi (fun y : Sn => y.guid == g) 0 s.ss = (j : Int)) (hx : s.ss[j]? = some x) (hh : 9 ≤ x.holds) :
    Calls Tryz.prog 37 #[.pointer (some ⟨b, 0, none⟩), .int .i64 g] w fun e w' => e = .returned (.int .i64 5) ∧ Rep B w' b 0 s ∧ Fr (foot b s) w w' := by
  have R1 := h.lock 1
  obtain ⟨w1, hw1⟩ : ∃ w1, w.setCell ⟨b, 0, none⟩ (.int .i32 1) = w1 := ⟨_, rfl⟩
  rw [hw1] at R1
  have hj : j < s.ss.length := (List.getElem?_eq_some_iff.1 hx).1
  have HL := lock_free Tryz.muLib ⟨b, 0, none⟩ w h.cells.1 (h.frozen 0)
  have F1 : Fr (foot b s) w w1 := by rw [← hw1]; exact fr_lock b s w _
  have HF : Hid (w.setCell ⟨b, 0, none⟩ (.int .i32 1) = w1 ∧ Rep B w1 b 1 s ∧ Fr (foot b s) w w1 ∧ s.ss[j]? = some x) := ⟨hw1, R1, F1, hx⟩
  have HS := findSnapshot_any B b 1 s g w1 R1 (by omega)
  rw [hf] at HS
  obtain ⟨ao, cap, hsv⟩ := own_shape h.ss
  have ho := h.ss
  rw [hsv] at ho
  obtain ⟨gg, hgg, hcap, _⟩ := own_addr ho (by omega)
  subst hgg
  have hgl := h.ss.lt gg (by rw [hsv]; rfl)
  have HV : Hid (s.sv = .slice (some ⟨gg, 0, none⟩) s.ss.length cap) := hsv
  obtain ⟨n, hn⟩ : ∃ n, s.ss.length = n := ⟨_, rfl⟩
  have hjn : (j : Int) < (n : Int) := by omega
  have HN : Hid (s.ss.length = n) := hn
  clear h R1 F1 hw1 hf hx ho hsv hgl
  rw [hn] at hcap hj hl
  clear hn
  go_enter_defers Tryz.func37, Tryz.ntmps37
  go_wp2_with (first
    | (go_at_call 23; refine HL.mono ?_; rintro e w' ⟨rfl, hw'⟩; rw [HF.out.1] at hw'; have hw' := hw'.symm; subst hw')
    | (go_at_call 65; refine HS.mono ?_; rintro e w2 ⟨rfl, hfr⟩
       have HR2 : Hid (Rep B w2 b 1 s ∧ Fr (foot b s) w w2) := ⟨HF.out.2.1.kept0 hfr, HF.out.2.2.1.trans hfr (by simp)⟩
       have c4 : w2.cell? ⟨b, 4, none⟩ = some (.slice (some ⟨gg, 0, none⟩) n cap) := by rw [← HN.out, ← HV.out]; exact HR2.out.1.cells.2.2.2.1
       have d2 : w2.cell? ⟨gg, j * 4 + 2, none⟩ = some (.int .i64 x.holds) := by
         have h1 := HR2.out.1.ss
         rw [HV.out, HN.out] at h1
         obtain ⟨g', e', _, hc⟩ := own_addr h1 (by omega)
         have : g' = gg := by simpa using e'.symm
         subst this
         rw [hc _ (by omega)]
         have h2 := (snC_get s.ss j (by rw [HN.out]; exact hj)).2.2.1
         rw [h2]
         have h3 := HF.out.2.2.2
         rw [List.getElem?_eq_getElem (by rw [HN.out]; exact hj)] at h3
         simp at h3
         rw [h3]
       clear hfr))
  refine leaves_cons (f := 24) (args := #[.pointer (some ⟨b, 0, none⟩)]) (by simp) (by simp [go_sem]) ?_
  refine (unlock_deferred Tryz.muLib ⟨b, 0, none⟩ .returning _ HR2.out.1.cells.1 (HR2.out.1.frozen 0)).mono ?_
  rintro e u' w'' ⟨rfl, rfl, rfl⟩
  exact ⟨_, results_tmp rfl _ _ _, rfl, HR2.out.1.lock 0, HR2.out.2.setCell _ (Or.inl (by simp [foot]))⟩

set_option maxHeartbeats 800000 in
theorem rsnap_arg (b : Nat) (t : Int) (w : World) (ht : t < 0 ∨ 1073741824 < t) :
    Calls Tryz.prog 30 #[.pointer (some ⟨b, 0, none⟩), .int .i64 t] w fun e w' => e = .returned (.tuple #[.int .i64 0, .int .i64 1]) ∧ w' = w := by
  by_cases h0 : t < 0
  · clear ht
    go_enter Tryz.func30, Tryz.ntmps30
    go_wp2
    go_ret2
    exact ⟨rfl, rfl⟩
  · have h1 : 1073741824 < t := by omega
    clear ht
    go_enter Tryz.func30, Tryz.ntmps30
    go_wp2
    go_ret2
    exact ⟨rfl, rfl⟩

set_option maxRecDepth 100000 in
set_option maxHeartbeats 1600000 in
theorem rsnap_full (B b : Nat) (s : RSto) (t : Int) (w : World) (h : RRep B w b s) (ht : 0 ≤ t ∧ t ≤ 1073741824) (h1 : 1 ≤ s.id ∧ s.id ≤ 999) (h2 : 0 ≤ s.last ∧ s.last ≤ 999999) (hf : (s.sh.any (fun x => x.guid == 1000000 * s.id + (s.last + 1)) || s.ms.any (fun x => x.1 == 1000000 * s.id + (s.last + 1))) = false) (hs : s.sh.length ≤ 12) (hm : s.ms.length ≤ 12) (hfull : s.sh.length = 12 ∨ s.last = 999999) :
    Calls Tryz.prog 30 #[.pointer (some ⟨b, 0, none⟩), .int .i64 t] w fun e w' => e = .returned (.tuple #[.int .i64 0, .int .i64 5]) ∧ w' = w := by
  obtain ⟨c0, _, _, c3, c36, _⟩ := h.cells
  have HH := rhas_any B b s (1000000 * s.id + (s.last + 1)) w h (by omega) (by omega)
  rw [hf] at HH
  obtain ⟨ao, cap, hsv⟩ := own_shape h.sh
  rw [hsv] at c36
  obtain ⟨m, hm'⟩ : ∃ m, s.sh.length = m := ⟨_, rfl⟩
  rw [hm'] at c36 hfull hs
  have p1 : IntKind.i64.wrap (s.last + 1) = s.last + 1 := wrap_fit ⟨by omega, by omega⟩
  have p2 : IntKind.i64.wrap (1000000 * s.id) = 1000000 * s.id := wrap_fit ⟨by omega, by omega⟩
  have p3 : IntKind.i64.wrap (1000000 * s.id + (s.last + 1)) = 1000000 * s.id + (s.last + 1) := wrap_fit ⟨by omega, by omega⟩
  have t1 : decide (t < 0) = false := by simp; omega
  have t2 : decide (t > 1073741824) = false := by simp; omega
  have hfull' : (12 : Int) ≤ (m : Int) ∨ (999999 : Int) < s.last + 1 := by omega
  clear h hf hsv hm' hfull
  by_cases h0 : (12 : Int) ≤ (m : Int)
  · clear hfull'
    go_enter Tryz.func30, Tryz.ntmps30
    go_wp2
    refine wp_loop_rounds 1 ?_
    rw [rounds_succ]
    go_wp2_with (first
      | (go_at_call 64; refine HH.mono ?_; rintro e w' ⟨rfl, hw'⟩; have hw' := hw'.symm; subst hw'))
    go_ret2
    exact ⟨rfl, rfl⟩
  · have h0' : (999999 : Int) < s.last + 1 := by omega
    clear hfull'
    go_enter Tryz.func30, Tryz.ntmps30
    go_wp2
    refine wp_loop_rounds 1 ?_
    rw [rounds_succ]
    go_wp2_with (first
      | (go_at_call 64; refine HH.mono ?_; rintro e w' ⟨rfl, hw'⟩; have hw' := hw'.symm; subst hw'))
    go_ret2
    exact ⟨rfl, rfl⟩
end Go.Proofs.YthdhegmlknpllaaGreat
