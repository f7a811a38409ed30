import Derived.Test.YthdhegmlknpllabGreatDoorM17
import Derived.Deep.RegionHeld3
/-
  The walks of last (84), accepts (64).
-/
namespace Go.Proofs.YthdhegmlknpllabGreatDoor
open Go.RowKit Go.Maps Go.MuLone

/-- The guid of the snapshot that came last; 0: there is none. -/
def lastG (l : List Sn) : Int := (l.getLast?.map Sn.guid).getD 0

set_option maxRecDepth 100000 in
set_option maxHeartbeats 1600000 in
theorem last_any (B b : Nat) (q : Int) (s : Sto) (w : World) (h : Rep B w b q s) (hl : s.ss.length ≤ 12) :
    Calls Tryz.prog 115 #[.pointer (some ⟨b, 0, none⟩)] w fun e w' => e = .returned (.int .i64 (lastG s.ss)) ∧ Fr [] w w' := by
  obtain ⟨ao, cap, hsv⟩ := own_shape h.ss
  have c4 : w.cell? ⟨b, 4, none⟩ = some (.slice ao s.ss.length cap) := by rw [← hsv]; exact h.cells.2.2.2.1
  obtain ⟨n, hn⟩ : ∃ n, s.ss.length = n := ⟨_, rfl⟩
  by_cases h0 : n = 0
  · subst h0
    have e0 : s.ss = [] := List.eq_nil_of_length_eq_zero hn
    have e1 : lastG s.ss = 0 := by rw [e0]; rfl
    rw [e1]
    rw [hn] at c4
    clear h hsv hn e0 e1
    go_enter Tryz.func115, Tryz.ntmps115
    go_wp2
    go_ret
    exact ⟨rfl, Fr.refl _ _⟩
  · have hj : n - 1 < s.ss.length := by omega
    have hx : s.ss[n - 1]? = some (s.ss[n - 1]) := List.getElem?_eq_getElem hj
    obtain ⟨gg, cap', hsv', hcap, d0, k1, k2⟩ := ss_at h hx
    clear k1 k2
    rw [hsv] at hsv'
    obtain ⟨rfl, rfl⟩ : ao = some ⟨gg, 0, none⟩ ∧ cap = cap' := by
      have := Value.slice.inj hsv'
      exact ⟨this.1, this.2.2⟩
    have e1 : lastG s.ss = s.ss[n - 1].guid := by
      unfold lastG
      rw [List.getLast?_eq_getElem?, hn, hx]
      rfl
    rw [e1]
    obtain ⟨g, hg⟩ : ∃ g, s.ss[n - 1].guid = g := ⟨_, rfl⟩
    rw [hg] at d0 ⊢
    rw [hn] at c4 hcap
    obtain ⟨j, hjj⟩ : ∃ j, n - 1 = j := ⟨_, rfl⟩
    rw [hjj] at d0
    have q1 : IntKind.i64.wrap ((n : Int) - 1) = (j : Int) := by rw [show (n : Int) - 1 = (j : Int) by omega]; exact wrap_fit ⟨by omega, by omega⟩
    have q2 : (n : Int) - 1 = (j : Int) := by omega
    have q3 : wrap64 (j : Int) = (j : Int) := wrap64_fit ⟨by omega, by omega⟩
    have j0 : (0 : Int) ≤ (j : Int) := by omega
    have j1 : (j : Int) < (n : Int) := by omega
    have n0 : ¬ (n : Int) = 0 := by omega
    have n1 : ((n : Int) == 0) = false := by simpa using n0
    clear h hsv hn hj hx hsv' e1 hg hjj
    go_enter Tryz.func115, Tryz.ntmps115
    go_wp2
    go_region
    all_goals
      go_wp2
      go_ret
      exact ⟨rfl, (Fr.refl _ _).drew⟩

set_option maxRecDepth 100000 in
set_option maxHeartbeats 1600000 in
theorem accepts_dup (B b : Nat) (q : Int) (s : Sto) (f t m : Int) (v : Value) (j : Nat) (w : World) (h : Rep B w b q s) (hl : s.ss.length ≤ 12) (hv : ∃ a n c, v = .slice a n c) (hf : fi (fun y : Sn => y.guid == t) 0 s.ss = (j : Int)) :
    Calls Tryz.prog 84 #[.pointer (some ⟨b, 0, none⟩), .agg #[.int .i64 f, .int .i64 t, .int .i64 m, .int .i64 s.vol.length, v]] w fun e w' => e = .returned (.int .i64 7) ∧ Fr [] w w' := by
  obtain ⟨va, vn, vc, rfl⟩ := hv
  obtain ⟨bx, hbx⟩ : ∃ bx, w.heap.size = bx := ⟨_, rfl⟩
  obtain ⟨w0, hw0⟩ : ∃ w0, w.alloc (.cells #[.int .i64 f, .int .i64 t, .int .i64 m, .int .i64 s.vol.length, .slice va vn vc] 133) = w0 := ⟨_, rfl⟩
  have b0 : w0.heap[bx]? = some (.cells #[.int .i64 f, .int .i64 t, .int .i64 m, .int .i64 s.vol.length, .slice va vn vc] 133 (0, 0)) := by rw [← hw0, ← hbx]; exact heap_alloc_new w _
  have F0 : Fr [] w w0 := by rw [← hw0]; exact (Fr.refl _ _).alloc _
  have R0 : Rep B w0 b q s := h.kept0 F0
  have HB : Hid (w0.heap[bx]? = some (.cells #[.int .i64 f, .int .i64 t, .int .i64 m, .int .i64 s.vol.length, .slice va vn vc] 133 (0, 0)) ∧ Fr [] w w0 ∧ Rep B w0 b q s ∧ bx < w0.heap.size) := ⟨b0, F0, R0, (Array.getElem?_eq_some_iff.1 b0).1⟩
  have HX : Hid (∀ W, Fr [] w0 W → W.cell? ⟨bx, 0, none⟩ = some (.int .i64 f) ∧ W.cell? ⟨bx, 1, none⟩ = some (.int .i64 t)) := fun W hW => by
    have hh : W.heap[bx]? = _ := (hW.block bx (Array.getElem?_eq_some_iff.1 b0).1 (by simp)).trans b0
    exact ⟨by rw [cell_of hh]; rfl, by rw [cell_of hh]; rfl⟩
  have e1 : w0.cell? ⟨bx, 1, none⟩ = some (.int .i64 t) := (HX.out w0 (Fr.refl _ _)).2
  have e3 : w0.cell? ⟨bx, 3, none⟩ = some (.int .i64 s.vol.length) := by rw [cell_of b0]; rfl
  have c3 : w0.cell? ⟨b, 3, none⟩ = some (.slice (some ⟨s.vb, 0, none⟩) s.vol.length s.vol.length) := R0.cells.2.2.1
  obtain ⟨sa, sc, hsv⟩ := own_shape h.ss
  have HV : Hid (s.sv = .slice sa s.ss.length sc) := hsv
  have hw0' := hw0
  have HS : Hid (∀ W, Rep B W b q s → Calls Tryz.prog 72 #[.pointer (some ⟨b, 0, none⟩), .int .i64 t] W fun e w' => e = .returned (.int .i64 (j : Int)) ∧ Fr [] W w') := fun W hW => by
    have := findSnapshot_any B b q s t W hW (by omega)
    rw [hf] at this
    exact this
  obtain ⟨nv, hnv⟩ : ∃ nv, s.vol.length = nv := ⟨_, rfl⟩
  rw [hnv] at e3 c3 hw0' HB ⊢
  have j0 : (0 : Int) ≤ (j : Int) := by omega
  clear h hw0 b0 F0 R0 hsv hf hnv
  go_enter Tryz.func84, Tryz.ntmps84
  go_wp2
  go_region
  all_goals
    go_wp2_with (go_at_call 72; refine (HS.out _ (HB.out.2.2.1.kept0 (Fr.refl _ _).drew)).mono ?_; rintro e w2 ⟨rfl, hfr⟩; have HR2 : Hid (Fr [] w w2) := (HB.out.2.1.drew).trans hfr (by simp); clear hfr)
    go_ret
    exact ⟨rfl, HR2.out⟩

set_option maxRecDepth 100000 in
set_option maxHeartbeats 1600000 in
theorem accepts_ok (B b : Nat) (q : Int) (s : Sto) (f t m : Int) (v : Value) (w : World) (h : Rep B w b q s) (hl : s.ss.length < 12) (hm : s.ms.length ≤ 12) (hv : ∃ a n c, v = .slice a n c) (hf : fi (fun y : Sn => y.guid == t) 0 s.ss = -1) (hf2 : fi (fun y : Int × Int => y.1 == t) 0 s.ms = -1) (hlast : f = lastG s.ss) :
    Calls Tryz.prog 84 #[.pointer (some ⟨b, 0, none⟩), .agg #[.int .i64 f, .int .i64 t, .int .i64 m, .int .i64 s.vol.length, v]] w fun e w' => e = .returned (.int .i64 0) ∧ Fr [] w w' := by
  obtain ⟨va, vn, vc, rfl⟩ := hv
  obtain ⟨bx, hbx⟩ : ∃ bx, w.heap.size = bx := ⟨_, rfl⟩
  obtain ⟨w0, hw0⟩ : ∃ w0, w.alloc (.cells #[.int .i64 f, .int .i64 t, .int .i64 m, .int .i64 s.vol.length, .slice va vn vc] 133) = w0 := ⟨_, rfl⟩
  have b0 : w0.heap[bx]? = some (.cells #[.int .i64 f, .int .i64 t, .int .i64 m, .int .i64 s.vol.length, .slice va vn vc] 133 (0, 0)) := by rw [← hw0, ← hbx]; exact heap_alloc_new w _
  have F0 : Fr [] w w0 := by rw [← hw0]; exact (Fr.refl _ _).alloc _
  have R0 : Rep B w0 b q s := h.kept0 F0
  have HB : Hid (w0.heap[bx]? = some (.cells #[.int .i64 f, .int .i64 t, .int .i64 m, .int .i64 s.vol.length, .slice va vn vc] 133 (0, 0)) ∧ Fr [] w w0 ∧ Rep B w0 b q s ∧ bx < w0.heap.size) := ⟨b0, F0, R0, (Array.getElem?_eq_some_iff.1 b0).1⟩
  have HX : Hid (∀ W, Fr [] w0 W → W.cell? ⟨bx, 0, none⟩ = some (.int .i64 f) ∧ W.cell? ⟨bx, 1, none⟩ = some (.int .i64 t)) := fun W hW => by
    have hh : W.heap[bx]? = _ := (hW.block bx (Array.getElem?_eq_some_iff.1 b0).1 (by simp)).trans b0
    exact ⟨by rw [cell_of hh]; rfl, by rw [cell_of hh]; rfl⟩
  have e1 : w0.cell? ⟨bx, 1, none⟩ = some (.int .i64 t) := (HX.out w0 (Fr.refl _ _)).2
  have e3 : w0.cell? ⟨bx, 3, none⟩ = some (.int .i64 s.vol.length) := by rw [cell_of b0]; rfl
  have c3 : w0.cell? ⟨b, 3, none⟩ = some (.slice (some ⟨s.vb, 0, none⟩) s.vol.length s.vol.length) := R0.cells.2.2.1
  obtain ⟨sa, sc, hsv⟩ := own_shape h.ss
  have HV : Hid (s.sv = .slice sa s.ss.length sc) := hsv
  have hw0' := hw0
  have HS : Hid (∀ W, Rep B W b q s → Calls Tryz.prog 72 #[.pointer (some ⟨b, 0, none⟩), .int .i64 t] W fun e w' => e = .returned (.int .i64 (-1)) ∧ Fr [] W w') := fun W hW => by
    have := findSnapshot_any B b q s t W hW (by omega)
    rw [hf] at this
    exact this
  have HM : Hid (∀ W, Rep B W b q s → Calls Tryz.prog 102 #[.pointer (some ⟨b, 0, none⟩), .int .i64 t] W fun e w' => e = .returned (.int .i64 (-1)) ∧ Fr [] W w') := fun W hW => by
    have := findMark_any B b q s t W hW (by omega)
    rw [hf2] at this
    exact this
  have HLa : Hid (∀ W, Rep B W b q s → Calls Tryz.prog 115 #[.pointer (some ⟨b, 0, none⟩)] W fun e w' => e = .returned (.int .i64 f) ∧ Fr [] W w') := fun W hW => by
    rw [hlast]
    exact last_any B b q s W hW (by omega)
  obtain ⟨nv, hnv⟩ : ∃ nv, s.vol.length = nv := ⟨_, rfl⟩
  rw [hnv] at e3 c3 hw0' HB ⊢
  obtain ⟨ns, hns⟩ : ∃ ns, s.ss.length = ns := ⟨_, rfl⟩
  rw [hns] at hl HV
  have hl2 : ¬ (12 : Int) ≤ (ns : Int) := by omega
  clear h hw0 b0 F0 R0 hsv hf hf2 hnv hlast hns
  go_enter Tryz.func84, Tryz.ntmps84
  go_wp2
  go_region
  go_wp2_with (first
    | (go_at_call 72; refine (HS.out _ (HB.out.2.2.1.kept0 (Fr.refl _ _).drew)).mono ?_; rintro e w2 ⟨rfl, hfr⟩; have HR2 : Hid (Fr [] w0 w2 ∧ Rep B w2 b q s) := ⟨((Fr.refl [] w0).drew).trans hfr (by simp), (HB.out.2.2.1.kept0 (Fr.refl _ _).drew).kept0 hfr⟩; have x2 := (HX.out w2 HR2.out.1).2; clear hfr)
    | (go_at_call 102; refine (HM.out _ HR2.out.2).mono ?_; rintro e w3 ⟨rfl, hfr⟩; have HR3 : Hid (Fr [] w0 w3 ∧ Rep B w3 b q s) := ⟨HR2.out.1.trans hfr (by simp), HR2.out.2.kept0 hfr⟩; clear hfr))
  have dd : w3.drew.cell? ⟨bx, 0, none⟩ = some (.int .i64 f) := (HX.out w3 HR3.out.1).1
  go_region_held3 (fun w' => w'.cell? ⟨bx, 0, none⟩ = some (.int .i64 f))
    (first
      | go_keep
      | exact dd
      | exact (HX.out _ HR4.out.1).1)
    (first
      | (go_at_call 115; refine (HLa.out _ (HR3.out.2.kept0 (Fr.refl _ _).drew)).mono ?_; rintro e w4 ⟨rfl, hfr⟩; have HR4 : Hid (Fr [] w0 w4 ∧ Rep B w4 b q s) := ⟨(HR3.out.1.drew).trans hfr (by simp), (HR3.out.2.kept0 (Fr.refl _ _).drew).kept0 hfr⟩; clear hfr))
  all_goals
    have c4 : w4.cell? ⟨b, 4, none⟩ = some (.slice sa ns sc) := by rw [← HV.out]; exact HR4.out.2.cells.2.2.2.1
    go_wp2
    go_ret
    exact ⟨rfl, HB.out.2.1.trans HR4.out.1 (by simp)⟩
end Go.Proofs.YthdhegmlknpllabGreatDoor
