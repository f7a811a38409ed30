import Derived.Test.YthdhegmlknpllaaGreatM03
import Derived.Deep.RegionHeld3
import Derived.Test.YthdhegmlknpllaaGreatM08
import Derived.Laws.IdiomCopy
import Derived.Test.YthdhegmlknpllaaGreatM02
import Derived.Test.YthdhegmlknpllaaGreatM04
namespace Go.Proofs.YthdhegmlknpllaaGreat
open Go.RowKit Go.Maps Go.MuLone
theorem ss_at {B : Nat} {w : World} {b : Nat} {q : Int} {s : Sto} (h : Rep B w b q s) {j : Nat} {x : Sn} (hx : s.ss[j]? = some x) : ∃ gg cap, s.sv = .slice (some ⟨gg, 0, none⟩) s.ss.length cap ∧ s.ss.length ≤ cap ∧ w.cell? ⟨gg, j * 4, none⟩ = some (.int .i64 x.guid) ∧ w.cell? ⟨gg, j * 4 + 1, none⟩ = some (.int .i64 x.time) ∧ w.cell? ⟨gg, j * 4 + 3, none⟩ = some (.int .i64 x.came) := by
 have hj : j < s.ss.length := (List.getElem?_eq_some_iff.1 hx).1
 obtain ⟨ao, cap, hsv⟩ := own_shape h.ss
 have ho := h.ss
 rw [hsv] at ho
 obtain ⟨gg, hgg, hcap, hc⟩ := own_addr ho (by omega)
 subst hgg
 have e : s.ss[j] = x := by
  rw [List.getElem?_eq_getElem hj] at hx
  simpa using hx
 have h2 := snC_get s.ss j hj
 rw [e] at h2
 exact ⟨gg, cap, hsv, hcap, by rw [hc _ (by omega)]; exact h2.1, by rw [hc _ (by omega)]; exact h2.2.1, by rw [hc _ (by omega)]; exact h2.2.2.2⟩
theorem ms_at {B : Nat} {w : World} {b : Nat} {q : Int} {s : Sto} (h : Rep B w b q s) {j : Nat} {x : Int × Int} (hx : s.ms[j]? = some x) : ∃ gg cap, s.mv = .slice (some ⟨gg, 0, none⟩) s.ms.length cap ∧ s.ms.length ≤ cap ∧ w.cell? ⟨gg, j * 2 + 1, none⟩ = some (.int .i64 x.2) := by
 have hj : j < s.ms.length := (List.getElem?_eq_some_iff.1 hx).1
 obtain ⟨ao, cap, hsv⟩ := own_shape h.ms
 have ho := h.ms
 rw [hsv] at ho
 obtain ⟨gg, hgg, hcap, hc⟩ := own_addr ho (by omega)
 subst hgg
 have e : s.ms[j] = x := by
  rw [List.getElem?_eq_getElem hj] at hx
  simpa using hx
 have h2 := mkC_get s.ms j hj
 rw [e] at h2
 exact ⟨gg, cap, hsv, hcap, by rw [hc _ (by omega)]; exact h2.2⟩
set_option maxRecDepth 100000 in
set_option maxHeartbeats 800000 in
theorem came_snap (B b : Nat) (q : Int) (s : Sto) (g : Int) (j : Nat) (x : Sn) (w : World) (h : Rep B w b q s) (hl : s.ss.length ≤ 12) (hg : (g == 0) = false) (hf : fi (fun y : Sn => y.guid == g) 0 s.ss = (j : Int)) (hx : s.ss[j]? = some x) :
  Calls Tryz.prog 74 #[.pointer (some ⟨b, 0, none⟩), .int .i64 g] w fun e w' => e = .returned (.tuple #[.int .i64 x.came, .bool true]) ∧ Fr [] w w' := by
 have HS := findSnapshot_any B b q s g w h (by omega)
 rw [hf] at HS
 have hj : j < s.ss.length := (List.getElem?_eq_some_iff.1 hx).1
 have HH : Hid (Rep B w b q s ∧ s.ss[j]? = some x) := ⟨h, hx⟩
 obtain ⟨n, hn⟩ : ∃ n, s.ss.length = n := ⟨_, rfl⟩
 have HN : Hid (s.ss.length = n) := hn
 have hjn : (j : Int) < (n : Int) := by omega
 have j0 : (0 : Int) ≤ (j : Int) := by omega
 obtain ⟨gg, cap, hsv, hcap, _, _, _⟩ := ss_at h hx
 have HV : Hid (s.sv = .slice (some ⟨gg, 0, none⟩) s.ss.length cap) := hsv
 clear h hx hf hsv
 rw [hn] at hcap hj hl
 clear hn
 go_enter Tryz.func74, Tryz.ntmps74
 go_wp2_with (go_at_call 65; refine HS.mono ?_; rintro e w2 ⟨rfl, hfr⟩; have HR2 : Hid (Rep B w2 b q s ∧ Fr [] w w2) := ⟨HH.out.1.kept0 hfr, hfr⟩; have c4 : w2.cell? ⟨b, 4, none⟩ = some (.slice (some ⟨gg, 0, none⟩) n cap) := (by rw [← HN.out, ← HV.out]; exact HR2.out.1.cells.2.2.2.1); have d3 : w2.cell? ⟨gg, j * 4 + 3, none⟩ = some (.int .i64 x.came) := (by obtain ⟨g', c', e', _, _, _, h5⟩ := ss_at HR2.out.1 HH.out.2; rw [HV.out] at e'; have : gg = g' := (by simpa using (Value.slice.inj e').1); rw [this]; exact h5); clear hfr)
 go_ret2
 exact ⟨rfl, HR2.out.2⟩
set_option maxRecDepth 100000 in
set_option maxHeartbeats 800000 in
theorem came_mark (B b : Nat) (q : Int) (s : Sto) (g : Int) (j : Nat) (x : Int × Int) (w : World) (h : Rep B w b q s) (hl : s.ss.length ≤ 12) (hm : s.ms.length ≤ 12) (hg : (g == 0) = false) (hf : fi (fun y : Sn => y.guid == g) 0 s.ss = -1) (hf2 : fi (fun y : Int × Int => y.1 == g) 0 s.ms = (j : Int)) (hx : s.ms[j]? = some x) :
  Calls Tryz.prog 74 #[.pointer (some ⟨b, 0, none⟩), .int .i64 g] w fun e w' => e = .returned (.tuple #[.int .i64 x.2, .bool true]) ∧ Fr [] w w' := by
 have HS := findSnapshot_any B b q s g w h (by omega)
 rw [hf] at HS
 have HM : Hid (∀ W, Rep B W b q s → Calls Tryz.prog 69 #[.pointer (some ⟨b, 0, none⟩), .int .i64 g] W fun e w' => e = .returned (.int .i64 (j : Int)) ∧ Fr [] W w') := fun W hW => by
  have := findMark_any B b q s g W hW (by omega)
  rw [hf2] at this
  exact this
 have hj : j < s.ms.length := (List.getElem?_eq_some_iff.1 hx).1
 have HH : Hid (Rep B w b q s ∧ s.ms[j]? = some x) := ⟨h, hx⟩
 obtain ⟨n, hn⟩ : ∃ n, s.ms.length = n := ⟨_, rfl⟩
 have HN : Hid (s.ms.length = n) := hn
 have hjn : (j : Int) < (n : Int) := by omega
 have j0 : (0 : Int) ≤ (j : Int) := by omega
 obtain ⟨gg, cap, hsv, hcap, _⟩ := ms_at h hx
 have HV : Hid (s.mv = .slice (some ⟨gg, 0, none⟩) s.ms.length cap) := hsv
 clear h hx hf hf2 hsv
 rw [hn] at hcap hj hm
 clear hn
 go_enter Tryz.func74, Tryz.ntmps74
 go_wp2_with (first
  | (go_at_call 65; refine HS.mono ?_; rintro e w2 ⟨rfl, hfr⟩; have HR2 : Hid (Rep B w2 b q s ∧ Fr [] w w2) := ⟨HH.out.1.kept0 hfr, hfr⟩; clear hfr)
  | (go_at_call 69; refine (HM.out _ HR2.out.1).mono ?_; rintro e w3 ⟨rfl, hfr⟩; have HR3 : Hid (Rep B w3 b q s ∧ Fr [] w w3) := ⟨HR2.out.1.kept0 hfr, HR2.out.2.trans hfr (by simp)⟩; have c6 : w3.cell? ⟨b, 6, none⟩ = some (.slice (some ⟨gg, 0, none⟩) n cap) := (by rw [← HN.out, ← HV.out]; exact HR3.out.1.cells.2.2.2.2.2.1); have d3 : w3.cell? ⟨gg, j * 2 + 1, none⟩ = some (.int .i64 x.2) := (by obtain ⟨g', c', e', _, h5⟩ := ms_at HR3.out.1 HH.out.2; rw [HV.out] at e'; have : gg = g' := (by simpa using (Value.slice.inj e').1); rw [this]; exact h5); clear hfr))
 go_ret2
 exact ⟨rfl, HR3.out.2⟩
set_option maxRecDepth 100000 in
set_option maxHeartbeats 800000 in
theorem came_none (B b : Nat) (q : Int) (s : Sto) (g : Int) (w : World) (h : Rep B w b q s) (hl : s.ss.length ≤ 12) (hm : s.ms.length ≤ 12) (hg : (g == 0) = false) (hf : fi (fun y : Sn => y.guid == g) 0 s.ss = -1) (hf2 : fi (fun y : Int × Int => y.1 == g) 0 s.ms = -1) :
  Calls Tryz.prog 74 #[.pointer (some ⟨b, 0, none⟩), .int .i64 g] w fun e w' => e = .returned (.tuple #[.int .i64 0, .bool false]) ∧ Fr [] w w' := by
 have HS := findSnapshot_any B b q s g w h (by omega)
 rw [hf] at HS
 have HM : Hid (∀ W, Rep B W b q s → Calls Tryz.prog 69 #[.pointer (some ⟨b, 0, none⟩), .int .i64 g] W fun e w' => e = .returned (.int .i64 (-1)) ∧ Fr [] W w') := fun W hW => by
  have := findMark_any B b q s g W hW (by omega)
  rw [hf2] at this
  exact this
 have HH : Hid (Rep B w b q s) := h
 clear h hf hf2
 go_enter Tryz.func74, Tryz.ntmps74
 go_wp2_with (first
  | (go_at_call 65; refine HS.mono ?_; rintro e w2 ⟨rfl, hfr⟩; have HR2 : Hid (Rep B w2 b q s ∧ Fr [] w w2) := ⟨HH.out.kept0 hfr, hfr⟩; clear hfr)
  | (go_at_call 69; refine (HM.out _ HR2.out.1).mono ?_; rintro e w3 ⟨rfl, hfr⟩; have HR3 : Hid (Fr [] w w3) := HR2.out.2.trans hfr (by simp); clear hfr))
 go_ret2
 exact ⟨rfl, HR3.out⟩
def lastG (l : List Sn) : Int := (l.getLast?.map Sn.guid).getD 0
set_option maxRecDepth 100000 in
set_option maxHeartbeats 1600000 in
theorem last_any (B b : Nat) (q : Int) (s : Sto) (w : World) (h : Rep B w b q s) (hl : s.ss.length ≤ 12) :
  Calls Tryz.prog 109 #[.pointer (some ⟨b, 0, none⟩)] w fun e w' => e = .returned (.int .i64 (lastG s.ss)) ∧ Fr [] w w' := by
 obtain ⟨ao, cap, hsv⟩ := own_shape h.ss
 have c4 : w.cell? ⟨b, 4, none⟩ = some (.slice ao s.ss.length cap) := by rw [← hsv]; exact h.cells.2.2.2.1
 obtain ⟨n, hn⟩ : ∃ n, s.ss.length = n := ⟨_, rfl⟩
 by_cases h0 : n = 0
 · subst h0
   have e0 : s.ss = [] := List.eq_nil_of_length_eq_zero hn
   have e1 : lastG s.ss = 0 := by rw [e0]; rfl
   rw [e1]
   rw [hn] at c4
   clear h hsv hn e0 e1
   go_enter Tryz.func109, Tryz.ntmps109
   go_wp2
   go_ret
   exact ⟨rfl, Fr.refl _ _⟩
 · have hj : n - 1 < s.ss.length := by omega
   have hx : s.ss[n - 1]? = some (s.ss[n - 1]) := List.getElem?_eq_getElem hj
   obtain ⟨gg, cap', hsv', hcap, d0, k1, k2⟩ := ss_at h hx
   clear k1 k2
   rw [hsv] at hsv'
   obtain ⟨rfl, rfl⟩ : ao = some ⟨gg, 0, none⟩ ∧ cap = cap' := by
    have := Value.slice.inj hsv'
    exact ⟨this.1, this.2.2⟩
   have e1 : lastG s.ss = s.ss[n - 1].guid := by
    unfold lastG
    rw [List.getLast?_eq_getElem?, hn, hx]
    rfl
   rw [e1]
   obtain ⟨g, hg⟩ : ∃ g, s.ss[n - 1].guid = g := ⟨_, rfl⟩
   rw [hg] at d0 ⊢
   rw [hn] at c4 hcap
   obtain ⟨j, hjj⟩ : ∃ j, n - 1 = j := ⟨_, rfl⟩
   rw [hjj] at d0
   have q1 : IntKind.i64.wrap ((n : Int) - 1) = (j : Int) := by rw [show (n : Int) - 1 = (j : Int) by omega]; exact wrap_fit ⟨by omega, by omega⟩
   have q2 : (n : Int) - 1 = (j : Int) := by omega
   have q3 : wrap64 (j : Int) = (j : Int) := wrap64_fit ⟨by omega, by omega⟩
   have j0 : (0 : Int) ≤ (j : Int) := by omega
   have j1 : (j : Int) < (n : Int) := by omega
   have n0 : ¬ (n : Int) = 0 := by omega
   have n1 : ((n : Int) == 0) = false := by simpa using n0
   clear h hsv hn hj hx hsv' e1 hg hjj
   go_enter Tryz.func109, Tryz.ntmps109
   go_wp2
   go_region
   all_goals
    go_wp2
    go_ret
    exact ⟨rfl, (Fr.refl _ _).drew⟩
set_option maxRecDepth 100000 in
set_option maxHeartbeats 1600000 in
theorem accepts_dup (B b : Nat) (q : Int) (s : Sto) (f t m : Int) (v : Value) (j : Nat) (w : World) (h : Rep B w b q s) (hl : s.ss.length ≤ 12) (hv : ∃ a n c, v = .slice a n c) (hf : fi (fun y : Sn => y.guid == t) 0 s.ss = (j : Int)) :
  Calls Tryz.prog 80 #[.pointer (some ⟨b, 0, none⟩), .agg #[.int .i64 f, .int .i64 t, .int .i64 m, .int .i64 s.vol.length, v]] w fun e w' => e = .returned (.int .i64 7) ∧ Fr [] w w' := by
 obtain ⟨va, vn, vc, rfl⟩ := hv
 obtain ⟨bx, hbx⟩ : ∃ bx, w.heap.size = bx := ⟨_, rfl⟩
 obtain ⟨w0, hw0⟩ : ∃ w0, w.alloc (.cells #[.int .i64 f, .int .i64 t, .int .i64 m, .int .i64 s.vol.length, .slice va vn vc] 135) = w0 := ⟨_, rfl⟩
 have b0 : w0.heap[bx]? = some (.cells #[.int .i64 f, .int .i64 t, .int .i64 m, .int .i64 s.vol.length, .slice va vn vc] 135 (0, 0)) := by rw [← hw0, ← hbx]; exact heap_alloc_new w _
 have F0 : Fr [] w w0 := by rw [← hw0]; exact (Fr.refl _ _).alloc _
 have R0 : Rep B w0 b q s := h.kept0 F0
 have HB : Hid (w0.heap[bx]? = some (.cells #[.int .i64 f, .int .i64 t, .int .i64 m, .int .i64 s.vol.length, .slice va vn vc] 135 (0, 0)) ∧ Fr [] w w0 ∧ Rep B w0 b q s ∧ bx < w0.heap.size) := ⟨b0, F0, R0, (Array.getElem?_eq_some_iff.1 b0).1⟩
 have HX : Hid (∀ W, Fr [] w0 W → W.cell? ⟨bx, 0, none⟩ = some (.int .i64 f) ∧ W.cell? ⟨bx, 1, none⟩ = some (.int .i64 t)) := fun W hW => by
  have hh : W.heap[bx]? = _ := (hW.block bx (Array.getElem?_eq_some_iff.1 b0).1 (by simp)).trans b0
  exact ⟨by rw [cell_of hh]; rfl, by rw [cell_of hh]; rfl⟩
 have e1 : w0.cell? ⟨bx, 1, none⟩ = some (.int .i64 t) := (HX.out w0 (Fr.refl _ _)).2
 have e3 : w0.cell? ⟨bx, 3, none⟩ = some (.int .i64 s.vol.length) := by rw [cell_of b0]; rfl
 have c3 : w0.cell? ⟨b, 3, none⟩ = some (.slice (some ⟨s.vb, 0, none⟩) s.vol.length s.vol.length) := R0.cells.2.2.1
 obtain ⟨sa, sc, hsv⟩ := own_shape h.ss
 have HV : Hid (s.sv = .slice sa s.ss.length sc) := hsv
 have hw0' := hw0
 have HS : Hid (∀ W, Rep B W b q s → Calls Tryz.prog 65 #[.pointer (some ⟨b, 0, none⟩), .int .i64 t] W fun e w' => e = .returned (.int .i64 (j : Int)) ∧ Fr [] W w') := fun W hW => by
  have := findSnapshot_any B b q s t W hW (by omega)
  rw [hf] at this
  exact this
 obtain ⟨nv, hnv⟩ : ∃ nv, s.vol.length = nv := ⟨_, rfl⟩
 rw [hnv] at e3 c3 hw0' HB ⊢
 have j0 : (0 : Int) ≤ (j : Int) := by omega
 clear h hw0 b0 F0 R0 hsv hf hnv
 go_enter Tryz.func80, Tryz.ntmps80
 go_wp2
 go_region
 all_goals
  go_wp2_with (go_at_call 65; refine (HS.out _ (HB.out.2.2.1.kept0 (Fr.refl _ _).drew)).mono ?_; rintro e w2 ⟨rfl, hfr⟩; have HR2 : Hid (Fr [] w w2) := (HB.out.2.1.drew).trans hfr (by simp); clear hfr)
  go_ret
  exact ⟨rfl, HR2.out⟩
set_option maxRecDepth 100000 in
set_option maxHeartbeats 1600000 in
theorem accepts_ok (B b : Nat) (q : Int) (s : Sto) (f t m : Int) (v : Value) (w : World) (h : Rep B w b q s) (hl : s.ss.length < 12) (hm : s.ms.length ≤ 12) (hv : ∃ a n c, v = .slice a n c) (hf : fi (fun y : Sn => y.guid == t) 0 s.ss = -1) (hf2 : fi (fun y : Int × Int => y.1 == t) 0 s.ms = -1) (hlast : f = lastG s.ss) :
  Calls Tryz.prog 80 #[.pointer (some ⟨b, 0, none⟩), .agg #[.int .i64 f, .int .i64 t, .int .i64 m, .int .i64 s.vol.length, v]] w fun e w' => e = .returned (.int .i64 0) ∧ Fr [] w w' := by
 obtain ⟨va, vn, vc, rfl⟩ := hv
 obtain ⟨bx, hbx⟩ : ∃ bx, w.heap.size = bx := ⟨_, rfl⟩
 obtain ⟨w0, hw0⟩ : ∃ w0, w.alloc (.cells #[.int .i64 f, .int .i64 t, .int .i64 m, .int .i64 s.vol.length, .slice va vn vc] 135) = w0 := ⟨_, rfl⟩
 have b0 : w0.heap[bx]? = some (.cells #[.int .i64 f, .int .i64 t, .int .i64 m, .int .i64 s.vol.length, .slice va vn vc] 135 (0, 0)) := by rw [← hw0, ← hbx]; exact heap_alloc_new w _
 have F0 : Fr [] w w0 := by rw [← hw0]; exact (Fr.refl _ _).alloc _
 have R0 : Rep B w0 b q s := h.kept0 F0
 have HB : Hid (w0.heap[bx]? = some (.cells #[.int .i64 f, .int .i64 t, .int .i64 m, .int .i64 s.vol.length, .slice va vn vc] 135 (0, 0)) ∧ Fr [] w w0 ∧ Rep B w0 b q s ∧ bx < w0.heap.size) := ⟨b0, F0, R0, (Array.getElem?_eq_some_iff.1 b0).1⟩
 have HX : Hid (∀ W, Fr [] w0 W → W.cell? ⟨bx, 0, none⟩ = some (.int .i64 f) ∧ W.cell? ⟨bx, 1, none⟩ = some (.int .i64 t)) := fun W hW => by
  have hh : W.heap[bx]? = _ := (hW.block bx (Array.getElem?_eq_some_iff.1 b0).1 (by simp)).trans b0
  exact ⟨by rw [cell_of hh]; rfl, by rw [cell_of hh]; rfl⟩
 have e1 : w0.cell? ⟨bx, 1, none⟩ = some (.int .i64 t) := (HX.out w0 (Fr.refl _ _)).2
 have e3 : w0.cell? ⟨bx, 3, none⟩ = some (.int .i64 s.vol.length) := by rw [cell_of b0]; rfl
 have c3 : w0.cell? ⟨b, 3, none⟩ = some (.slice (some ⟨s.vb, 0, none⟩) s.vol.length s.vol.length) := R0.cells.2.2.1
 obtain ⟨sa, sc, hsv⟩ := own_shape h.ss
 have HV : Hid (s.sv = .slice sa s.ss.length sc) := hsv
 have hw0' := hw0
 have HS : Hid (∀ W, Rep B W b q s → Calls Tryz.prog 65 #[.pointer (some ⟨b, 0, none⟩), .int .i64 t] W fun e w' => e = .returned (.int .i64 (-1)) ∧ Fr [] W w') := fun W hW => by
  have := findSnapshot_any B b q s t W hW (by omega)
  rw [hf] at this
  exact this
 have HM : Hid (∀ W, Rep B W b q s → Calls Tryz.prog 69 #[.pointer (some ⟨b, 0, none⟩), .int .i64 t] W fun e w' => e = .returned (.int .i64 (-1)) ∧ Fr [] W w') := fun W hW => by
  have := findMark_any B b q s t W hW (by omega)
  rw [hf2] at this
  exact this
 have HLa : Hid (∀ W, Rep B W b q s → Calls Tryz.prog 109 #[.pointer (some ⟨b, 0, none⟩)] W fun e w' => e = .returned (.int .i64 f) ∧ Fr [] W w') := fun W hW => by
  rw [hlast]
  exact last_any B b q s W hW (by omega)
 obtain ⟨nv, hnv⟩ : ∃ nv, s.vol.length = nv := ⟨_, rfl⟩
 rw [hnv] at e3 c3 hw0' HB ⊢
 obtain ⟨ns, hns⟩ : ∃ ns, s.ss.length = ns := ⟨_, rfl⟩
 rw [hns] at hl HV
 have hl2 : ¬ (12 : Int) ≤ (ns : Int) := by omega
 clear h hw0 b0 F0 R0 hsv hf hf2 hnv hlast hns
 go_enter Tryz.func80, Tryz.ntmps80
 go_wp2
 go_region
 go_wp2_with (first
  | (go_at_call 65; refine (HS.out _ (HB.out.2.2.1.kept0 (Fr.refl _ _).drew)).mono ?_; rintro e w2 ⟨rfl, hfr⟩; have HR2 : Hid (Fr [] w0 w2 ∧ Rep B w2 b q s) := ⟨((Fr.refl [] w0).drew).trans hfr (by simp), (HB.out.2.2.1.kept0 (Fr.refl _ _).drew).kept0 hfr⟩; have x2 := (HX.out w2 HR2.out.1).2; clear hfr)
  | (go_at_call 69; refine (HM.out _ HR2.out.2).mono ?_; rintro e w3 ⟨rfl, hfr⟩; have HR3 : Hid (Fr [] w0 w3 ∧ Rep B w3 b q s) := ⟨HR2.out.1.trans hfr (by simp), HR2.out.2.kept0 hfr⟩; clear hfr))
 have dd : w3.drew.cell? ⟨bx, 0, none⟩ = some (.int .i64 f) := (HX.out w3 HR3.out.1).1
 go_region_held3 (fun w' => w'.cell? ⟨bx, 0, none⟩ = some (.int .i64 f))
  (first
   | go_keep
   | exact dd
   | exact (HX.out _ HR4.out.1).1)
  (first
   | (go_at_call 109; refine (HLa.out _ (HR3.out.2.kept0 (Fr.refl _ _).drew)).mono ?_; rintro e w4 ⟨rfl, hfr⟩; have HR4 : Hid (Fr [] w0 w4 ∧ Rep B w4 b q s) := ⟨(HR3.out.1.drew).trans hfr (by simp), (HR3.out.2.kept0 (Fr.refl _ _).drew).kept0 hfr⟩; clear hfr))
 all_goals
  have c4 : w4.cell? ⟨b, 4, none⟩ = some (.slice sa ns sc) := by rw [← HV.out]; exact HR4.out.2.cells.2.2.2.1
  go_wp2
  go_ret
  exact ⟨rfl, HB.out.2.1.trans HR4.out.1 (by simp)⟩
abbrev RS := ByteArray × Bool
def rdN (r : RS) (n : Nat) : RS := (rdL r.1 n, rdS r.1 r.2 n)
def b4 (t : ByteArray) : B4 := ⟨t.data.toList[0]?.getD 0, t.data.toList[1]?.getD 0, t.data.toList[2]?.getD 0, t.data.toList[3]?.getD 0⟩
def rdBs (r : RS) : Nat → List (Int × B4) × RS
 | 0 => ([], r)
 | k + 1 => ((rdBs r k).1 ++ [((valN (rdT (rdBs r k).2.1 1).data.toList : Int), b4 (rdT (rdN (rdBs r k).2 1).1 4))], rdN (rdN (rdBs r k).2 1) 4)
theorem rdT_two (t : ByteArray) (n : Nat) : (rdT t n).size = 0 ∨ (rdT t n).size = n := by
 unfold rdT
 split
 · exact Or.inl rfl
 · right
   rw [ByteArray.size_extract]
   omega
theorem rdBs_len (r : RS) : ∀ k, (rdBs r k).1.length = k
 | 0 => rfl
 | k + 1 => by rw [rdBs, List.length_append, rdBs_len r k]; rfl
theorem rdN_size {r : RS} {n : Nat} (h : (rdN r n).2 = false) : r.2 = false ∧ r.1.size = n + (rdN r n).1.size := by
 unfold rdN rdS rdL at h ⊢
 simp only at h ⊢
 by_cases hlt : r.1.size < n
 · rw [if_pos hlt] at h
   cases h
 · rw [if_neg hlt] at h
   refine ⟨h, ?_⟩
   rw [if_neg hlt, ByteArray.size_extract]
   omega
theorem rdBs_size {r : RS} : ∀ k, (rdBs r k).2.2 = false → r.2 = false ∧ r.1.size = 5 * k + (rdBs r k).2.1.size
 | 0, h => ⟨h, by simp [rdBs]⟩
 | k + 1, h => by
  rw [rdBs] at h ⊢
  have h1 := rdN_size h
  have h2 := rdN_size h1.1
  have h3 := rdBs_size k h2.1
  refine ⟨h3.1, ?_⟩
  simp only
  omega
theorem fr_cellsP {F : List Nat} {w : World} {vb : Nat} (hv : vb ∈ F) : ∀ (l : List Value) (o : Nat) (w1 : World), Fr F w w1 → Fr F w (w1.setCells vb o l)
 | [], _, _, h => h
 | v :: r, o, _, h => fr_cellsP hv r (o + 1) _ (h.setCell v (Or.inl hv))
theorem copy4 (w : World) (b8 : Nat) (z : Int) (tx : ByteArray) (h : w.heap[b8]? = some (.cells #[.int .i64 z, .int .u8 0, .int .u8 0, .int .u8 0, .int .u8 0] 137 (0, 0))) (ht : tx.size = 0 ∨ tx.size = 4) :
  ∃ w', (∀ ty, (Builtin.copy_ #[74, 9] ty #[.slice (some ⟨b8, 1, none⟩) 4 4, .string tx]).run Tryz.prog w = .ok (goInt tx.size) w') ∧ w'.heap[b8]? = some (.cells (bkC (z, b4 tx)).toArray 137 (0, 0)) ∧ Fr [b8] w w' := by
 have hrun := fun ty => run_copy_string (P := Tryz.prog) w 74 9 ty 5 b8 1 4 4 tx Tryz.underlying74 (fun w => Tryz.sizeOf5 w) (by omega) (by
     intro j hj
     have hj' : j < 4 := by omega
     rw [cell_of h]
     rcases (by omega : j = 0 ∨ j = 1 ∨ j = 2 ∨ j = 3) with rfl | rfl | rfl | rfl <;> rfl) (fun j _ => froz_of h _)
 refine ⟨_, hrun, ?_, ?_⟩
 · rcases ht with h0 | h4
   · have e : tx.data.toList = [] := by
       apply List.eq_nil_of_length_eq_zero
       rw [Array.length_toList]
       exact h0
     have e3 : b4 tx = ⟨0, 0, 0, 0⟩ := by
      unfold b4
      rw [e]
      rfl
     rw [e, e3]
     exact h
   · obtain ⟨a, b, c, d, e⟩ : ∃ a b c d, tx.data.toList = [a, b, c, d] := by
       have hl : tx.data.toList.length = 4 := by rw [Array.length_toList]; exact h4
       match hh : tx.data.toList, hl with
       | [a, b, c, d], _ => exact ⟨a, b, c, d, rfl⟩
     have e3 : b4 tx = ⟨a, b, c, d⟩ := by
      unfold b4
      rw [e]
      rfl
     rw [e, e3]
     have h1 := heap_setCell_same w b8 1 _ _ (.int .u8 (a.toNat : Int)) h
     have h2 := heap_setCell_same _ b8 2 _ _ (.int .u8 (b.toNat : Int)) h1
     have h3 := heap_setCell_same _ b8 3 _ _ (.int .u8 (c.toNat : Int)) h2
     have h4 := heap_setCell_same _ b8 4 _ _ (.int .u8 (d.toNat : Int)) h3
     simp only [List.map_cons, List.map_nil, World.setCells]
     rw [h4]
     rfl
 · exact fr_cellsP (by simp) _ _ _ (Fr.refl _ _)
def z116 : Obj := .cells #[.int .i64 0, .int .i64 0, .int .i64 0, .int .i64 0, .slice none 0 0] 135 (0, 0)
structure PJ (w W : World) (bx rb : Nat) (r : RS) : Prop where
 rd : Rdr W rb r.1 r.2
 fr : Fr [] w W
 box : W.heap[bx]? = some z116
 le : w.heap.size ≤ rb
 le2 : r.1.size ≤ 2000000
theorem rdN_le (r : RS) (n : Nat) : (rdN r n).1.size ≤ r.1.size := rdL_size r.1 n
theorem PJ.read {w W W' : World} {bx rb n : Nat} {r : RS} (h : PJ w W bx rb r) (hr : Rdr W' rb (rdL r.1 n) (rdS r.1 r.2 n)) (hf : Fr [rb] W W') : PJ w W' bx rb (rdN r n) := by
 have hne : bx ≠ rb := fun e => by
  have h1 := h.box
  have h2 := h.rd
  unfold Rdr at h2
  unfold z116 at h1
  rw [e, h2] at h1
  simp at h1
 refine ⟨hr, h.fr.trans hf (fun k hk => Or.inr (by simp at hk; subst hk; exact h.le)), ?_, h.le, Nat.le_trans (rdN_le r n) h.le2⟩
 rw [hf.block bx (Array.getElem?_eq_some_iff.1 h.box).1 (by simpa using hne)]
 exact h.box
theorem PJ.number {w W : World} {bx rb : Nat} {r : RS} (h : PJ w W bx rb r) : Calls Tryz.prog 86 #[.pointer (some ⟨rb, 0, none⟩)] W fun e w' => e = .returned (.int .i64 (valN (rdT r.1 4).data.toList : Int)) ∧ PJ w w' bx rb (rdN r 4) ∧ Fr [rb] W w' :=
 (rnumber_any rb r.1 r.2 W h.rd (by have := h.le2; omega)).mono fun _ _ ⟨e, a, b⟩ => ⟨e, h.read a b, b⟩
theorem PJ.byte {w W : World} {bx rb : Nat} {r : RS} (h : PJ w W bx rb r) : Calls Tryz.prog 85 #[.pointer (some ⟨rb, 0, none⟩)] W fun e w' => e = .returned (.int .i64 (valN (rdT r.1 1).data.toList : Int)) ∧ PJ w w' bx rb (rdN r 1) ∧ Fr [rb] W w' :=
 (rbyte_any rb r.1 r.2 W h.rd (by have := h.le2; omega)).mono fun _ _ ⟨e, a, b⟩ => ⟨e, h.read a b, b⟩
theorem PJ.text {w W : World} {bx rb : Nat} {r : RS} (h : PJ w W bx rb r) : Calls Tryz.prog 88 #[.pointer (some ⟨rb, 0, none⟩), .int .i64 4] W fun e w' => e = .returned (.string (rdT r.1 4)) ∧ PJ w w' bx rb (rdN r 4) ∧ Fr [rb] W w' :=
 (rtext_any rb r.1 r.2 4 W h.rd (by omega) (by have := h.le2; omega)).mono fun _ _ ⟨e, a, b⟩ => ⟨e, h.read a b, b⟩
theorem PJ.alloc {w W : World} {bx rb : Nat} {r : RS} (h : PJ w W bx rb r) (o : Obj) : PJ w (W.alloc o) bx rb r :=
 ⟨by have := h.rd; unfold Rdr at this ⊢; rw [Below.heap_alloc _ _ _ (Array.getElem?_eq_some_iff.1 this).1]; exact this, h.fr.alloc _, by rw [Below.heap_alloc _ _ _ (Array.getElem?_eq_some_iff.1 h.box).1]; exact h.box, h.le, h.le2⟩
def ofL (l : List UInt8) : ByteArray := ⟨l.toArray⟩
theorem ofL_size (l : List UInt8) : (ofL l).size = l.length := by
 show l.toArray.size = l.length
 simp
theorem ofL_list (l : List UInt8) : (ofL l).data.toList = l := by simp [ofL]
theorem ofL_ext {a b : ByteArray} (h : a.data.toList = b.data.toList) : a = b := by
 apply ByteArray.ext
 exact Array.toList_inj.1 h
theorem ofL_back (t : ByteArray) : ofL t.data.toList = t := ofL_ext (by simp [ofL])
theorem ext_list (t : ByteArray) (a b : Nat) : (t.extract a b).data.toList = (t.data.toList.drop a).take (b - a) := by
 simp [ByteArray.data_extract]
theorem rdT_app (a b : List UInt8) (n : Nat) (h : a.length = n) : rdT (ofL (a ++ b)) n = ofL a := by
 unfold rdT
 rw [if_neg (by rw [ofL_size, List.length_append]; omega)]
 refine ofL_ext ?_
 rw [ext_list, ofL_list, ofL_list, List.drop_zero, Nat.sub_zero, ← h, List.take_left]
theorem rdN_app (a b : List UInt8) (sh : Bool) (n : Nat) (h : a.length = n) : rdN (ofL (a ++ b), sh) n = (ofL b, sh) := by
 unfold rdN rdL rdS
 have hs : ¬ (ofL (a ++ b)).size < n := by rw [ofL_size, List.length_append]; omega
 simp only
 rw [if_neg hs, if_neg hs]
 congr 1
 refine ofL_ext ?_
 rw [ext_list, ofL_list, ofL_list, ← h, List.drop_left, ofL_size, List.length_append]
 exact List.take_of_length_le (by omega)
theorem val4 (z : Int) (h : 0 ≤ z ∧ z < 4294967296) : (valN (n4 z).list' : Int) = z := by
 have e1 := byt_eq (z / 16777216)
 have e2 := byt_eq (z / 65536)
 have e3 := byt_eq (z / 256)
 have e4 := byt_eq z
 simp only [valN, B4.list', n4, List.foldl_cons, List.foldl_nil]
 omega
theorem ba_ofL (x : B4) : x.ba = ofL x.list' := rfl
def Small (l : List (Int × B4)) : Prop := ∀ x ∈ l, 0 ≤ x.1 ∧ x.1 < 256
def q1 (u : ByteArray) : RS := rdN (u, false) 4
def q2 (u : ByteArray) : RS := rdN (q1 u) 4
def q3 (u : ByteArray) : RS := rdN (q2 u) 4
def q4 (u : ByteArray) : RS := rdN (q3 u) 4
def q5 (u : ByteArray) : RS := rdN (q4 u) 1
def q6 (u : ByteArray) : RS := rdN (q5 u) 1
def qf (u : ByteArray) : Nat := valN (rdT (q1 u).1 4).data.toList
def qt (u : ByteArray) : Nat := valN (rdT (q2 u).1 4).data.toList
def qm (u : ByteArray) : Nat := valN (rdT (q3 u).1 4).data.toList
def qb (u : ByteArray) : Nat := valN (rdT (q4 u).1 1).data.toList
def qn (u : ByteArray) : Nat := valN (rdT (q5 u).1 1).data.toList
def ql (u : ByteArray) : List (Int × B4) := (rdBs (q6 u) (qn u)).1
def qe (u : ByteArray) : RS := (rdBs (q6 u) (qn u)).2
theorem body_split (f t m nb : Int) (l : List (Int × B4)) : bodyT f t m nb l = [83, 78, 68, 49] ++ ((n4 f).list' ++ ((n4 t).list' ++ ((n4 m).list' ++ ([byt nb] ++ ([byt (l.length : Int)] ++ blT l))))) := by
 simp [bodyT, headT, B4.ba, B4.list']
theorem qe_size {u : ByteArray} (h : (qe u).2 = false) (h0 : (qe u).1.size = 0) : u.size = 18 + 5 * qn u := by
 unfold qe at h h0
 have b0 := rdBs_size (r := q6 u) (qn u) h
 have b1 := rdN_size (r := q5 u) (n := 1) (by have := b0.1; unfold q6 at this; exact this)
 have b2 := rdN_size (r := q4 u) (n := 1) (by have := b1.1; unfold q5 at this; exact this)
 have b3 := rdN_size (r := q3 u) (n := 4) (by have := b2.1; unfold q4 at this; exact this)
 have b4 := rdN_size (r := q2 u) (n := 4) (by have := b3.1; unfold q3 at this; exact this)
 have b5 := rdN_size (r := q1 u) (n := 4) (by have := b4.1; unfold q2 at this; exact this)
 have b6 := rdN_size (r := (u, false)) (n := 4) (by have := b5.1; unfold q1 at this; exact this)
 have c0 := b0.2
 have c1 := b1.2
 have c2 := b2.2
 have c3 := b3.2
 have c4 := b4.2
 have c5 := b5.2
 have c6 := b6.2
 change (q5 u).1.size = 1 + (q6 u).1.size at c1
 change (q4 u).1.size = 1 + (q5 u).1.size at c2
 change (q3 u).1.size = 4 + (q4 u).1.size at c3
 change (q2 u).1.size = 4 + (q3 u).1.size at c4
 change (q1 u).1.size = 4 + (q2 u).1.size at c5
 change u.size = 4 + (q1 u).1.size at c6
 omega
structure PK (w W : World) (bx rb bs : Nat) (r : RS) (f t m nb : Int) (vf : Value) (l : List (Int × B4)) : Prop where
 pj : PJ w W bx rb r
 box : W.heap[bs]? = some (.cells #[.int .i64 f, .int .i64 t, .int .i64 m, .int .i64 nb, vf] 135 (0, 0))
 row : W.ownsRow w.heap.size 137 5 vf l.length (blC l)
 ge : w.heap.size ≤ bs
 ne : bs ≠ bx
theorem PK.read {w W W' : World} {bx rb bs n : Nat} {r : RS} {f t m nb : Int} {vf : Value} {l : List (Int × B4)} (h : PK w W bx rb bs r f t m nb vf l) (hr : PJ w W' bx rb (rdN r n)) (hf : Fr [rb] W W') : PK w W' bx rb bs (rdN r n) f t m nb vf l := by
 have hne : bs ≠ rb := fun e => by
  have h1 := h.box
  have h2 := h.pj.rd
  unfold Rdr at h2
  rw [e, h2] at h1
  simp at h1
 refine ⟨hr, ?_, own_of_block h.row (fun k hk => hf.block k (h.row.lt k hk).2 ?_), h.ge, h.ne⟩
 · rw [hf.block bs (Array.getElem?_eq_some_iff.1 h.box).1 (by simpa using hne)]
   exact h.box
 · intro e
   obtain ⟨_, cur, h2⟩ := own_tag h.row hk
   have h3 := h.pj.rd
   unfold Rdr at h3
   simp at e
   rw [e, h3] at h2
   simp at h2
theorem PK.alloc {w W : World} {bx rb bs : Nat} {r : RS} {f t m nb : Int} {vf : Value} {l : List (Int × B4)} (h : PK w W bx rb bs r f t m nb vf l) (o : Obj) : PK w (W.alloc o) bx rb bs r f t m nb vf l :=
 ⟨h.pj.alloc o, by rw [Below.heap_alloc _ _ _ (Array.getElem?_eq_some_iff.1 h.box).1]; exact h.box, h.row.alloc _, h.ge, h.ne⟩
theorem PK.drew {w W : World} {bx rb bs : Nat} {r : RS} {f t m nb : Int} {vf : Value} {l : List (Int × B4)} (h : PK w W bx rb bs r f t m nb vf l) : PK w W.drew bx rb bs r f t m nb vf l :=
 ⟨⟨h.pj.rd, h.pj.fr.drew, h.pj.box, h.pj.le, h.pj.le2⟩, h.box, own_of_block h.row (fun _ _ => rfl), h.ge, h.ne⟩
theorem PK.other {w W W' : World} {bx rb bs b8 : Nat} {r : RS} {f t m nb : Int} {vf : Value} {l : List (Int × B4)} (h : PK w W bx rb bs r f t m nb vf l) (hf : Fr [b8] W W') (h1 : b8 ≠ bx ∧ b8 ≠ rb ∧ b8 ≠ bs) (h2 : ∀ k, vf.ownBlock = some k → k ≠ b8) (h3 : w.heap.size ≤ b8) : PK w W' bx rb bs r f t m nb vf l := by
 refine ⟨⟨?_, h.pj.fr.trans hf (fun k hk => Or.inr (by simp at hk; subst hk; exact h3)), ?_, h.pj.le, h.pj.le2⟩, ?_, own_of_block h.row (fun k hk => hf.block k (h.row.lt k hk).2 (by simpa using h2 k hk)), h.ge, h.ne⟩
 · have := h.pj.rd
   unfold Rdr at this ⊢
   rw [hf.block rb (Array.getElem?_eq_some_iff.1 this).1 (by simpa using (Ne.symm h1.2.1))]
   exact this
 · rw [hf.block bx (Array.getElem?_eq_some_iff.1 h.pj.box).1 (by simpa using (Ne.symm h1.1))]
   exact h.pj.box
 · rw [hf.block bs (Array.getElem?_eq_some_iff.1 h.box).1 (by simpa using (Ne.symm h1.2.2))]
   exact h.box
theorem PK.lts {w W : World} {bx rb bs : Nat} {r : RS} {f t m nb : Int} {vf : Value} {l : List (Int × B4)} (h : PK w W bx rb bs r f t m nb vf l) : bx < W.heap.size ∧ rb < W.heap.size ∧ bs < W.heap.size ∧ ∀ k, vf.ownBlock = some k → k < W.heap.size := by
 have := h.pj.rd
 unfold Rdr at this
 exact ⟨(Array.getElem?_eq_some_iff.1 h.pj.box).1, (Array.getElem?_eq_some_iff.1 this).1, (Array.getElem?_eq_some_iff.1 h.box).1, fun k hk => (h.row.lt k hk).2⟩
theorem PK.push {w wr w9 : World} {bx rb bs : Nat} {r : RS} {f t m nb : Int} {vf v9 : Value} {l : List (Int × B4)} {x : Int × B4} (h : PK w wr bx rb bs r f t m nb vf l) (ho : w9.ownsRow w.heap.size 137 5 v9 (l.length + 1) (blC l ++ bkC x)) (hg : wr.grownBy w9 vf.ownBlock) :
  PK w (w9.setCell ⟨bs, 4, none⟩ v9) bx rb bs r f t m nb v9 (l ++ [x]) ∧ w9.cell? ⟨bs, 4, none⟩ = some vf ∧ w9.frozen? ⟨bs, 4, none⟩ = false := by
 have tag : ∀ k, vf.ownBlock = some k → ∃ cur, wr.heap[k]? = some (.cells cur 137 (0, 0)) := fun k hk => (own_tag h.row hk).2
 have rd := h.pj.rd
 unfold Rdr at rd
 have hbx := h.pj.box
 unfold z116 at hbx
 have n1 : some bs ≠ vf.ownBlock := fun e => by
  obtain ⟨cur, h2⟩ := tag bs e.symm
  rw [h.box] at h2
  simp at h2
 have n2 : some rb ≠ vf.ownBlock := fun e => by
  obtain ⟨cur, h2⟩ := tag rb e.symm
  rw [rd] at h2
  simp at h2
 have n3 : some bx ≠ vf.ownBlock := fun e => by
  obtain ⟨cur, h2⟩ := tag bx e.symm
  rw [hbx] at h2
  simp at h2
 obtain ⟨l1, l2, l3, l4⟩ := h.lts
 have b9 : w9.heap[bs]? = some (.cells #[.int .i64 f, .int .i64 t, .int .i64 m, .int .i64 nb, vf] 135 (0, 0)) := by rw [hg.block bs l3 n1]; exact h.box
 have r9 : w9.heap[rb]? = some (.cells #[.string r.1, .bool r.2] 166 (0, 0)) := by rw [hg.block rb l2 n2]; exact rd
 have x9 : w9.heap[bx]? = some z116 := by rw [hg.block bx l1 n3]; exact h.pj.box
 have hrs : rb ≠ bs := fun e => by rw [e, b9] at r9; simp at r9
 have hne9 : ∀ k, v9.ownBlock = some k → k ≠ bs := fun k hk e => by
  obtain ⟨_, cur, h2⟩ := own_tag ho hk
  rw [e, b9] at h2
  simp at h2
 refine ⟨⟨⟨?_, (h.pj.fr.grown hg (fun k hk => Or.inr (h.row.lt k hk).1)).setCell _ (Or.inr h.ge), ?_, h.pj.le, h.pj.le2⟩, ?_, ?_, h.ge, h.ne⟩, ?_, froz_of b9 _⟩
 · unfold Rdr
   rw [heap_setCell_other _ _ _ _ hrs]
   exact r9
 · rw [heap_setCell_other _ _ _ _ (Ne.symm h.ne)]
   exact x9
 · rw [heap_setCell_same w9 bs 4 _ _ _ b9]
   rfl
 · have e : blC (l ++ [x]) = blC l ++ bkC x := by simp [blC]
   rw [e, List.length_append]
   exact own_of_block ho (fun k hk => heap_setCell_other _ _ _ _ (hne9 k hk))
 · rw [cell_of b9]
   rfl
set_option maxRecDepth 100000 in
set_option maxHeartbeats 3200000 in
theorem mb_no (f t m nb : Int) (l : List (Int × B4)) (v : Value) (base : Nat) (w : World) (ho : w.ownsRow base 137 5 v l.length (blC l)) (hm0 : 0 ≤ m)
  (kd : ¬ ((f = 0 ∨ 1 ≤ f ∧ f ≤ 999999999) ∧ (1 ≤ t ∧ t ≤ 999999999) ∧ f ≠ t ∧ m ≤ 1073741824 ∧ (1 ≤ nb ∧ nb ≤ 16) ∧ (f = 0 → (l.length : Int) = nb))) :
  Calls Tryz.prog 108 #[.agg #[.int .i64 f, .int .i64 t, .int .i64 m, .int .i64 nb, v]] w fun e w' => e = .returned (.bool false) ∧ Fr [] w w' := by
 obtain ⟨ao, cap, hsh⟩ := own_shape ho
 subst hsh
 obtain ⟨bx, hbx⟩ : ∃ bx, w.heap.size = bx := ⟨_, rfl⟩
 obtain ⟨n, hn⟩ : ∃ n, l.length = n := ⟨_, rfl⟩
 rw [hn] at kd ⊢
 have kd' : (f = 0 ∧ (¬ (1 ≤ t ∧ t ≤ 999999999) ∨ (1 ≤ t ∧ t ≤ 999999999) ∧ (1073741824 < m ∨ m ≤ 1073741824 ∧ (nb < 1 ∨ ¬ nb < 1 ∧ (16 < nb ∨ ¬ 16 < nb ∧ (n : Int) ≠ nb))))) ∨ (f ≠ 0 ∧ ¬ (1 ≤ f ∧ f ≤ 999999999) ∧ (¬ (1 ≤ t ∧ t ≤ 999999999) ∨ (1 ≤ t ∧ t ≤ 999999999))) ∨ ((1 ≤ f ∧ f ≤ 999999999) ∧ (¬ (1 ≤ t ∧ t ≤ 999999999) ∨ (1 ≤ t ∧ t ≤ 999999999) ∧ (f = t ∨ f ≠ t ∧ (1073741824 < m ∨ m ≤ 1073741824 ∧ (nb < 1 ∨ ¬ nb < 1 ∧ 16 < nb))))) := by omega
 clear kd
 obtain ⟨g1, hg1⟩ : ∃ g1 : Bool, (decide (1 ≤ t) && decide (t ≤ 999999999)) = g1 := ⟨_, rfl⟩
 obtain ⟨g0, hg0⟩ : ∃ g0 : Bool, (decide (1 ≤ f) && decide (f ≤ 999999999)) = g0 := ⟨_, rfl⟩
 have HG1 : Hid (∀ W, Calls Tryz.prog 131 #[.int .i64 t] W fun e w' => e = .returned (.bool g1) ∧ w' = W) := fun W => by rw [← hg1]; exact isGuid_any t W
 have HG0 : Hid (∀ W, Calls Tryz.prog 131 #[.int .i64 f] W fun e w' => e = .returned (.bool g0) ∧ w' = W) := fun W => by rw [← hg0]; exact isGuid_any f W
 obtain ⟨w0, hw0⟩ : ∃ w0, w.alloc (.cells #[.int .i64 f, .int .i64 t, .int .i64 m, .int .i64 nb, .slice ao n cap] 135) = w0 := ⟨_, rfl⟩
 have b0 : w0.heap[bx]? = some (.cells #[.int .i64 f, .int .i64 t, .int .i64 m, .int .i64 nb, .slice ao n cap] 135 (0, 0)) := by rw [← hw0, ← hbx]; exact heap_alloc_new w _
 have HB : Hid (Fr [] w w0) := by rw [← hw0]; exact (Fr.refl _ _).alloc _
 have e0 : w0.cell? ⟨bx, 0, none⟩ = some (.int .i64 f) := by rw [cell_of b0]; rfl
 have e1 : w0.cell? ⟨bx, 1, none⟩ = some (.int .i64 t) := by rw [cell_of b0]; rfl
 have e2 : w0.cell? ⟨bx, 2, none⟩ = some (.int .i64 m) := by rw [cell_of b0]; rfl
 have e3 : w0.cell? ⟨bx, 3, none⟩ = some (.int .i64 nb) := by rw [cell_of b0]; rfl
 have e4 : w0.cell? ⟨bx, 4, none⟩ = some (.slice ao n cap) := by rw [cell_of b0]; rfl
 have hw0' := hw0
 clear hw0 ho b0 hn
 rcases kd' with ⟨k0, k1 | ⟨k1, k2 | ⟨k2, k3 | ⟨k3, k4 | ⟨k4, k5⟩⟩⟩⟩⟩ | ⟨k0, k6, k1 | k1⟩ | ⟨k6, k1 | ⟨k1, k7 | ⟨k7, k2 | ⟨k2, k3 | ⟨k3, k4⟩⟩⟩⟩⟩
 all_goals
  try have a1 : g1 = true := by rw [← hg1]; simp; omega
  try subst a1
  try have a1 : g1 = false := by rw [← hg1]; simp; omega
  try subst a1
  try have a0 : g0 = true := by rw [← hg0]; simp; omega
  try subst a0
  try have a0 : g0 = false := by rw [← hg0]; simp; omega
  try subst a0
  try have tf : (f == 0) = true := by simp; omega
  try have tf0 : (f == 0) = false := by simp; omega
  try have tft : (f == t) = true := by simp; omega
  try have tft0 : (f == t) = false := by simp; omega
  have tm1 : (0 : Int) ≤ m := hm0
  try have tm2 : m ≤ 1073741824 := by omega
  try have tm3 : decide (m ≤ 1073741824) = false := by simp; omega
  try have tn1 : ¬ nb < 1 := by omega
  try have tn2 : ¬ (16 : Int) < nb := by omega
  try have tn3 : ((n : Int) != nb) = true := by simp; omega
  try have tn1' : nb < 1 := by omega
  try have tn2' : (16 : Int) < nb := by omega
  clear hg1 hg0 k1
  try clear k0
  try clear k2
  try clear k3
  try clear k4
  try clear k5
  try clear k6
  try clear k7
  go_enter Tryz.func108, Tryz.ntmps108
  go_wp2_with (first
   | (go_at_call_of 131 (Value.int .i64 f); refine (HG0.out _).mono ?_; rintro e w' ⟨rfl, hw'⟩; have hw' := hw'.symm; subst hw')
   | (go_at_call_of 131 (Value.int .i64 t); refine (HG1.out _).mono ?_; rintro e w' ⟨rfl, hw'⟩; have hw' := hw'.symm; subst hw'))
  go_ret
  exact ⟨rfl, HB.out⟩
set_option maxRecDepth 100000 in
set_option maxHeartbeats 3200000 in
theorem mb_z_r (t m nb : Int) (l : List (Int × B4)) (v : Value) (base : Nat) (w : World) (ho : w.ownsRow base 137 5 v l.length (blC l)) (hl : l.length ≤ 255) (hm0 : 0 ≤ m)
  (ht : 1 ≤ t ∧ t ≤ 999999999) (hm : m ≤ 1073741824) (hnb : 1 ≤ nb ∧ nb ≤ 16) (h0 : (l.length : Int) = nb) (hxb : ∀ x ∈ l, 0 ≤ x.1 ∧ x.1 < 256) (hnr : ¬ Rises nb l) :
  Calls Tryz.prog 108 #[.agg #[.int .i64 0, .int .i64 t, .int .i64 m, .int .i64 nb, v]] w fun e w' => e = .returned (.bool false) ∧ Fr [] w w' := by
 obtain ⟨ao, cap, hsh⟩ := own_shape ho
 subst hsh
 obtain ⟨bx, hbx⟩ : ∃ bx, w.heap.size = bx := ⟨_, rfl⟩
 obtain ⟨n, hn⟩ : ∃ n, l.length = n := ⟨_, rfl⟩
 rw [hn] at hl
 obtain ⟨w0, hw0⟩ : ∃ w0, w.alloc (.cells #[.int .i64 0, .int .i64 t, .int .i64 m, .int .i64 nb, .slice ao n cap] 135) = w0 := ⟨_, rfl⟩
 have b0 : w0.heap[bx]? = some (.cells #[.int .i64 0, .int .i64 t, .int .i64 m, .int .i64 nb, .slice ao n cap] 135 (0, 0)) := by rw [← hw0, ← hbx]; exact heap_alloc_new w _
 have F0 : Fr [] w w0 := by rw [← hw0]; exact (Fr.refl _ _).alloc _
 have e0 : w0.cell? ⟨bx, 0, none⟩ = some (.int .i64 0) := by rw [cell_of b0]; rfl
 have e1 : w0.cell? ⟨bx, 1, none⟩ = some (.int .i64 t) := by rw [cell_of b0]; rfl
 have e2 : w0.cell? ⟨bx, 2, none⟩ = some (.int .i64 m) := by rw [cell_of b0]; rfl
 have e3 : w0.cell? ⟨bx, 3, none⟩ = some (.int .i64 nb) := by rw [cell_of b0]; rfl
 have e4 : w0.cell? ⟨bx, 4, none⟩ = some (.slice ao n cap) := by rw [cell_of b0]; rfl
 have HB : Hid (w0.heap[bx]? = some (.cells #[.int .i64 0, .int .i64 t, .int .i64 m, .int .i64 nb, .slice ao n cap] 135 (0, 0)) ∧ Fr [] w w0 ∧ w.ownsRow base 137 5 (.slice ao l.length cap) l.length (blC l) ∧ l.length = n) := ⟨b0, F0, ho, hn⟩
 have HG1 : Hid (∀ W, Calls Tryz.prog 131 #[.int .i64 t] W fun e w' => e = .returned (.bool true) ∧ w' = W) := fun W => by
  have := isGuid_any t W
  rw [show (decide (1 ≤ t) && decide (t ≤ 999999999)) = true by simp; omega] at this
  exact this
 have tm1 : (0 : Int) ≤ m := hm0
 have tft : ((0 : Int) == t) = false := by simp; omega
 have tm2 : m ≤ 1073741824 := hm
 have tn1 : ¬ nb < 1 := by omega
 have tn2 : ¬ (16 : Int) < nb := by omega
 rw [hn] at h0
 have tn3 : ((n : Int) != nb) = false := by simpa using h0
 have HXB : Hid (∀ x ∈ l, 0 ≤ x.1 ∧ x.1 < 256) := hxb
 have HNR : Hid (¬ Rises nb l) := hnr
 clear h0 hxb hnr
 rw [hn] at ho ⊢
 have hw0' := hw0
 clear hw0 ho b0 F0
 go_enter Tryz.func108, Tryz.ntmps108
 go_wp2_with (go_at_call 131; refine (HG1.out _).mono ?_; rintro e w' ⟨rfl, hw'⟩; have hw' := hw'.symm; subst hw')
 clear tm1 tm2 tn1 tn2 tn3
 go_loopw [5, 67] (fun ls i wr => ∃ k : Nat, k ≤ n ∧ i = .int .i64 k ∧ ls = .int .i64 (least l k) ∧ (∀ j (h : j < l.length), j < k → least l j ≤ l[j].1 ∧ l[j].1 < nb) ∧ Hid (Fr [] w0 wr)) (fun _ i _ => n - (intOf i).toNat)
 case atStart => exact ⟨0, Nat.zero_le _, rfl, rfl, fun j _ h => absurd h (Nat.not_lt_zero _), Fr.refl _ _⟩
 case round =>
  obtain ⟨k, hk, rfl, rfl, hpf, HK⟩ := hrel
  obtain ⟨W3, hW3⟩ : ∃ W3, W3 = wr := ⟨_, rfl⟩
  subst hW3
  clear e0 e1 e2 e3 e4 hw0'
  have HPF : Hid (∀ j (h : j < l.length), j < k → least l j ≤ l[j].1 ∧ l[j].1 < nb) := hpf
  clear hpf
  by_cases hlt : k < n
  · have hltz : (k : Int) < (n : Int) := by omega
    have hll : k < l.length := by rw [HB.out.2.2.2]; exact hlt
    have hor := own_fr' HB.out.2.2.1 (HB.out.2.1.tr HK.out)
    obtain ⟨lg, hlg, hc9, hcc⟩ := own_addr' hor (by omega)
    subst hlg
    have hb5 := blC_get l k hll
    obtain ⟨x, hx⟩ : ∃ x, l[k] = x := ⟨_, rfl⟩
    rw [hx] at hb5
    have d0 : W3.cell? ⟨lg, k * 5, none⟩ = some (.int .i64 x.1) := by rw [hcc _ (by omega)]; exact hb5.1
    have d1 : W3.cell? ⟨lg, k * 5 + 1, none⟩ = some (.int .u8 (x.2.a.toNat : Int)) := by rw [hcc _ (by omega)]; exact hb5.2.1
    have d2 : W3.cell? ⟨lg, k * 5 + 2, none⟩ = some (.int .u8 (x.2.b.toNat : Int)) := by rw [hcc _ (by omega)]; exact hb5.2.2.1
    have d3 : W3.cell? ⟨lg, k * 5 + 3, none⟩ = some (.int .u8 (x.2.c.toNat : Int)) := by rw [hcc _ (by omega)]; exact hb5.2.2.2.1
    have d4 : W3.cell? ⟨lg, k * 5 + 4, none⟩ = some (.int .u8 (x.2.d.toNat : Int)) := by rw [hcc _ (by omega)]; exact hb5.2.2.2.2
    have x3 : W3.cell? ⟨bx, 3, none⟩ = some (.int .i64 nb) := by
     have hh : W3.heap[bx]? = _ := (HK.out.block bx (Array.getElem?_eq_some_iff.1 HB.out.1).1 (by simp)).trans HB.out.1
     rw [cell_of hh]
     rfl
    have lbx : bx < W3.heap.size := World.block_lt_of_cell? _ _ x3
    have hsx : least l (k + 1) = x.1 + 1 := by rw [least_succ l k hll, hx]
    obtain ⟨z, hz⟩ : ∃ z, least l k = z := ⟨_, rfl⟩
    have HXX : Hid (l[k] = x ∧ least l k = z) := ⟨hx, hz⟩
    rw [hz]
    have HSX : Hid (least l (k + 1) = x.1 + 1) := hsx
    have hxb := HXB.out x (by rw [← hx]; exact List.getElem_mem _)
    have e5 : IntKind.i64.wrap (x.1 + 1) = x.1 + 1 := wrap_fit' (by omega) (by omega)
    clear hcc hb5 hx hor hsx hz
    by_cases r1 : x.1 < z
    · go_wp2
      go_ret
      exact ⟨rfl, (HB.out.2.1.tr HK.out).alloc _⟩
    · by_cases r2 : nb ≤ x.1
      · go_wp2
        go_ret
        exact ⟨rfl, (HB.out.2.1.tr HK.out).alloc _⟩
      · go_wp2
        go_roundw
        case rel =>
         refine ⟨k + 1, by omega, by go_num, by rw [HSX.out], fun j hj hjk => ?_, HK.out.alloc _⟩
         rcases Nat.lt_succ_iff_lt_or_eq.1 hjk with h1 | h1
         · exact HPF.out j hj h1
         · subst h1
           rw [HXX.out.1, HXX.out.2]
           omega
        case measure => simp [intOf]; omega
  · exact absurd (fun j hj => HPF.out j hj (by have := HB.out.2.2.2; omega)) HNR.out
set_option maxRecDepth 100000 in
set_option maxHeartbeats 3200000 in
theorem mb_g_r (f : Int) (t m nb : Int) (l : List (Int × B4)) (v : Value) (base : Nat) (w : World) (ho : w.ownsRow base 137 5 v l.length (blC l)) (hl : l.length ≤ 255) (hm0 : 0 ≤ m)
  (hf : 1 ≤ f ∧ f ≤ 999999999) (ht : 1 ≤ t ∧ t ≤ 999999999) (hft : f ≠ t) (hm : m ≤ 1073741824) (hnb : 1 ≤ nb ∧ nb ≤ 16) (hxb : ∀ x ∈ l, 0 ≤ x.1 ∧ x.1 < 256) (hnr : ¬ Rises nb l) :
  Calls Tryz.prog 108 #[.agg #[.int .i64 f, .int .i64 t, .int .i64 m, .int .i64 nb, v]] w fun e w' => e = .returned (.bool false) ∧ Fr [] w w' := by
 obtain ⟨ao, cap, hsh⟩ := own_shape ho
 subst hsh
 obtain ⟨bx, hbx⟩ : ∃ bx, w.heap.size = bx := ⟨_, rfl⟩
 obtain ⟨n, hn⟩ : ∃ n, l.length = n := ⟨_, rfl⟩
 rw [hn] at hl
 obtain ⟨w0, hw0⟩ : ∃ w0, w.alloc (.cells #[.int .i64 f, .int .i64 t, .int .i64 m, .int .i64 nb, .slice ao n cap] 135) = w0 := ⟨_, rfl⟩
 have b0 : w0.heap[bx]? = some (.cells #[.int .i64 f, .int .i64 t, .int .i64 m, .int .i64 nb, .slice ao n cap] 135 (0, 0)) := by rw [← hw0, ← hbx]; exact heap_alloc_new w _
 have F0 : Fr [] w w0 := by rw [← hw0]; exact (Fr.refl _ _).alloc _
 have e0 : w0.cell? ⟨bx, 0, none⟩ = some (.int .i64 f) := by rw [cell_of b0]; rfl
 have e1 : w0.cell? ⟨bx, 1, none⟩ = some (.int .i64 t) := by rw [cell_of b0]; rfl
 have e2 : w0.cell? ⟨bx, 2, none⟩ = some (.int .i64 m) := by rw [cell_of b0]; rfl
 have e3 : w0.cell? ⟨bx, 3, none⟩ = some (.int .i64 nb) := by rw [cell_of b0]; rfl
 have e4 : w0.cell? ⟨bx, 4, none⟩ = some (.slice ao n cap) := by rw [cell_of b0]; rfl
 have HB : Hid (w0.heap[bx]? = some (.cells #[.int .i64 f, .int .i64 t, .int .i64 m, .int .i64 nb, .slice ao n cap] 135 (0, 0)) ∧ Fr [] w w0 ∧ w.ownsRow base 137 5 (.slice ao l.length cap) l.length (blC l) ∧ l.length = n) := ⟨b0, F0, ho, hn⟩
 have HG1 : Hid (∀ W, Calls Tryz.prog 131 #[.int .i64 t] W fun e w' => e = .returned (.bool true) ∧ w' = W) := fun W => by
  have := isGuid_any t W
  rw [show (decide (1 ≤ t) && decide (t ≤ 999999999)) = true by simp; omega] at this
  exact this
 have HG0 : Hid (∀ W, Calls Tryz.prog 131 #[.int .i64 f] W fun e w' => e = .returned (.bool true) ∧ w' = W) := fun W => by
  have := isGuid_any f W
  rw [show (decide (1 ≤ f) && decide (f ≤ 999999999)) = true by simp; omega] at this
  exact this
 have tf0 : (f == 0) = false := by simp; omega
 have tm1 : (0 : Int) ≤ m := hm0
 have tft : (f == t) = false := by simpa using hft
 have tm2 : m ≤ 1073741824 := hm
 have tn1 : ¬ nb < 1 := by omega
 have tn2 : ¬ (16 : Int) < nb := by omega
 have HXB : Hid (∀ x ∈ l, 0 ≤ x.1 ∧ x.1 < 256) := hxb
 have HNR : Hid (¬ Rises nb l) := hnr
 clear hxb hnr
 rw [hn] at ho ⊢
 have hw0' := hw0
 clear hw0 ho b0 F0
 go_enter Tryz.func108, Tryz.ntmps108
 go_wp2_with (first
  | (go_at_call_of 131 (Value.int .i64 f); refine (HG0.out _).mono ?_; rintro e w' ⟨rfl, hw'⟩; have hw' := hw'.symm; subst hw')
  | (go_at_call_of 131 (Value.int .i64 t); refine (HG1.out _).mono ?_; rintro e w' ⟨rfl, hw'⟩; have hw' := hw'.symm; subst hw'))
 clear tm1 tm2 tn1 tn2 tft
 go_loopw [5, 67] (fun ls i wr => ∃ k : Nat, k ≤ n ∧ i = .int .i64 k ∧ ls = .int .i64 (least l k) ∧ (∀ j (h : j < l.length), j < k → least l j ≤ l[j].1 ∧ l[j].1 < nb) ∧ Hid (Fr [] w0 wr)) (fun _ i _ => n - (intOf i).toNat)
 case atStart => exact ⟨0, Nat.zero_le _, rfl, rfl, fun j _ h => absurd h (Nat.not_lt_zero _), Fr.refl _ _⟩
 case round =>
  obtain ⟨k, hk, rfl, rfl, hpf, HK⟩ := hrel
  obtain ⟨W3, hW3⟩ : ∃ W3, W3 = wr := ⟨_, rfl⟩
  subst hW3
  clear e0 e1 e2 e3 e4 hw0'
  have HPF : Hid (∀ j (h : j < l.length), j < k → least l j ≤ l[j].1 ∧ l[j].1 < nb) := hpf
  clear hpf
  by_cases hlt : k < n
  · have hltz : (k : Int) < (n : Int) := by omega
    have hll : k < l.length := by rw [HB.out.2.2.2]; exact hlt
    have hor := own_fr' HB.out.2.2.1 (HB.out.2.1.tr HK.out)
    obtain ⟨lg, hlg, hc9, hcc⟩ := own_addr' hor (by omega)
    subst hlg
    have hb5 := blC_get l k hll
    obtain ⟨x, hx⟩ : ∃ x, l[k] = x := ⟨_, rfl⟩
    rw [hx] at hb5
    have d0 : W3.cell? ⟨lg, k * 5, none⟩ = some (.int .i64 x.1) := by rw [hcc _ (by omega)]; exact hb5.1
    have d1 : W3.cell? ⟨lg, k * 5 + 1, none⟩ = some (.int .u8 (x.2.a.toNat : Int)) := by rw [hcc _ (by omega)]; exact hb5.2.1
    have d2 : W3.cell? ⟨lg, k * 5 + 2, none⟩ = some (.int .u8 (x.2.b.toNat : Int)) := by rw [hcc _ (by omega)]; exact hb5.2.2.1
    have d3 : W3.cell? ⟨lg, k * 5 + 3, none⟩ = some (.int .u8 (x.2.c.toNat : Int)) := by rw [hcc _ (by omega)]; exact hb5.2.2.2.1
    have d4 : W3.cell? ⟨lg, k * 5 + 4, none⟩ = some (.int .u8 (x.2.d.toNat : Int)) := by rw [hcc _ (by omega)]; exact hb5.2.2.2.2
    have x3 : W3.cell? ⟨bx, 3, none⟩ = some (.int .i64 nb) := by
     have hh : W3.heap[bx]? = _ := (HK.out.block bx (Array.getElem?_eq_some_iff.1 HB.out.1).1 (by simp)).trans HB.out.1
     rw [cell_of hh]
     rfl
    have lbx : bx < W3.heap.size := World.block_lt_of_cell? _ _ x3
    have hsx : least l (k + 1) = x.1 + 1 := by rw [least_succ l k hll, hx]
    obtain ⟨z, hz⟩ : ∃ z, least l k = z := ⟨_, rfl⟩
    have HXX : Hid (l[k] = x ∧ least l k = z) := ⟨hx, hz⟩
    rw [hz]
    have HSX : Hid (least l (k + 1) = x.1 + 1) := hsx
    have hxb := HXB.out x (by rw [← hx]; exact List.getElem_mem _)
    have e5 : IntKind.i64.wrap (x.1 + 1) = x.1 + 1 := wrap_fit' (by omega) (by omega)
    clear hcc hb5 hx hor hsx hz
    by_cases r1 : x.1 < z
    · go_wp2
      go_ret
      exact ⟨rfl, (HB.out.2.1.tr HK.out).alloc _⟩
    · by_cases r2 : nb ≤ x.1
      · go_wp2
        go_ret
        exact ⟨rfl, (HB.out.2.1.tr HK.out).alloc _⟩
      · go_wp2
        go_roundw
        case rel =>
         refine ⟨k + 1, by omega, by go_num, by rw [HSX.out], fun j hj hjk => ?_, HK.out.alloc _⟩
         rcases Nat.lt_succ_iff_lt_or_eq.1 hjk with h1 | h1
         · exact HPF.out j hj h1
         · subst h1
           rw [HXX.out.1, HXX.out.2]
           omega
        case measure => simp [intOf]; omega
  · exact absurd (fun j hj => HPF.out j hj (by have := HB.out.2.2.2; omega)) HNR.out
def MayB (f t m nb : Int) (l : List (Int × B4)) : Prop := (f = 0 ∨ (1 ≤ f ∧ f ≤ 999999999)) ∧ (1 ≤ t ∧ t ≤ 999999999) ∧ f ≠ t ∧ m ≤ 1073741824 ∧ (1 ≤ nb ∧ nb ≤ 16) ∧ (f = 0 → (l.length : Int) = nb) ∧ Rises nb l
theorem rises_len {nb : Int} {l : List (Int × B4)} (h : Rises nb l) : ∀ k, k ≤ l.length → (k : Int) ≤ least l k
 | 0, _ => Int.le_refl _
 | k + 1, hk => by
  have ih := rises_len h k (by omega)
  have := (h k (by omega)).1
  rw [least_succ l k (by omega)]
  omega
theorem rises_le {nb : Int} {l : List (Int × B4)} (h : Rises nb l) (h0 : 0 ≤ nb) : (l.length : Int) ≤ nb := by
 cases hl : l.length with
 | zero => omega
 | succ k =>
  have h1 := rises_len h k (by omega)
  have := h k (by omega)
  omega
theorem mayBe_any (f t m nb : Int) (l : List (Int × B4)) (v : Value) (base : Nat) (w : World) (ho : w.ownsRow base 137 5 v l.length (blC l)) (hl : l.length ≤ 255) (hm0 : 0 ≤ m) (hxb : ∀ x ∈ l, 0 ≤ x.1 ∧ x.1 < 256) (mb : Bool) (hmb : mb = true ↔ MayB f t m nb l) :
  Calls Tryz.prog 108 #[.agg #[.int .i64 f, .int .i64 t, .int .i64 m, .int .i64 nb, v]] w fun e w' => e = .returned (.bool mb) ∧ Fr [] w w' := by
 cases mb with
 | true =>
  obtain ⟨h1, h2, h3, h4, h5, h6, h7⟩ := hmb.1 rfl
  have := rises_le h7 (by omega)
  exact mayBe_ok f t m nb l v base w ho (by omega) h1 h2 h3 ⟨hm0, h4⟩ h5 h6 h7
 | false =>
  have hno : ¬ MayB f t m nb l := fun h => by have := hmb.2 h; cases this
  by_cases k : (f = 0 ∨ 1 ≤ f ∧ f ≤ 999999999) ∧ (1 ≤ t ∧ t ≤ 999999999) ∧ f ≠ t ∧ m ≤ 1073741824 ∧ (1 ≤ nb ∧ nb ≤ 16) ∧ (f = 0 → (l.length : Int) = nb)
  · obtain ⟨k1, ht, hft, hm, hnb, k6⟩ := k
    by_cases hf0 : f = 0
    · subst hf0
      exact mb_z_r t m nb l v base w ho hl hm0 ht hm hnb (k6 rfl) hxb (fun hr => hno ⟨Or.inl rfl, ht, hft, hm, hnb, k6, hr⟩)
    · exact mb_g_r f t m nb l v base w ho hl hm0 (by omega) ht hft hm hnb hxb (fun hr => hno ⟨k1, ht, hft, hm, hnb, k6, hr⟩)
  · exact mb_no f t m nb l v base w ho hm0 k
set_option maxRecDepth 100000 in
set_option maxHeartbeats 1600000 in
theorem receive_form (B b : Nat) (s : Sto) (t : ByteArray) (w : World) (h : Rep B w b 0 s) (hp : ∀ W, Calls Tryz.prog 79 #[.string t] W fun e w' => e = .returned (.tuple #[zeroS, .bool false]) ∧ Fr [] W w') :
  Calls Tryz.prog 52 #[.pointer (some ⟨b, 0, none⟩), .string t] w fun e w' => e = .returned (.tuple #[.int .i64 0, .int .i64 2]) ∧ Rep B w' b 0 s ∧ Fr (foot b s) w w' := by
 obtain ⟨w1, hw1, R1⟩ := h.lk
 have HL := lock_free Tryz.muLib ⟨b, 0, none⟩ w h.cells.1 (h.frozen 0)
 have F1 := lkF s hw1
 have HF : Hid (w.setCell ⟨b, 0, none⟩ (.int .i32 1) = w1 ∧ Rep B w1 b 1 s ∧ Fr (foot b s) w w1) := ⟨hw1, R1, F1⟩
 have HP : Hid (∀ W, Calls Tryz.prog 79 #[.string t] W fun e w' => e = .returned (.tuple #[.agg #[.int .i64 0, .int .i64 0, .int .i64 0, .int .i64 0, .slice none 0 0], .bool false]) ∧ Fr [] W w') := hp
 clear h R1 F1 hw1 hp
 go_enter_defers Tryz.func52, Tryz.ntmps52
 go_wp2_with (first
  | (go_at_call 23; refine HL.mono ?_; rintro e w' ⟨rfl, hw'⟩; rw [HF.out.1] at hw'; have hw' := hw'.symm; subst hw')
  | (go_at_call 79; refine (HP.out _).mono ?_; rintro e w2 ⟨rfl, hfr⟩; have HR2 : Hid (Rep B (w2.alloc (.cells #[.int .i64 0, .int .i64 0, .int .i64 0, .int .i64 0, .slice none 0 0] 135)) b 1 s ∧ Fr (foot b s) w (w2.alloc (.cells #[.int .i64 0, .int .i64 0, .int .i64 0, .int .i64 0, .slice none 0 0] 135))) := ⟨(HF.out.2.1.kept0 hfr).kept0 ((Fr.refl _ _).alloc _), (HF.out.2.2.trans hfr (by simp)).alloc _⟩; clear hfr))
 refine leaves_cons (f := 24) (args := #[.pointer (some ⟨b, 0, none⟩)]) (by simp) (by simp [go_sem]) ?_
 refine (unlock_deferred Tryz.muLib ⟨b, 0, none⟩ .returning _ HR2.out.1.cells.1 (HR2.out.1.frozen 0)).mono ?_
 rintro e u' w'' ⟨rfl, rfl, rfl⟩
 exact ⟨_, results_tmp2 rfl _ _ _, rfl, HR2.out.1.lock 0, HR2.out.2.setCell _ (Or.inl (by simp [foot]))⟩
end Go.Proofs.YthdhegmlknpllaaGreat
