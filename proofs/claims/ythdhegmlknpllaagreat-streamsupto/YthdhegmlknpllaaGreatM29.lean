import Derived.Test.YthdhegmlknpllaaGreatM03
/-
  The walk of cameOf (61).
-/
namespace Go.Proofs.YthdhegmlknpllaaGreat
open Go.RowKit Go.Maps Go.MuLone

theorem ss_at {B : Nat} {w : World} {b : Nat} {q : Int} {s : Sto} (h : Rep B w b q s) {j : Nat} {x : Sn} (hx : s.ss[j]? = some x) : ∃ gg cap, s.sv = .slice (some ⟨gg, 0, none⟩) s.ss.length cap ∧ s.ss.length ≤ cap ∧ w.cell? ⟨gg, j * 4, none⟩ = some (.int .i64 x.guid) ∧ w.cell? ⟨gg, j * 4 + 1, none⟩ = some (.int .i64 x.time) ∧ w.cell? ⟨gg, j * 4 + 3, none⟩ = some (.int .i64 x.came) := by
  have hj : j < s.ss.length := (List.getElem?_eq_some_iff.1 hx).1
  obtain ⟨ao, cap, hsv⟩ := own_shape h.ss
  have ho := h.ss
  rw [hsv] at ho
  obtain ⟨gg, hgg, hcap, hc⟩ := own_addr ho (by omega)
  subst hgg
  have e : s.ss[j] = x := by
    rw [List.getElem?_eq_getElem hj] at hx
    simpa using hx
  have h2 := snC_get s.ss j hj
  rw [e] at h2
  exact ⟨gg, cap, hsv, hcap, by rw [hc _ (by omega)]; exact h2.1, by rw [hc _ (by omega)]; exact h2.2.1, by rw [hc _ (by omega)]; exact h2.2.2.2⟩

theorem ms_at {B : Nat} {w : World} {b : Nat} {q : Int} {s : Sto} (h : Rep B w b q s) {j : Nat} {x : Int × Int} (hx : s.ms[j]? = some x) : ∃ gg cap, s.mv = .slice (some ⟨gg, 0, none⟩) s.ms.length cap ∧ s.ms.length ≤ cap ∧ w.cell? ⟨gg, j * 2 + 1, none⟩ = some (.int .i64 x.2) := by
  have hj : j < s.ms.length := (List.getElem?_eq_some_iff.1 hx).1
  obtain ⟨ao, cap, hsv⟩ := own_shape h.ms
  have ho := h.ms
  rw [hsv] at ho
  obtain ⟨gg, hgg, hcap, hc⟩ := own_addr ho (by omega)
  subst hgg
  have e : s.ms[j] = x := by
    rw [List.getElem?_eq_getElem hj] at hx
    simpa using hx
  have h2 := mkC_get s.ms j hj
  rw [e] at h2
  exact ⟨gg, cap, hsv, hcap, by rw [hc _ (by omega)]; exact h2.2⟩

set_option maxRecDepth 100000 in
set_option maxHeartbeats 800000 in
theorem came_snap (B b : Nat) (q : Int) (s : Sto) (g : Int) (j : Nat) (x : Sn) (w : World) (h : Rep B w b q s) (hl : s.ss.length ≤ 12) (hg : (g == 0) = false) (hf : fi (fun y : Sn => y.guid == g) 0 s.ss = (j : Int)) (hx : s.ss[j]? = some x) :
    Calls Tryz.prog 74 #[.pointer (some ⟨b, 0, none⟩), .int .i64 g] w fun e w' => e = .returned (.tuple #[.int .i64 x.came, .bool true]) ∧ Fr [] w w' := by
  have HS := findSnapshot_any B b q s g w h (by omega)
  rw [hf] at HS
  have hj : j < s.ss.length := (List.getElem?_eq_some_iff.1 hx).1
  have HH : Hid (Rep B w b q s ∧ s.ss[j]? = some x) := ⟨h, hx⟩
  obtain ⟨n, hn⟩ : ∃ n, s.ss.length = n := ⟨_, rfl⟩
  have HN : Hid (s.ss.length = n) := hn
  have hjn : (j : Int) < (n : Int) := by omega
  have j0 : (0 : Int) ≤ (j : Int) := by omega
  obtain ⟨gg, cap, hsv, hcap, _, _, _⟩ := ss_at h hx
  have HV : Hid (s.sv = .slice (some ⟨gg, 0, none⟩) s.ss.length cap) := hsv
  clear h hx hf hsv
  rw [hn] at hcap hj hl
  clear hn
  go_enter Tryz.func74, Tryz.ntmps74
  go_wp2_with (go_at_call 65; refine HS.mono ?_; rintro e w2 ⟨rfl, hfr⟩; have HR2 : Hid (Rep B w2 b q s ∧ Fr [] w w2) := ⟨HH.out.1.kept0 hfr, hfr⟩; have c4 : w2.cell? ⟨b, 4, none⟩ = some (.slice (some ⟨gg, 0, none⟩) n cap) := (by rw [← HN.out, ← HV.out]; exact HR2.out.1.cells.2.2.2.1); have d3 : w2.cell? ⟨gg, j * 4 + 3, none⟩ = some (.int .i64 x.came) := (by obtain ⟨g', c', e', _, _, _, h5⟩ := ss_at HR2.out.1 HH.out.2; rw [HV.out] at e'; have : gg = g' := (by simpa using (Value.slice.inj e').1); rw [this]; exact h5); clear hfr)
  go_ret2
  exact ⟨rfl, HR2.out.2⟩

set_option maxRecDepth 100000 in
set_option maxHeartbeats 800000 in
theorem came_mark (B b : Nat) (q : Int) (s : Sto) (g : Int) (j : Nat) (x : Int × Int) (w : World) (h : Rep B w b q s) (hl : s.ss.length ≤ 12) (hm : s.ms.length ≤ 12) (hg : (g == 0) = false) (hf : fi (fun y : Sn => y.guid == g) 0 s.ss = -1) (hf2 : fi (fun y : Int × Int => y.1 == g) 0 s.ms = (j : Int)) (hx : s.ms[j]? = some x) :
    Calls Tryz.prog 74 #[.pointer (some ⟨b, 0, none⟩), .int .i64 g] w fun e w' => e = .returned (.tuple #[.int .i64 x.2, .bool true]) ∧ Fr [] w w' := by
  have HS := findSnapshot_any B b q s g w h (by omega)
  rw [hf] at HS
  have HM : Hid (∀ W, Rep B W b q s → Calls Tryz.prog 69 #[.pointer (some ⟨b, 0, none⟩), .int .i64 g] W fun e w' => e = .returned (.int .i64 (j : Int)) ∧ Fr [] W w') := fun W hW => by
    have := findMark_any B b q s g W hW (by omega)
    rw [hf2] at this
    exact this
  have hj : j < s.ms.length := (List.getElem?_eq_some_iff.1 hx).1
  have HH : Hid (Rep B w b q s ∧ s.ms[j]? = some x) := ⟨h, hx⟩
  obtain ⟨n, hn⟩ : ∃ n, s.ms.length = n := ⟨_, rfl⟩
  have HN : Hid (s.ms.length = n) := hn
  have hjn : (j : Int) < (n : Int) := by omega
  have j0 : (0 : Int) ≤ (j : Int) := by omega
  obtain ⟨gg, cap, hsv, hcap, _⟩ := ms_at h hx
  have HV : Hid (s.mv = .slice (some ⟨gg, 0, none⟩) s.ms.length cap) := hsv
  clear h hx hf hf2 hsv
  rw [hn] at hcap hj hm
  clear hn
  go_enter Tryz.func74, Tryz.ntmps74
  go_wp2_with (first
    | (go_at_call 65; refine HS.mono ?_; rintro e w2 ⟨rfl, hfr⟩; have HR2 : Hid (Rep B w2 b q s ∧ Fr [] w w2) := ⟨HH.out.1.kept0 hfr, hfr⟩; clear hfr)
    | (go_at_call 69; refine (HM.out _ HR2.out.1).mono ?_; rintro e w3 ⟨rfl, hfr⟩; have HR3 : Hid (Rep B w3 b q s ∧ Fr [] w w3) := ⟨HR2.out.1.kept0 hfr, HR2.out.2.trans hfr (by simp)⟩; have c6 : w3.cell? ⟨b, 6, none⟩ = some (.slice (some ⟨gg, 0, none⟩) n cap) := (by rw [← HN.out, ← HV.out]; exact HR3.out.1.cells.2.2.2.2.2.1); have d3 : w3.cell? ⟨gg, j * 2 + 1, none⟩ = some (.int .i64 x.2) := (by obtain ⟨g', c', e', _, h5⟩ := ms_at HR3.out.1 HH.out.2; rw [HV.out] at e'; have : gg = g' := (by simpa using (Value.slice.inj e').1); rw [this]; exact h5); clear hfr))
  go_ret2
  exact ⟨rfl, HR3.out.2⟩

set_option maxRecDepth 100000 in
set_option maxHeartbeats 800000 in
theorem came_none (B b : Nat) (q : Int) (s : Sto) (g : Int) (w : World) (h : Rep B w b q s) (hl : s.ss.length ≤ 12) (hm : s.ms.length ≤ 12) (hg : (g == 0) = false) (hf : fi (fun y : Sn => y.guid == g) 0 s.ss = -1) (hf2 : fi (fun y : Int × Int => y.1 == g) 0 s.ms = -1) :
    Calls Tryz.prog 74 #[.pointer (some ⟨b, 0, none⟩), .int .i64 g] w fun e w' => e = .returned (.tuple #[.int .i64 0, .bool false]) ∧ Fr [] w w' := by
  have HS := findSnapshot_any B b q s g w h (by omega)
  rw [hf] at HS
  have HM : Hid (∀ W, Rep B W b q s → Calls Tryz.prog 69 #[.pointer (some ⟨b, 0, none⟩), .int .i64 g] W fun e w' => e = .returned (.int .i64 (-1)) ∧ Fr [] W w') := fun W hW => by
    have := findMark_any B b q s g W hW (by omega)
    rw [hf2] at this
    exact this
  have HH : Hid (Rep B w b q s) := h
  clear h hf hf2
  go_enter Tryz.func74, Tryz.ntmps74
  go_wp2_with (first
    | (go_at_call 65; refine HS.mono ?_; rintro e w2 ⟨rfl, hfr⟩; have HR2 : Hid (Rep B w2 b q s ∧ Fr [] w w2) := ⟨HH.out.kept0 hfr, hfr⟩; clear hfr)
    | (go_at_call 69; refine (HM.out _ HR2.out.1).mono ?_; rintro e w3 ⟨rfl, hfr⟩; have HR3 : Hid (Fr [] w w3) := HR2.out.2.trans hfr (by simp); clear hfr))
  go_ret2
  exact ⟨rfl, HR3.out⟩
end Go.Proofs.YthdhegmlknpllaaGreat
