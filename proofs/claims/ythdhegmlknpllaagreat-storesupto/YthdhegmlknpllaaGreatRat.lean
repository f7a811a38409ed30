/-
  The reference's Hold (32), Release (34) and At (30), with their errors.
-/
import Derived.Test.YthdhegmlknpllaaGreatRwr
namespace Go.Proofs.YthdhegmlknpllaaGreat
open Go.RowKit Go.Maps Go.MuLone

set_option maxRecDepth 100000 in
set_option maxHeartbeats 800000 in
theorem rrelease_ok (B b : Nat) (s : RSto) (g : Int) (j : Nat) (x : RSh) (w : World) (h : RRep B w b s) (hl : s.sh.length ≤ 12) (hf : fi (fun y : RSh => y.guid == g) 0 s.sh = (j : Int)) (hx : s.sh[j]? = some x) (hh : 0 < x.holds ∧ x.holds ≤ 9) :
    Calls Tryz.prog 40 #[.pointer (some ⟨b, 0, none⟩), .int .i64 g] w fun e w' => e = .returned (.int .i64 0) ∧ RRep B w' b (s.setH j x (x.holds - 1)) ∧ Fr (rfoot b s) w w' := by
  have hj : j < s.sh.length := (List.getElem?_eq_some_iff.1 hx).1
  have HS := rshot_any B b s g w h (by omega)
  rw [hf] at HS
  obtain ⟨ao, cap, hsv⟩ := own_shape h.sh
  have ho := h.sh
  rw [hsv] at ho
  obtain ⟨gg, hgg, hcap, hcc⟩ := own_addr ho (by omega)
  subst hgg
  have c36 : w.cell? ⟨b, 36, none⟩ = some (.slice (some ⟨gg, 0, none⟩) s.sh.length cap) := by rw [← hsv]; exact h.cells.2.2.2.2.1
  have d2 : w.cell? ⟨gg, j * 36 + 2, none⟩ = some (.int .i64 x.holds) := by
    rw [h.shotC hsv j hj 2 (by omega)]
    rw [List.getElem?_eq_getElem hj] at hx
    have : s.sh[j] = x := by simpa using hx
    rw [this]
    rfl
  have z2 : w.frozen? ⟨gg, j * 36 + 2, none⟩ = false := by
    obtain ⟨_, cur, h1⟩ := own_tag h.sh (k := gg) (by rw [hsv]; rfl)
    exact froz_of h1 _
  have t1 : (x.holds == 0) = false := by simp; omega
  have e1 : IntKind.i64.wrap (x.holds - 1) = x.holds - 1 := wrap_fit ⟨by omega, by omega⟩
  have HE : Hid (RRep B (w.setCell ⟨gg, j * 36 + 2, none⟩ (.int .i64 (x.holds - 1))) b (s.setH j x (x.holds - 1)) ∧ Fr (rfoot b s) w (w.setCell ⟨gg, j * 36 + 2, none⟩ (.int .i64 (x.holds - 1)))) := ⟨h.setH hx _ hsv, (Fr.refl _ _).setCell _ (Or.inl (by simp [rfoot, hsv, Value.ownBlock]))⟩
  obtain ⟨n, hn⟩ : ∃ n, s.sh.length = n := ⟨_, rfl⟩
  have hjn : (j : Int) < (n : Int) := by omega
  rw [hn] at hcap hj hl c36
  clear h hf hx ho hsv hcc hn
  go_enter Tryz.func40, Tryz.ntmps40
  go_wp2_with (first
    | (go_at_call 66; refine HS.mono ?_; rintro e w' ⟨rfl, hw'⟩; have hw' := hw'.symm; subst hw'))
  go_ret
  exact ⟨rfl, HE.out⟩

set_option maxRecDepth 100000 in
set_option maxHeartbeats 800000 in
theorem rhold_full (B b : Nat) (s : RSto) (g : Int) (j : Nat) (x : RSh) (w : World) (h : RRep B w b s) (hl : s.sh.length ≤ 12) (hf : fi (fun y : RSh => y.guid == g) 0 s.sh = (j : Int)) (hx : s.sh[j]? = some x) (hh : 9 ≤ x.holds) :
    Calls Tryz.prog 38 #[.pointer (some ⟨b, 0, none⟩), .int .i64 g] w fun e w' => e = .returned (.int .i64 5) ∧ w' = w := by
  have hj : j < s.sh.length := (List.getElem?_eq_some_iff.1 hx).1
  have HS := rshot_any B b s g w h (by omega)
  rw [hf] at HS
  obtain ⟨ao, cap, hsv⟩ := own_shape h.sh
  have ho := h.sh
  rw [hsv] at ho
  obtain ⟨gg, hgg, hcap, hcc⟩ := own_addr ho (by omega)
  subst hgg
  have c36 : w.cell? ⟨b, 36, none⟩ = some (.slice (some ⟨gg, 0, none⟩) s.sh.length cap) := by rw [← hsv]; exact h.cells.2.2.2.2.1
  have d2 : w.cell? ⟨gg, j * 36 + 2, none⟩ = some (.int .i64 x.holds) := by
    rw [h.shotC hsv j hj 2 (by omega)]
    rw [List.getElem?_eq_getElem hj] at hx
    have : s.sh[j] = x := by simpa using hx
    rw [this]
    rfl
  have t1 : (9 : Int) ≤ x.holds := by omega
  obtain ⟨n, hn⟩ : ∃ n, s.sh.length = n := ⟨_, rfl⟩
  have hjn : (j : Int) < (n : Int) := by omega
  rw [hn] at hcap hj hl c36
  clear h hf hx ho hsv hcc hn
  go_enter Tryz.func38, Tryz.ntmps38
  go_wp2_with (first
    | (go_at_call 66; refine HS.mono ?_; rintro e w' ⟨rfl, hw'⟩; have hw' := hw'.symm; subst hw'))
  go_ret
  exact ⟨rfl, rfl⟩

set_option maxRecDepth 100000 in
set_option maxHeartbeats 800000 in
theorem rrelease_bad (B b : Nat) (s : RSto) (g : Int) (j : Nat) (x : RSh) (w : World) (h : RRep B w b s) (hl : s.sh.length ≤ 12) (hf : fi (fun y : RSh => y.guid == g) 0 s.sh = (j : Int)) (hx : s.sh[j]? = some x) (hh : x.holds = 0) :
    Calls Tryz.prog 40 #[.pointer (some ⟨b, 0, none⟩), .int .i64 g] w fun e w' => e = .returned (.int .i64 1) ∧ w' = w := by
  have hj : j < s.sh.length := (List.getElem?_eq_some_iff.1 hx).1
  have HS := rshot_any B b s g w h (by omega)
  rw [hf] at HS
  obtain ⟨ao, cap, hsv⟩ := own_shape h.sh
  have ho := h.sh
  rw [hsv] at ho
  obtain ⟨gg, hgg, hcap, hcc⟩ := own_addr ho (by omega)
  subst hgg
  have c36 : w.cell? ⟨b, 36, none⟩ = some (.slice (some ⟨gg, 0, none⟩) s.sh.length cap) := by rw [← hsv]; exact h.cells.2.2.2.2.1
  have d2 : w.cell? ⟨gg, j * 36 + 2, none⟩ = some (.int .i64 x.holds) := by
    rw [h.shotC hsv j hj 2 (by omega)]
    rw [List.getElem?_eq_getElem hj] at hx
    have : s.sh[j] = x := by simpa using hx
    rw [this]
    rfl
  have t1 : (x.holds == 0) = true := by simp [hh]
  clear hh
  obtain ⟨n, hn⟩ : ∃ n, s.sh.length = n := ⟨_, rfl⟩
  have hjn : (j : Int) < (n : Int) := by omega
  rw [hn] at hcap hj hl c36
  clear h hf hx ho hsv hcc hn
  go_enter Tryz.func40, Tryz.ntmps40
  go_wp2_with (first
    | (go_at_call 66; refine HS.mono ?_; rintro e w' ⟨rfl, hw'⟩; have hw' := hw'.symm; subst hw'))
  go_ret
  exact ⟨rfl, rfl⟩

set_option maxHeartbeats 400000 in
theorem rhold_none (B b : Nat) (s : RSto) (g : Int) (w : World) (h : RRep B w b s) (hl : s.sh.length ≤ 12) (hf : fi (fun y : RSh => y.guid == g) 0 s.sh = -1) :
    Calls Tryz.prog 38 #[.pointer (some ⟨b, 0, none⟩), .int .i64 g] w fun e w' => e = .returned (.int .i64 3) ∧ w' = w := by
  have HS := rshot_any B b s g w h (by omega)
  rw [hf] at HS
  clear h hf
  go_enter Tryz.func38, Tryz.ntmps38
  go_wp2_with (first
    | (go_at_call 66; refine HS.mono ?_; rintro e w' ⟨rfl, hw'⟩; have hw' := hw'.symm; subst hw'))
  go_ret
  exact ⟨rfl, rfl⟩

set_option maxHeartbeats 400000 in
theorem rrelease_none (B b : Nat) (s : RSto) (g : Int) (w : World) (h : RRep B w b s) (hl : s.sh.length ≤ 12) (hf : fi (fun y : RSh => y.guid == g) 0 s.sh = -1) :
    Calls Tryz.prog 40 #[.pointer (some ⟨b, 0, none⟩), .int .i64 g] w fun e w' => e = .returned (.int .i64 3) ∧ w' = w := by
  have HS := rshot_any B b s g w h (by omega)
  rw [hf] at HS
  clear h hf
  go_enter Tryz.func40, Tryz.ntmps40
  go_wp2_with (first
    | (go_at_call 66; refine HS.mono ?_; rintro e w' ⟨rfl, hw'⟩; have hw' := hw'.symm; subst hw'))
  go_ret
  exact ⟨rfl, rfl⟩

theorem rsh_dat {x : RSh} (h : x.wf) (k : Nat) (hk : k < 16) : x.cells[4 + k]? = some (.string (x.dat[k]'(by rw [h.1]; exact hk))) := by
  unfold RSh.cells
  rw [List.getElem?_append_right (by simp), show 4 + k - [Value.int .i64 x.guid, .int .i64 x.time, .int .i64 x.holds, .int .i64 x.came].length = k by simp, List.getElem?_append_left (by simp [datC, h.1]; exact hk)]
  simp [datC, h.1, hk]

set_option maxRecDepth 100000 in
set_option maxHeartbeats 800000 in
theorem rat_ok (B b : Nat) (s : RSto) (g : Int) (j k : Nat) (x : RSh) (w : World) (h : RRep B w b s) (hl : s.sh.length ≤ 12) (hf : fi (fun y : RSh => y.guid == g) 0 s.sh = (j : Int)) (hx : s.sh[j]? = some x) (hk : k < s.blocks) (hb : s.blocks ≤ 16) (hw : x.wf) :
    Calls Tryz.prog 36 #[.pointer (some ⟨b, 0, none⟩), .int .i64 g, .int .i64 k] w fun e w' => e = .returned (.tuple #[.string (x.dat[k]'(by rw [hw.1]; omega)), .int .i64 0]) ∧ w' = w := by
  have hj : j < s.sh.length := (List.getElem?_eq_some_iff.1 hx).1
  have HS := rshot_any B b s g w h (by omega)
  rw [hf] at HS
  obtain ⟨ao, cap, hsv⟩ := own_shape h.sh
  have ho := h.sh
  rw [hsv] at ho
  obtain ⟨gg, hgg, hcap, hcc⟩ := own_addr ho (by omega)
  subst hgg
  have c36 : w.cell? ⟨b, 36, none⟩ = some (.slice (some ⟨gg, 0, none⟩) s.sh.length cap) := by rw [← hsv]; exact h.cells.2.2.2.2.1
  have c1 := h.cells.2.1
  have d2 : w.cell? ⟨gg, j * 36 + 4 + k, none⟩ = some (.string (x.dat[k]'(by rw [hw.1]; omega))) := by
    rw [show j * 36 + 4 + k = j * 36 + (4 + k) by omega, h.shotC hsv j hj (4 + k) (by omega)]
    rw [List.getElem?_eq_getElem hj] at hx
    have : s.sh[j] = x := by simpa using hx
    rw [this]
    exact rsh_dat hw k (by omega)
  obtain ⟨y, hy⟩ : ∃ y, (x.dat[k]'(by rw [hw.1]; omega)) = y := ⟨_, rfl⟩
  rw [hy] at d2 ⊢
  obtain ⟨n, hn⟩ : ∃ n, s.sh.length = n := ⟨_, rfl⟩
  obtain ⟨m, hm⟩ : ∃ m, s.blocks = m := ⟨_, rfl⟩
  have hjn : (j : Int) < (n : Int) := by omega
  rw [hn] at hcap hj hl c36
  rw [hm] at c1 hk hb
  have k0 : (k : Int) < 16 := by omega
  have k1 : ¬ ((m : Int) ≤ (k : Int)) := by omega
  clear h hf hx ho hsv hcc hn hy hm
  go_enter Tryz.func36, Tryz.ntmps36
  go_wp2_with (first
    | (go_at_call 66; refine HS.mono ?_; rintro e w' ⟨rfl, hw'⟩; have hw' := hw'.symm; subst hw'))
  go_ret2
  exact ⟨rfl, rfl⟩

set_option maxHeartbeats 400000 in
theorem rat_none (B b : Nat) (s : RSto) (g k : Int) (w : World) (h : RRep B w b s) (hl : s.sh.length ≤ 12) (hf : fi (fun y : RSh => y.guid == g) 0 s.sh = -1) :
    Calls Tryz.prog 36 #[.pointer (some ⟨b, 0, none⟩), .int .i64 g, .int .i64 k] w fun e w' => e = .returned (.tuple #[.string ⟨#[]⟩, .int .i64 3]) ∧ w' = w := by
  have HS := rshot_any B b s g w h (by omega)
  rw [hf] at HS
  clear h hf
  go_enter Tryz.func36, Tryz.ntmps36
  go_wp2_with (first
    | (go_at_call 66; refine HS.mono ?_; rintro e w' ⟨rfl, hw'⟩; have hw' := hw'.symm; subst hw'))
  go_ret2
  exact ⟨rfl, rfl⟩

set_option maxHeartbeats 400000 in
theorem rat_arg (B b : Nat) (s : RSto) (g k : Int) (j : Nat) (w : World) (h : RRep B w b s) (hl : s.sh.length ≤ 12) (hf : fi (fun y : RSh => y.guid == g) 0 s.sh = (j : Int)) (hk : (decide (0 ≤ k) && decide (k < s.blocks)) = false) :
    Calls Tryz.prog 36 #[.pointer (some ⟨b, 0, none⟩), .int .i64 g, .int .i64 k] w fun e w' => e = .returned (.tuple #[.string ⟨#[]⟩, .int .i64 1]) ∧ w' = w := by
  have HS := rshot_any B b s g w h (by omega)
  rw [hf] at HS
  have c1 := h.cells.2.1
  obtain ⟨n, hn⟩ : ∃ n, s.blocks = n := ⟨_, rfl⟩
  rw [hn] at c1 hk
  have j0 : ¬ ((j : Int) < 0) := by omega
  clear h hf hn
  by_cases h0 : k < 0
  · clear hk
    go_enter Tryz.func36, Tryz.ntmps36
    go_wp2_with (first
      | (go_at_call 66; refine HS.mono ?_; rintro e w' ⟨rfl, hw'⟩; have hw' := hw'.symm; subst hw'))
    go_ret2
    exact ⟨rfl, rfl⟩
  · have h1 : (n : Int) ≤ k := by
      simp at hk
      omega
    clear hk
    go_enter Tryz.func36, Tryz.ntmps36
    go_wp2_with (first
      | (go_at_call 66; refine HS.mono ?_; rintro e w' ⟨rfl, hw'⟩; have hw' := hw'.symm; subst hw'))
    go_ret2
    exact ⟨rfl, rfl⟩
end Go.Proofs.YthdhegmlknpllaaGreat
