import Derived.Test.YthdhegmlknpllaaGreatM45
/-
  The walk of Receive (32), where the snapshot is there already.
-/
namespace Go.Proofs.YthdhegmlknpllaaGreat
open Go.RowKit Go.Maps Go.MuLone

set_option maxRecDepth 100000 in
set_option maxHeartbeats 3200000 in
theorem receive_dup (B b : Nat) (s : Sto) (tx : ByteArray) (w : World) (h : Rep B w b 0 s) (f t m : Int) (l : List (Int × B4)) (j : Nat)
    (hp : ∀ W, Calls Tryz.prog 79 #[.string tx] W fun e w' => ∃ v, e = .returned (.tuple #[.agg #[.int .i64 f, .int .i64 t, .int .i64 m, .int .i64 (s.vol.length : Int), v], .bool true]) ∧ w'.ownsRow W.heap.size 137 5 v l.length (blC l) ∧ Fr [] W w')
    (hs : s.ss.length ≤ 12) (hf : fi (fun y : Sn => y.guid == t) 0 s.ss = (j : Int)) :
    Calls Tryz.prog 52 #[.pointer (some ⟨b, 0, none⟩), .string tx] w fun e w' => e = .returned (.tuple #[.int .i64 0, .int .i64 7]) ∧ Rep B w' b 0 s ∧ Fr (foot b s) w w' := by
  have R1 := h.lock 1
  obtain ⟨w1, hw1⟩ : ∃ w1, w.setCell ⟨b, 0, none⟩ (.int .i32 1) = w1 := ⟨_, rfl⟩
  rw [hw1] at R1
  have HL := lock_free Tryz.muLib ⟨b, 0, none⟩ w h.cells.1 (h.frozen 0)
  have F1 : Fr (foot b s) w w1 := by rw [← hw1]; exact fr_lock b s w _
  have HF : Hid (w.setCell ⟨b, 0, none⟩ (.int .i32 1) = w1 ∧ Rep B w1 b 1 s ∧ Fr (foot b s) w w1) := ⟨hw1, R1, F1⟩
  obtain ⟨nv, hnv⟩ : ∃ nv, s.vol.length = nv := ⟨_, rfl⟩
  rw [hnv] at hp
  have HP : Hid (∀ W, Calls Tryz.prog 79 #[.string tx] W fun e w' => ∃ v, e = .returned (.tuple #[.agg #[.int .i64 f, .int .i64 t, .int .i64 m, .int .i64 (nv : Int), v], .bool true]) ∧ w'.ownsRow W.heap.size 137 5 v l.length (blC l) ∧ Fr [] W w') := hp
  have HAc : Hid (∀ W v, Rep B W b 1 s → (∃ a n c, v = .slice a n c) → Calls Tryz.prog 80 #[.pointer (some ⟨b, 0, none⟩), .agg #[.int .i64 f, .int .i64 t, .int .i64 m, .int .i64 (nv : Int), v]] W fun e w' => e = .returned (.int .i64 7) ∧ Fr [] W w') := fun W v hW hv => by
    have := accepts_dup B b 1 s f t m v j W hW hs hv hf
    rw [hnv] at this
    exact this
  clear h R1 F1 hw1 hp hf hs hnv
  go_enter_defers Tryz.func52, Tryz.ntmps52
  go_wp2_with (first
    | (go_at_call 23; refine HL.mono ?_; rintro e w' ⟨rfl, hw'⟩; rw [HF.out.1] at hw'; have hw' := hw'.symm; subst hw')
    | (go_at_call 79; refine (HP.out _).mono ?_; rintro e w2 ⟨v, rfl, o2, hfr⟩
       obtain ⟨va, vc, hva⟩ := own_shape o2
       subst hva
       have HR2 : Hid (Rep B (w2.alloc (.cells #[.int .i64 f, .int .i64 t, .int .i64 m, .int .i64 (nv : Int), .slice va l.length vc] 135)) b 1 s ∧ Fr (foot b s) w (w2.alloc (.cells #[.int .i64 f, .int .i64 t, .int .i64 m, .int .i64 (nv : Int), .slice va l.length vc] 135))) := ⟨(HF.out.2.1.kept0 hfr).kept0 ((Fr.refl _ _).alloc _), (HF.out.2.2.trans hfr (by simp)).alloc _⟩
       clear hfr o2)
    | (go_at_call 80; refine (HAc.out _ _ HR2.out.1 ⟨_, _, _, rfl⟩).mono ?_; rintro e w3 ⟨rfl, hfr⟩
       have HR3 : Hid (Rep B w3 b 1 s ∧ Fr (foot b s) w w3) := ⟨HR2.out.1.kept0 hfr, HR2.out.2.trans hfr (by simp)⟩
       clear hfr))
  refine leaves_cons (f := 24) (args := #[.pointer (some ⟨b, 0, none⟩)]) (by simp) (by simp [go_sem]) ?_
  refine (unlock_deferred Tryz.muLib ⟨b, 0, none⟩ .returning _ HR3.out.1.cells.1 (HR3.out.1.frozen 0)).mono ?_
  rintro e u' w'' ⟨rfl, rfl, rfl⟩
  exact ⟨_, results_tmp2 rfl _ _ _, rfl, HR3.out.1.lock 0, HR3.out.2.setCell _ (Or.inl (by simp [foot]))⟩
end Go.Proofs.YthdhegmlknpllaaGreat

/-
  Receive where accepts refuses: accepts (84) where the base is another; Receive (57) with any refusal.
-/
namespace Go.Proofs.YthdhegmlknpllaaGreat
open Go.RowKit Go.Maps Go.MuLone

set_option maxRecDepth 100000 in
set_option maxHeartbeats 1600000 in
theorem accepts_base (B b : Nat) (q : Int) (s : Sto) (f t m : Int) (v : Value) (w : World) (h : Rep B w b q s) (hl : s.ss.length ≤ 12) (hm : s.ms.length ≤ 12) (hv : ∃ a n c, v = .slice a n c) (hf : fi (fun y : Sn => y.guid == t) 0 s.ss = -1) (hf2 : fi (fun y : Int × Int => y.1 == t) 0 s.ms = -1) (hlast : f ≠ lastG s.ss) :
    Calls Tryz.prog 80 #[.pointer (some ⟨b, 0, none⟩), .agg #[.int .i64 f, .int .i64 t, .int .i64 m, .int .i64 s.vol.length, v]] w fun e w' => e = .returned (.int .i64 6) ∧ Fr [] w w' := by
  obtain ⟨va, vn, vc, rfl⟩ := hv
  obtain ⟨bx, hbx⟩ : ∃ bx, w.heap.size = bx := ⟨_, rfl⟩
  obtain ⟨w0, hw0⟩ : ∃ w0, w.alloc (.cells #[.int .i64 f, .int .i64 t, .int .i64 m, .int .i64 s.vol.length, .slice va vn vc] 135) = w0 := ⟨_, rfl⟩
  have b0 : w0.heap[bx]? = some (.cells #[.int .i64 f, .int .i64 t, .int .i64 m, .int .i64 s.vol.length, .slice va vn vc] 135 (0, 0)) := by rw [← hw0, ← hbx]; exact heap_alloc_new w _
  have F0 : Fr [] w w0 := by rw [← hw0]; exact (Fr.refl _ _).alloc _
  have R0 : Rep B w0 b q s := h.kept0 F0
  have HB : Hid (w0.heap[bx]? = some (.cells #[.int .i64 f, .int .i64 t, .int .i64 m, .int .i64 s.vol.length, .slice va vn vc] 135 (0, 0)) ∧ Fr [] w w0 ∧ Rep B w0 b q s ∧ bx < w0.heap.size) := ⟨b0, F0, R0, (Array.getElem?_eq_some_iff.1 b0).1⟩
  have HX : Hid (∀ W, Fr [] w0 W → W.cell? ⟨bx, 0, none⟩ = some (.int .i64 f) ∧ W.cell? ⟨bx, 1, none⟩ = some (.int .i64 t)) := fun W hW => by
    have hh : W.heap[bx]? = _ := (hW.block bx (Array.getElem?_eq_some_iff.1 b0).1 (by simp)).trans b0
    exact ⟨by rw [cell_of hh]; rfl, by rw [cell_of hh]; rfl⟩
  have e1 : w0.cell? ⟨bx, 1, none⟩ = some (.int .i64 t) := (HX.out w0 (Fr.refl _ _)).2
  have e3 : w0.cell? ⟨bx, 3, none⟩ = some (.int .i64 s.vol.length) := by rw [cell_of b0]; rfl
  have c3 : w0.cell? ⟨b, 3, none⟩ = some (.slice (some ⟨s.vb, 0, none⟩) s.vol.length s.vol.length) := R0.cells.2.2.1
  obtain ⟨sa, sc, hsv⟩ := own_shape h.ss
  have HV : Hid (s.sv = .slice sa s.ss.length sc) := hsv
  have hw0' := hw0
  have HS : Hid (∀ W, Rep B W b q s → Calls Tryz.prog 65 #[.pointer (some ⟨b, 0, none⟩), .int .i64 t] W fun e w' => e = .returned (.int .i64 (-1)) ∧ Fr [] W w') := fun W hW => by
    have := findSnapshot_any B b q s t W hW (by omega)
    rw [hf] at this
    exact this
  have HM : Hid (∀ W, Rep B W b q s → Calls Tryz.prog 69 #[.pointer (some ⟨b, 0, none⟩), .int .i64 t] W fun e w' => e = .returned (.int .i64 (-1)) ∧ Fr [] W w') := fun W hW => by
    have := findMark_any B b q s t W hW (by omega)
    rw [hf2] at this
    exact this
  obtain ⟨la, hla⟩ : ∃ la, lastG s.ss = la := ⟨_, rfl⟩
  have HLa : Hid (∀ W, Rep B W b q s → Calls Tryz.prog 109 #[.pointer (some ⟨b, 0, none⟩)] W fun e w' => e = .returned (.int .i64 la) ∧ Fr [] W w') := fun W hW => by
    rw [← hla]
    exact last_any B b q s W hW (by omega)
  rw [hla] at hlast
  clear hla
  obtain ⟨nv, hnv⟩ : ∃ nv, s.vol.length = nv := ⟨_, rfl⟩
  rw [hnv] at e3 c3 hw0' HB ⊢
  obtain ⟨ns, hns⟩ : ∃ ns, s.ss.length = ns := ⟨_, rfl⟩
  rw [hns] at hl HV
  have hne : (f == la) = false := by simpa using hlast
  clear h hw0 b0 F0 R0 hsv hf hf2 hnv hlast hns
  go_enter Tryz.func80, Tryz.ntmps80
  go_wp2
  go_region
  go_wp2_with (first
    | (go_at_call 65; refine (HS.out _ (HB.out.2.2.1.kept0 (Fr.refl _ _).drew)).mono ?_; rintro e w2 ⟨rfl, hfr⟩; have HR2 : Hid (Fr [] w0 w2 ∧ Rep B w2 b q s) := ⟨((Fr.refl [] w0).drew).trans hfr (by simp), (HB.out.2.2.1.kept0 (Fr.refl _ _).drew).kept0 hfr⟩; have x2 := (HX.out w2 HR2.out.1).2; clear hfr)
    | (go_at_call 69; refine (HM.out _ HR2.out.2).mono ?_; rintro e w3 ⟨rfl, hfr⟩; have HR3 : Hid (Fr [] w0 w3 ∧ Rep B w3 b q s) := ⟨HR2.out.1.trans hfr (by simp), HR2.out.2.kept0 hfr⟩; clear hfr))
  have dd : w3.drew.cell? ⟨bx, 0, none⟩ = some (.int .i64 f) := (HX.out w3 HR3.out.1).1
  go_region_held3 (fun w' => w'.cell? ⟨bx, 0, none⟩ = some (.int .i64 f))
    (first
      | go_keep
      | exact dd
      | exact (HX.out _ HR4.out.1).1)
    (first
      | (go_at_call 109; refine (HLa.out _ (HR3.out.2.kept0 (Fr.refl _ _).drew)).mono ?_; rintro e w4 ⟨rfl, hfr⟩; have HR4 : Hid (Fr [] w0 w4 ∧ Rep B w4 b q s) := ⟨(HR3.out.1.drew).trans hfr (by simp), (HR3.out.2.kept0 (Fr.refl _ _).drew).kept0 hfr⟩; clear hfr))
  all_goals
    go_wp2
    go_ret
    exact ⟨rfl, HB.out.2.1.trans HR4.out.1 (by simp)⟩

set_option maxRecDepth 100000 in
set_option maxHeartbeats 1600000 in
theorem accepts_full (B b : Nat) (q : Int) (s : Sto) (f t m : Int) (v : Value) (w : World) (h : Rep B w b q s) (hl : s.ss.length ≤ 12) (hm : s.ms.length ≤ 12) (hv : ∃ a n c, v = .slice a n c) (hf : fi (fun y : Sn => y.guid == t) 0 s.ss = -1) (hf2 : fi (fun y : Int × Int => y.1 == t) 0 s.ms = -1) (hlast : f = lastG s.ss) (h12 : s.ss.length = 12) :
    Calls Tryz.prog 80 #[.pointer (some ⟨b, 0, none⟩), .agg #[.int .i64 f, .int .i64 t, .int .i64 m, .int .i64 s.vol.length, v]] w fun e w' => e = .returned (.int .i64 5) ∧ Fr [] w w' := by
  obtain ⟨va, vn, vc, rfl⟩ := hv
  obtain ⟨bx, hbx⟩ : ∃ bx, w.heap.size = bx := ⟨_, rfl⟩
  obtain ⟨w0, hw0⟩ : ∃ w0, w.alloc (.cells #[.int .i64 f, .int .i64 t, .int .i64 m, .int .i64 s.vol.length, .slice va vn vc] 135) = w0 := ⟨_, rfl⟩
  have b0 : w0.heap[bx]? = some (.cells #[.int .i64 f, .int .i64 t, .int .i64 m, .int .i64 s.vol.length, .slice va vn vc] 135 (0, 0)) := by rw [← hw0, ← hbx]; exact heap_alloc_new w _
  have F0 : Fr [] w w0 := by rw [← hw0]; exact (Fr.refl _ _).alloc _
  have R0 : Rep B w0 b q s := h.kept0 F0
  have HB : Hid (w0.heap[bx]? = some (.cells #[.int .i64 f, .int .i64 t, .int .i64 m, .int .i64 s.vol.length, .slice va vn vc] 135 (0, 0)) ∧ Fr [] w w0 ∧ Rep B w0 b q s ∧ bx < w0.heap.size) := ⟨b0, F0, R0, (Array.getElem?_eq_some_iff.1 b0).1⟩
  have HX : Hid (∀ W, Fr [] w0 W → W.cell? ⟨bx, 0, none⟩ = some (.int .i64 f) ∧ W.cell? ⟨bx, 1, none⟩ = some (.int .i64 t)) := fun W hW => by
    have hh : W.heap[bx]? = _ := (hW.block bx (Array.getElem?_eq_some_iff.1 b0).1 (by simp)).trans b0
    exact ⟨by rw [cell_of hh]; rfl, by rw [cell_of hh]; rfl⟩
  have e1 : w0.cell? ⟨bx, 1, none⟩ = some (.int .i64 t) := (HX.out w0 (Fr.refl _ _)).2
  have e3 : w0.cell? ⟨bx, 3, none⟩ = some (.int .i64 s.vol.length) := by rw [cell_of b0]; rfl
  have c3 : w0.cell? ⟨b, 3, none⟩ = some (.slice (some ⟨s.vb, 0, none⟩) s.vol.length s.vol.length) := R0.cells.2.2.1
  obtain ⟨sa, sc, hsv⟩ := own_shape h.ss
  have HV : Hid (s.sv = .slice sa s.ss.length sc) := hsv
  have hw0' := hw0
  have HS : Hid (∀ W, Rep B W b q s → Calls Tryz.prog 65 #[.pointer (some ⟨b, 0, none⟩), .int .i64 t] W fun e w' => e = .returned (.int .i64 (-1)) ∧ Fr [] W w') := fun W hW => by
    have := findSnapshot_any B b q s t W hW (by omega)
    rw [hf] at this
    exact this
  have HM : Hid (∀ W, Rep B W b q s → Calls Tryz.prog 69 #[.pointer (some ⟨b, 0, none⟩), .int .i64 t] W fun e w' => e = .returned (.int .i64 (-1)) ∧ Fr [] W w') := fun W hW => by
    have := findMark_any B b q s t W hW (by omega)
    rw [hf2] at this
    exact this
  obtain ⟨la, hla⟩ : ∃ la, lastG s.ss = la := ⟨_, rfl⟩
  have HLa : Hid (∀ W, Rep B W b q s → Calls Tryz.prog 109 #[.pointer (some ⟨b, 0, none⟩)] W fun e w' => e = .returned (.int .i64 la) ∧ Fr [] W w') := fun W hW => by
    rw [← hla]
    exact last_any B b q s W hW (by omega)
  rw [hla] at hlast
  clear hla
  obtain ⟨nv, hnv⟩ : ∃ nv, s.vol.length = nv := ⟨_, rfl⟩
  rw [hnv] at e3 c3 hw0' HB ⊢
  obtain ⟨ns, hns⟩ : ∃ ns, s.ss.length = ns := ⟨_, rfl⟩
  rw [hns] at hl HV h12
  have hne : (f == la) = true := by simpa using hlast
  have hge : (12 : Int) ≤ (ns : Int) := by omega
  clear h hw0 b0 F0 R0 hsv hf hf2 hnv hlast hns
  go_enter Tryz.func80, Tryz.ntmps80
  go_wp2
  go_region
  go_wp2_with (first
    | (go_at_call 65; refine (HS.out _ (HB.out.2.2.1.kept0 (Fr.refl _ _).drew)).mono ?_; rintro e w2 ⟨rfl, hfr⟩; have HR2 : Hid (Fr [] w0 w2 ∧ Rep B w2 b q s) := ⟨((Fr.refl [] w0).drew).trans hfr (by simp), (HB.out.2.2.1.kept0 (Fr.refl _ _).drew).kept0 hfr⟩; have x2 := (HX.out w2 HR2.out.1).2; clear hfr)
    | (go_at_call 69; refine (HM.out _ HR2.out.2).mono ?_; rintro e w3 ⟨rfl, hfr⟩; have HR3 : Hid (Fr [] w0 w3 ∧ Rep B w3 b q s) := ⟨HR2.out.1.trans hfr (by simp), HR2.out.2.kept0 hfr⟩; clear hfr))
  have dd : w3.drew.cell? ⟨bx, 0, none⟩ = some (.int .i64 f) := (HX.out w3 HR3.out.1).1
  go_region_held3 (fun w' => w'.cell? ⟨bx, 0, none⟩ = some (.int .i64 f))
    (first
      | go_keep
      | exact dd
      | exact (HX.out _ HR4.out.1).1)
    (first
      | (go_at_call 109; refine (HLa.out _ (HR3.out.2.kept0 (Fr.refl _ _).drew)).mono ?_; rintro e w4 ⟨rfl, hfr⟩; have HR4 : Hid (Fr [] w0 w4 ∧ Rep B w4 b q s) := ⟨(HR3.out.1.drew).trans hfr (by simp), (HR3.out.2.kept0 (Fr.refl _ _).drew).kept0 hfr⟩; have c44 : w4.cell? ⟨b, 4, none⟩ = some (.slice sa ns sc) := (by rw [← HV.out]; exact HR4.out.2.cells.2.2.2.1); clear hfr))
  all_goals
    go_wp2
    go_ret
    exact ⟨rfl, HB.out.2.1.trans HR4.out.1 (by simp)⟩

set_option maxRecDepth 100000 in
set_option maxHeartbeats 1600000 in
theorem accepts_dupm (B b : Nat) (q : Int) (s : Sto) (f t m : Int) (v : Value) (w : World) (h : Rep B w b q s) (hl : s.ss.length ≤ 12) (hm : s.ms.length ≤ 12) (hv : ∃ a n c, v = .slice a n c) (hf : fi (fun y : Sn => y.guid == t) 0 s.ss = -1) (j : Nat) (hf2 : fi (fun y : Int × Int => y.1 == t) 0 s.ms = (j : Int)) :
    Calls Tryz.prog 80 #[.pointer (some ⟨b, 0, none⟩), .agg #[.int .i64 f, .int .i64 t, .int .i64 m, .int .i64 s.vol.length, v]] w fun e w' => e = .returned (.int .i64 7) ∧ Fr [] w w' := by
  obtain ⟨va, vn, vc, rfl⟩ := hv
  obtain ⟨bx, hbx⟩ : ∃ bx, w.heap.size = bx := ⟨_, rfl⟩
  obtain ⟨w0, hw0⟩ : ∃ w0, w.alloc (.cells #[.int .i64 f, .int .i64 t, .int .i64 m, .int .i64 s.vol.length, .slice va vn vc] 135) = w0 := ⟨_, rfl⟩
  have b0 : w0.heap[bx]? = some (.cells #[.int .i64 f, .int .i64 t, .int .i64 m, .int .i64 s.vol.length, .slice va vn vc] 135 (0, 0)) := by rw [← hw0, ← hbx]; exact heap_alloc_new w _
  have F0 : Fr [] w w0 := by rw [← hw0]; exact (Fr.refl _ _).alloc _
  have R0 : Rep B w0 b q s := h.kept0 F0
  have HB : Hid (w0.heap[bx]? = some (.cells #[.int .i64 f, .int .i64 t, .int .i64 m, .int .i64 s.vol.length, .slice va vn vc] 135 (0, 0)) ∧ Fr [] w w0 ∧ Rep B w0 b q s ∧ bx < w0.heap.size) := ⟨b0, F0, R0, (Array.getElem?_eq_some_iff.1 b0).1⟩
  have HX : Hid (∀ W, Fr [] w0 W → W.cell? ⟨bx, 0, none⟩ = some (.int .i64 f) ∧ W.cell? ⟨bx, 1, none⟩ = some (.int .i64 t)) := fun W hW => by
    have hh : W.heap[bx]? = _ := (hW.block bx (Array.getElem?_eq_some_iff.1 b0).1 (by simp)).trans b0
    exact ⟨by rw [cell_of hh]; rfl, by rw [cell_of hh]; rfl⟩
  have e1 : w0.cell? ⟨bx, 1, none⟩ = some (.int .i64 t) := (HX.out w0 (Fr.refl _ _)).2
  have e3 : w0.cell? ⟨bx, 3, none⟩ = some (.int .i64 s.vol.length) := by rw [cell_of b0]; rfl
  have c3 : w0.cell? ⟨b, 3, none⟩ = some (.slice (some ⟨s.vb, 0, none⟩) s.vol.length s.vol.length) := R0.cells.2.2.1
  obtain ⟨sa, sc, hsv⟩ := own_shape h.ss
  have HV : Hid (s.sv = .slice sa s.ss.length sc) := hsv
  have hw0' := hw0
  have HS : Hid (∀ W, Rep B W b q s → Calls Tryz.prog 65 #[.pointer (some ⟨b, 0, none⟩), .int .i64 t] W fun e w' => e = .returned (.int .i64 (-1)) ∧ Fr [] W w') := fun W hW => by
    have := findSnapshot_any B b q s t W hW (by omega)
    rw [hf] at this
    exact this
  have HM : Hid (∀ W, Rep B W b q s → Calls Tryz.prog 69 #[.pointer (some ⟨b, 0, none⟩), .int .i64 t] W fun e w' => e = .returned (.int .i64 j) ∧ Fr [] W w') := fun W hW => by
    have := findMark_any B b q s t W hW (by omega)
    rw [hf2] at this
    exact this
  obtain ⟨nv, hnv⟩ : ∃ nv, s.vol.length = nv := ⟨_, rfl⟩
  rw [hnv] at e3 c3 hw0' HB ⊢
  obtain ⟨ns, hns⟩ : ∃ ns, s.ss.length = ns := ⟨_, rfl⟩
  rw [hns] at hl HV
  clear h hw0 b0 F0 R0 hsv hf hf2 hnv hns
  go_enter Tryz.func80, Tryz.ntmps80
  go_wp2
  go_region
  go_wp2_with (first
    | (go_at_call 65; refine (HS.out _ (HB.out.2.2.1.kept0 (Fr.refl _ _).drew)).mono ?_; rintro e w2 ⟨rfl, hfr⟩; have HR2 : Hid (Fr [] w0 w2 ∧ Rep B w2 b q s) := ⟨((Fr.refl [] w0).drew).trans hfr (by simp), (HB.out.2.2.1.kept0 (Fr.refl _ _).drew).kept0 hfr⟩; have x2 := (HX.out w2 HR2.out.1).2; clear hfr)
    | (go_at_call 69; refine (HM.out _ HR2.out.2).mono ?_; rintro e w3 ⟨rfl, hfr⟩; have HR3 : Hid (Fr [] w0 w3 ∧ Rep B w3 b q s) := ⟨HR2.out.1.trans hfr (by simp), HR2.out.2.kept0 hfr⟩; clear hfr))
  go_ret
  exact ⟨rfl, HB.out.2.1.trans HR3.out.1 (by simp)⟩

set_option maxRecDepth 100000 in
set_option maxHeartbeats 1600000 in
theorem accepts_blocks (B b : Nat) (q : Int) (s : Sto) (f t m : Int) (v : Value) (w : World) (h : Rep B w b q s) (hv : ∃ a n c, v = .slice a n c) (nb : Int) (hnb : nb ≠ (s.vol.length : Int)) :
    Calls Tryz.prog 80 #[.pointer (some ⟨b, 0, none⟩), .agg #[.int .i64 f, .int .i64 t, .int .i64 m, .int .i64 nb, v]] w fun e w' => e = .returned (.int .i64 6) ∧ Fr [] w w' := by
  obtain ⟨va, vn, vc, rfl⟩ := hv
  obtain ⟨bx, hbx⟩ : ∃ bx, w.heap.size = bx := ⟨_, rfl⟩
  obtain ⟨w0, hw0⟩ : ∃ w0, w.alloc (.cells #[.int .i64 f, .int .i64 t, .int .i64 m, .int .i64 nb, .slice va vn vc] 135) = w0 := ⟨_, rfl⟩
  have b0 : w0.heap[bx]? = some (.cells #[.int .i64 f, .int .i64 t, .int .i64 m, .int .i64 nb, .slice va vn vc] 135 (0, 0)) := by rw [← hw0, ← hbx]; exact heap_alloc_new w _
  have F0 : Fr [] w w0 := by rw [← hw0]; exact (Fr.refl _ _).alloc _
  have R0 : Rep B w0 b q s := h.kept0 F0
  have HB : Hid (w0.heap[bx]? = some (.cells #[.int .i64 f, .int .i64 t, .int .i64 m, .int .i64 nb, .slice va vn vc] 135 (0, 0)) ∧ Fr [] w w0 ∧ Rep B w0 b q s ∧ bx < w0.heap.size) := ⟨b0, F0, R0, (Array.getElem?_eq_some_iff.1 b0).1⟩
  have HX : Hid (∀ W, Fr [] w0 W → W.cell? ⟨bx, 0, none⟩ = some (.int .i64 f) ∧ W.cell? ⟨bx, 1, none⟩ = some (.int .i64 t)) := fun W hW => by
    have hh : W.heap[bx]? = _ := (hW.block bx (Array.getElem?_eq_some_iff.1 b0).1 (by simp)).trans b0
    exact ⟨by rw [cell_of hh]; rfl, by rw [cell_of hh]; rfl⟩
  have e1 : w0.cell? ⟨bx, 1, none⟩ = some (.int .i64 t) := (HX.out w0 (Fr.refl _ _)).2
  have e3 : w0.cell? ⟨bx, 3, none⟩ = some (.int .i64 nb) := by rw [cell_of b0]; rfl
  have c3 : w0.cell? ⟨b, 3, none⟩ = some (.slice (some ⟨s.vb, 0, none⟩) s.vol.length s.vol.length) := R0.cells.2.2.1
  have hw0' := hw0
  obtain ⟨nv, hnv⟩ : ∃ nv, s.vol.length = nv := ⟨_, rfl⟩
  rw [hnv] at c3 hnb
  have hne : (nb != (nv : Int)) = true := by simpa using hnb
  clear h hw0 b0 F0 R0 hnv hnb HX
  go_enter Tryz.func80, Tryz.ntmps80
  go_wp2
  go_region
  go_wp2
  go_ret
  exact ⟨rfl, by first | exact HB.out.2.1 | exact HB.out.2.1.drew⟩

set_option maxRecDepth 100000 in
set_option maxHeartbeats 3200000 in
theorem receive_err (B b : Nat) (s : Sto) (tx : ByteArray) (w : World) (h : Rep B w b 0 s) (f t m : Int) (nv : Nat) (l : List (Int × B4)) (en : Int) (hen : (en == 0) = false)
    (hp : ∀ W, Calls Tryz.prog 79 #[.string tx] W fun e w' => ∃ v, e = .returned (.tuple #[.agg #[.int .i64 f, .int .i64 t, .int .i64 m, .int .i64 (nv : Int), v], .bool true]) ∧ w'.ownsRow W.heap.size 137 5 v l.length (blC l) ∧ Fr [] W w')
    (hac : ∀ W v, Rep B W b 1 s → (∃ a n c, v = .slice a n c) → Calls Tryz.prog 80 #[.pointer (some ⟨b, 0, none⟩), .agg #[.int .i64 f, .int .i64 t, .int .i64 m, .int .i64 (nv : Int), v]] W fun e w' => e = .returned (.int .i64 en) ∧ Fr [] W w') :
    Calls Tryz.prog 52 #[.pointer (some ⟨b, 0, none⟩), .string tx] w fun e w' => e = .returned (.tuple #[.int .i64 0, .int .i64 en]) ∧ Rep B w' b 0 s ∧ Fr (foot b s) w w' := by
  have R1 := h.lock 1
  obtain ⟨w1, hw1⟩ : ∃ w1, w.setCell ⟨b, 0, none⟩ (.int .i32 1) = w1 := ⟨_, rfl⟩
  rw [hw1] at R1
  have HL := lock_free Tryz.muLib ⟨b, 0, none⟩ w h.cells.1 (h.frozen 0)
  have F1 : Fr (foot b s) w w1 := by rw [← hw1]; exact fr_lock b s w _
  have HF : Hid (w.setCell ⟨b, 0, none⟩ (.int .i32 1) = w1 ∧ Rep B w1 b 1 s ∧ Fr (foot b s) w w1) := ⟨hw1, R1, F1⟩
  have HP : Hid (∀ W, Calls Tryz.prog 79 #[.string tx] W fun e w' => ∃ v, e = .returned (.tuple #[.agg #[.int .i64 f, .int .i64 t, .int .i64 m, .int .i64 (nv : Int), v], .bool true]) ∧ w'.ownsRow W.heap.size 137 5 v l.length (blC l) ∧ Fr [] W w') := hp
  have HAc : Hid (∀ W v, Rep B W b 1 s → (∃ a n c, v = .slice a n c) → Calls Tryz.prog 80 #[.pointer (some ⟨b, 0, none⟩), .agg #[.int .i64 f, .int .i64 t, .int .i64 m, .int .i64 (nv : Int), v]] W fun e w' => e = .returned (.int .i64 en) ∧ Fr [] W w') := hac
  clear h R1 F1 hw1 hp hac
  go_enter_defers Tryz.func52, Tryz.ntmps52
  go_wp2_with (first
    | (go_at_call 23; refine HL.mono ?_; rintro e w' ⟨rfl, hw'⟩; rw [HF.out.1] at hw'; have hw' := hw'.symm; subst hw')
    | (go_at_call 79; refine (HP.out _).mono ?_; rintro e w2 ⟨v, rfl, o2, hfr⟩
       obtain ⟨va, vc, hva⟩ := own_shape o2
       subst hva
       have HR2 : Hid (Rep B (w2.alloc (.cells #[.int .i64 f, .int .i64 t, .int .i64 m, .int .i64 (nv : Int), .slice va l.length vc] 135)) b 1 s ∧ Fr (foot b s) w (w2.alloc (.cells #[.int .i64 f, .int .i64 t, .int .i64 m, .int .i64 (nv : Int), .slice va l.length vc] 135))) := ⟨(HF.out.2.1.kept0 hfr).kept0 ((Fr.refl _ _).alloc _), (HF.out.2.2.trans hfr (by simp)).alloc _⟩
       clear hfr o2)
    | (go_at_call 80; refine (HAc.out _ _ HR2.out.1 ⟨_, _, _, rfl⟩).mono ?_; rintro e w3 ⟨rfl, hfr⟩
       have HR3 : Hid (Rep B w3 b 1 s ∧ Fr (foot b s) w w3) := ⟨HR2.out.1.kept0 hfr, HR2.out.2.trans hfr (by simp)⟩
       clear hfr))
  refine leaves_cons (f := 24) (args := #[.pointer (some ⟨b, 0, none⟩)]) (by simp) (by simp [go_sem]) ?_
  refine (unlock_deferred Tryz.muLib ⟨b, 0, none⟩ .returning _ HR3.out.1.cells.1 (HR3.out.1.frozen 0)).mono ?_
  rintro e u' w'' ⟨rfl, rfl, rfl⟩
  exact ⟨_, results_tmp2 rfl _ _ _, rfl, HR3.out.1.lock 0, HR3.out.2.setCell _ (Or.inl (by simp [foot]))⟩
end Go.Proofs.YthdhegmlknpllaaGreat
