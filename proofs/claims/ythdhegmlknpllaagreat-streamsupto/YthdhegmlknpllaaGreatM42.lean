import Derived.Test.YthdhegmlknpllaaGreatM40
/-
  The walk of the reference's ReadStream (81): the numbers do not go together.
-/
namespace Go.Proofs.YthdhegmlknpllaaGreat
open Go.RowKit Go.Maps Go.MuLone

set_option maxRecDepth 100000 in
set_option maxHeartbeats 3200000 in
theorem rread_b0 (t : ByteArray) (w : World) (hz : t.size ≤ 2000000) (ht : 22 ≤ t.size) (hs : ((t.extract 0 4).toList == [83, 78, 68, 49]) = true) (hc : ((chk (t.extract 0 (ckAt t)).data.toList).ba.toList == (t.extract (ckAt t) t.size).toList) = true)
    (fv tv mv nv : Int) (N : Nat) (e1 : fv = (valN (t.extract 4 8).data.toList : Int)) (e2 : tv = (valN (t.extract 8 12).data.toList : Int)) (e3 : mv = (valN (t.extract 12 16).data.toList : Int)) (e4 : nv = (valN (t.extract 16 17).data.toList : Int)) (e5 : N = valN (t.extract 17 18).data.toList) (hN : N < 256)
    (kd1 : t.size ≠ 22 + 5 * N) :
    Calls Tryz.prog 81 #[.string t] w fun e w' => (∃ x, e = .returned (.tuple #[.agg x, .bool false]) ∧ SixV x) ∧ Fr [] w w' := by
  have HNf : Hid (∀ W, Calls Tryz.prog 110 #[.string (t.extract 4 8)] W fun e w' => e = .returned (.int .i64 fv) ∧ w' = W) := fun W => by rw [e1]; exact rnumberOf_any _ W (by rw [ByteArray.size_extract]; omega)
  have HNt : Hid (∀ W, Calls Tryz.prog 110 #[.string (t.extract 8 12)] W fun e w' => e = .returned (.int .i64 tv) ∧ w' = W) := fun W => by rw [e2]; exact rnumberOf_any _ W (by rw [ByteArray.size_extract]; omega)
  have HNm : Hid (∀ W, Calls Tryz.prog 110 #[.string (t.extract 12 16)] W fun e w' => e = .returned (.int .i64 mv) ∧ w' = W) := fun W => by rw [e3]; exact rnumberOf_any _ W (by rw [ByteArray.size_extract]; omega)
  have HNb : Hid (∀ W, Calls Tryz.prog 110 #[.string (t.extract 16 17)] W fun e w' => e = .returned (.int .i64 nv) ∧ w' = W) := fun W => by rw [e4]; exact rnumberOf_any _ W (by rw [ByteArray.size_extract]; omega)
  have HNn : Hid (∀ W, Calls Tryz.prog 110 #[.string (t.extract 17 18)] W fun e w' => e = .returned (.int .i64 (N : Int)) ∧ w' = W) := fun W => by rw [e5]; exact rnumberOf_any _ W (by rw [ByteArray.size_extract]; omega)
  obtain ⟨T1, hT1⟩ : ∃ T, t.extract 4 8 = T := ⟨_, rfl⟩
  rw [hT1] at HNf
  obtain ⟨T2, hT2⟩ : ∃ T, t.extract 8 12 = T := ⟨_, rfl⟩
  rw [hT2] at HNt
  obtain ⟨T3, hT3⟩ : ∃ T, t.extract 12 16 = T := ⟨_, rfl⟩
  rw [hT3] at HNm
  obtain ⟨T4, hT4⟩ : ∃ T, t.extract 16 17 = T := ⟨_, rfl⟩
  rw [hT4] at HNb
  obtain ⟨T5, hT5⟩ : ∃ T, t.extract 17 18 = T := ⟨_, rfl⟩
  rw [hT5] at HNn
  have HN0 : Hid (0 ≤ fv ∧ 0 ≤ nv ∧ 0 ≤ tv ∧ 0 ≤ mv) := by rw [e1, e2, e3, e4]; exact ⟨by omega, by omega, by omega, by omega⟩
  clear e1 e2 e3 e4 e5
  obtain ⟨n, hn⟩ : ∃ n, t.size = n := ⟨_, rfl⟩
  obtain ⟨c, hcc⟩ : ∃ c, ckAt t = c := ⟨_, rfl⟩
  have hce : c = n - 4 := by rw [← hcc, ← hn]; rfl
  rw [hcc, hn] at hc
  have HC : Hid (∀ W, Calls Tryz.prog 78 #[.string (t.extract 0 c)] W fun e w' => e = .returned (.string (chk (t.extract 0 c).data.toList).ba) ∧ Fr [] W w') := fun W => rcheck_any _ W (by rw [ByteArray.size_extract]; omega)
  obtain ⟨ck, hck⟩ : ∃ ck, (chk (t.extract 0 c).data.toList).ba = ck := ⟨_, rfl⟩
  rw [hck] at HC hc
  rw [hn] at ht hz kd1
  have h1 : decide ((n : Int) < 22) = false := by simp; omega
  have h2 : (4 : Int) ≤ (n : Int) := by omega
  have c0 : (0 : Int) ≤ (c : Int) := by omega
  have c1 : (c : Int) ≤ (n : Int) := by omega
  have hnc : IntKind.i64.wrap ((n : Int) - 4) = (c : Int) := by rw [show (n : Int) - 4 = (c : Int) by omega]; exact wrap_fit ⟨by omega, by omega⟩
  obtain ⟨bx, hbx⟩ : ∃ bx, w.heap.size = bx := ⟨_, rfl⟩
  obtain ⟨w0, hw0⟩ : ∃ w0, (w.alloc (.cells #[.int .i64 0, .int .i64 0, .int .i64 0, .int .i64 0, .slice none 0 0, .slice none 0 0] 143)).alloc (.cells #[.int .i64 0, .int .i64 0, .int .i64 0, .int .i64 0, .slice none 0 0, .slice none 0 0] 143) = w0 := ⟨_, rfl⟩
  have R0 : RX w w0 bx 0 0 0 0 (.slice none 0 0) (.slice none 0 0) [] [] := by
    rw [← hw0, ← hbx]
    refine ⟨((Fr.refl _ _).alloc _).alloc _, ?_, ?_, World.ownsRow_nil _ _ _ _, World.ownsRow_nil _ _ _ _, rfl⟩
    · rw [Below.heap_alloc _ _ _ (by simp)]
      exact heap_alloc_new w _
    · have := heap_alloc_new (w.alloc (.cells #[.int .i64 0, .int .i64 0, .int .i64 0, .int .i64 0, .slice none 0 0, .slice none 0 0] 143)) (.cells #[.int .i64 0, .int .i64 0, .int .i64 0, .int .i64 0, .slice none 0 0, .slice none 0 0] 143)
      simpa using this
  have HR0 : Hid (RX w w0 bx 0 0 0 0 (.slice none 0 0) (.slice none 0 0) [] []) := R0
  obtain ⟨y0, y1, y2, y3, y4, y5⟩ := R0.ycells
  have z0 := R0.yfroz 0
  have z1 := R0.yfroz 1
  have z2 := R0.yfroz 2
  have z3 := R0.yfroz 3
  have z4 := R0.yfroz 4
  have z5 := R0.yfroz 5
  obtain ⟨x0, x1, x2, x3, x4, x5⟩ := R0.xcells
  clear R0
  have hw0' := hw0
  clear hw0
  have HN : Hid (t.size = n) := hn
  have b8 : (8 : Int) ≤ (n : Int) := by omega
  have b12 : (12 : Int) ≤ (n : Int) := by omega
  have b16 : (16 : Int) ≤ (n : Int) := by omega
  have b17 : (17 : Int) ≤ (n : Int) := by omega
  have b18 : (18 : Int) ≤ (n : Int) := by omega
  have p1 : IntKind.i64.wrap (5 * (N : Int)) = 5 * (N : Int) := wrap_fit ⟨by omega, by omega⟩
  have p2 : IntKind.i64.wrap (22 + 5 * (N : Int)) = 22 + 5 * (N : Int) := wrap_fit ⟨by omega, by omega⟩
  clear hck hcc hce
  have d1 : ((n : Int) != 22 + 5 * (N : Int)) = true := by simp; omega
  clear kd1
  go_enter Tryz.func81, Tryz.ntmps81
  go_wp2
  go_region_held3 (fun _ => True)
    (first | trivial | go_keep)
    (first
      | (go_at_call 78; refine (HC.out _).mono ?_; rintro e w5 ⟨rfl, f5⟩
         have H5 : Hid (RX w w5 bx 0 0 0 0 (.slice none 0 0) (.slice none 0 0) [] []) := HR0.out.same (by first | exact f5 | exact (Fr.drew (Fr.refl _ _)).trans f5 (by simp) | exact (Fr.drewN (Fr.refl _ _) _).trans f5 (by simp))
         clear f5))
  all_goals
    have HP4 : Hid (RX w ((((w5.setCell ⟨bx + 1, 0, none⟩ (.int .i64 fv)).setCell ⟨bx + 1, 1, none⟩ (.int .i64 tv)).setCell ⟨bx + 1, 2, none⟩ (.int .i64 mv)).setCell ⟨bx + 1, 3, none⟩ (.int .i64 nv)) bx fv tv mv nv (.slice none 0 0) (.slice none 0 0) [] []) := (((H5.out.put 0 (.int .i64 fv) (f' := fv) (t' := 0) (m' := 0) (nb' := 0) rfl).put 1 (.int .i64 tv) (f' := fv) (t' := tv) (m' := 0) (nb' := 0) rfl).put 2 (.int .i64 mv) (f' := fv) (t' := tv) (m' := mv) (nb' := 0) rfl).put 3 (.int .i64 nv) (f' := fv) (t' := tv) (m' := mv) (nb' := nv) rfl
    obtain ⟨x0, x1, x2, x3, x4, x5⟩ := H5.out.xcells
    have xf0 := H5.out.xfroz 0
    have xf1 := H5.out.xfroz 1
    have xf2 := H5.out.xfroz 2
    have xf3 := H5.out.xfroz 3
    clear y0 y1 y2 y3 y4 y5 z0 z1 z2 z3 z4 z5
    obtain ⟨y0, y1, y2, y3, y4, y5⟩ := H5.out.ycells
    have z0 := H5.out.yfroz 0
    have z1 := H5.out.yfroz 1
    have z2 := H5.out.yfroz 2
    have z3 := H5.out.yfroz 3
    have z4 := H5.out.yfroz 4
    have z5 := H5.out.yfroz 5
    go_wp2_with (first
      | (go_at_call_of 110 (Value.string T1); refine (HNf.out _).mono ?_; rintro e w' ⟨rfl, hw'⟩; have hw' := hw'.symm; subst hw')
      | (go_at_call_of 110 (Value.string T2); refine (HNt.out _).mono ?_; rintro e w' ⟨rfl, hw'⟩; have hw' := hw'.symm; subst hw')
      | (go_at_call_of 110 (Value.string T3); refine (HNm.out _).mono ?_; rintro e w' ⟨rfl, hw'⟩; have hw' := hw'.symm; subst hw')
      | (go_at_call_of 110 (Value.string T4); refine (HNb.out _).mono ?_; rintro e w' ⟨rfl, hw'⟩; have hw' := hw'.symm; subst hw')
      | (go_at_call_of 110 (Value.string T5); refine (HNn.out _).mono ?_; rintro e w' ⟨rfl, hw'⟩; have hw' := hw'.symm; subst hw'))
    refine bodyPost_ret (v := .tuple #[.agg #[.int .i64 fv, .int .i64 tv, .int .i64 mv, .int .i64 nv, .slice none 0 0, .slice none 0 0], .bool false]) ?_ rfl ⟨⟨_, rfl, six⟩, ?_⟩
    · rw [results_cell_tmp rfl]
      go_simp
    · refine HP4.out.finF ?_ _ _ _ _ _ _
      first | exact Fr.refl _ _ | exact (Fr.refl _ _).drew | exact (Fr.refl _ _).drewN _

set_option maxRecDepth 100000 in
set_option maxHeartbeats 3200000 in
theorem rread_b1 (t : ByteArray) (w : World) (hz : t.size ≤ 2000000) (ht : 22 ≤ t.size) (hs : ((t.extract 0 4).toList == [83, 78, 68, 49]) = true) (hc : ((chk (t.extract 0 (ckAt t)).data.toList).ba.toList == (t.extract (ckAt t) t.size).toList) = true)
    (fv tv mv nv : Int) (N : Nat) (e1 : fv = (valN (t.extract 4 8).data.toList : Int)) (e2 : tv = (valN (t.extract 8 12).data.toList : Int)) (e3 : mv = (valN (t.extract 12 16).data.toList : Int)) (e4 : nv = (valN (t.extract 16 17).data.toList : Int)) (e5 : N = valN (t.extract 17 18).data.toList) (hN : N < 256)
    (kd1 : ¬ (t.size ≠ 22 + 5 * N)) (kd2 : nv < 1) :
    Calls Tryz.prog 81 #[.string t] w fun e w' => (∃ x, e = .returned (.tuple #[.agg x, .bool false]) ∧ SixV x) ∧ Fr [] w w' := by
  have HNf : Hid (∀ W, Calls Tryz.prog 110 #[.string (t.extract 4 8)] W fun e w' => e = .returned (.int .i64 fv) ∧ w' = W) := fun W => by rw [e1]; exact rnumberOf_any _ W (by rw [ByteArray.size_extract]; omega)
  have HNt : Hid (∀ W, Calls Tryz.prog 110 #[.string (t.extract 8 12)] W fun e w' => e = .returned (.int .i64 tv) ∧ w' = W) := fun W => by rw [e2]; exact rnumberOf_any _ W (by rw [ByteArray.size_extract]; omega)
  have HNm : Hid (∀ W, Calls Tryz.prog 110 #[.string (t.extract 12 16)] W fun e w' => e = .returned (.int .i64 mv) ∧ w' = W) := fun W => by rw [e3]; exact rnumberOf_any _ W (by rw [ByteArray.size_extract]; omega)
  have HNb : Hid (∀ W, Calls Tryz.prog 110 #[.string (t.extract 16 17)] W fun e w' => e = .returned (.int .i64 nv) ∧ w' = W) := fun W => by rw [e4]; exact rnumberOf_any _ W (by rw [ByteArray.size_extract]; omega)
  have HNn : Hid (∀ W, Calls Tryz.prog 110 #[.string (t.extract 17 18)] W fun e w' => e = .returned (.int .i64 (N : Int)) ∧ w' = W) := fun W => by rw [e5]; exact rnumberOf_any _ W (by rw [ByteArray.size_extract]; omega)
  obtain ⟨T1, hT1⟩ : ∃ T, t.extract 4 8 = T := ⟨_, rfl⟩
  rw [hT1] at HNf
  obtain ⟨T2, hT2⟩ : ∃ T, t.extract 8 12 = T := ⟨_, rfl⟩
  rw [hT2] at HNt
  obtain ⟨T3, hT3⟩ : ∃ T, t.extract 12 16 = T := ⟨_, rfl⟩
  rw [hT3] at HNm
  obtain ⟨T4, hT4⟩ : ∃ T, t.extract 16 17 = T := ⟨_, rfl⟩
  rw [hT4] at HNb
  obtain ⟨T5, hT5⟩ : ∃ T, t.extract 17 18 = T := ⟨_, rfl⟩
  rw [hT5] at HNn
  have HN0 : Hid (0 ≤ fv ∧ 0 ≤ nv ∧ 0 ≤ tv ∧ 0 ≤ mv) := by rw [e1, e2, e3, e4]; exact ⟨by omega, by omega, by omega, by omega⟩
  clear e1 e2 e3 e4 e5
  obtain ⟨n, hn⟩ : ∃ n, t.size = n := ⟨_, rfl⟩
  obtain ⟨c, hcc⟩ : ∃ c, ckAt t = c := ⟨_, rfl⟩
  have hce : c = n - 4 := by rw [← hcc, ← hn]; rfl
  rw [hcc, hn] at hc
  have HC : Hid (∀ W, Calls Tryz.prog 78 #[.string (t.extract 0 c)] W fun e w' => e = .returned (.string (chk (t.extract 0 c).data.toList).ba) ∧ Fr [] W w') := fun W => rcheck_any _ W (by rw [ByteArray.size_extract]; omega)
  obtain ⟨ck, hck⟩ : ∃ ck, (chk (t.extract 0 c).data.toList).ba = ck := ⟨_, rfl⟩
  rw [hck] at HC hc
  rw [hn] at ht hz kd1
  have h1 : decide ((n : Int) < 22) = false := by simp; omega
  have h2 : (4 : Int) ≤ (n : Int) := by omega
  have c0 : (0 : Int) ≤ (c : Int) := by omega
  have c1 : (c : Int) ≤ (n : Int) := by omega
  have hnc : IntKind.i64.wrap ((n : Int) - 4) = (c : Int) := by rw [show (n : Int) - 4 = (c : Int) by omega]; exact wrap_fit ⟨by omega, by omega⟩
  obtain ⟨bx, hbx⟩ : ∃ bx, w.heap.size = bx := ⟨_, rfl⟩
  obtain ⟨w0, hw0⟩ : ∃ w0, (w.alloc (.cells #[.int .i64 0, .int .i64 0, .int .i64 0, .int .i64 0, .slice none 0 0, .slice none 0 0] 143)).alloc (.cells #[.int .i64 0, .int .i64 0, .int .i64 0, .int .i64 0, .slice none 0 0, .slice none 0 0] 143) = w0 := ⟨_, rfl⟩
  have R0 : RX w w0 bx 0 0 0 0 (.slice none 0 0) (.slice none 0 0) [] [] := by
    rw [← hw0, ← hbx]
    refine ⟨((Fr.refl _ _).alloc _).alloc _, ?_, ?_, World.ownsRow_nil _ _ _ _, World.ownsRow_nil _ _ _ _, rfl⟩
    · rw [Below.heap_alloc _ _ _ (by simp)]
      exact heap_alloc_new w _
    · have := heap_alloc_new (w.alloc (.cells #[.int .i64 0, .int .i64 0, .int .i64 0, .int .i64 0, .slice none 0 0, .slice none 0 0] 143)) (.cells #[.int .i64 0, .int .i64 0, .int .i64 0, .int .i64 0, .slice none 0 0, .slice none 0 0] 143)
      simpa using this
  have HR0 : Hid (RX w w0 bx 0 0 0 0 (.slice none 0 0) (.slice none 0 0) [] []) := R0
  obtain ⟨y0, y1, y2, y3, y4, y5⟩ := R0.ycells
  have z0 := R0.yfroz 0
  have z1 := R0.yfroz 1
  have z2 := R0.yfroz 2
  have z3 := R0.yfroz 3
  have z4 := R0.yfroz 4
  have z5 := R0.yfroz 5
  obtain ⟨x0, x1, x2, x3, x4, x5⟩ := R0.xcells
  clear R0
  have hw0' := hw0
  clear hw0
  have HN : Hid (t.size = n) := hn
  have b8 : (8 : Int) ≤ (n : Int) := by omega
  have b12 : (12 : Int) ≤ (n : Int) := by omega
  have b16 : (16 : Int) ≤ (n : Int) := by omega
  have b17 : (17 : Int) ≤ (n : Int) := by omega
  have b18 : (18 : Int) ≤ (n : Int) := by omega
  have p1 : IntKind.i64.wrap (5 * (N : Int)) = 5 * (N : Int) := wrap_fit ⟨by omega, by omega⟩
  have p2 : IntKind.i64.wrap (22 + 5 * (N : Int)) = 22 + 5 * (N : Int) := wrap_fit ⟨by omega, by omega⟩
  clear hck hcc hce
  have d1 : ((n : Int) != 22 + 5 * (N : Int)) = false := by simp; omega
  have d2 : decide (nv < 1) = true := by simpa using kd2
  clear kd1 kd2
  go_enter Tryz.func81, Tryz.ntmps81
  go_wp2
  go_region_held3 (fun _ => True)
    (first | trivial | go_keep)
    (first
      | (go_at_call 78; refine (HC.out _).mono ?_; rintro e w5 ⟨rfl, f5⟩
         have H5 : Hid (RX w w5 bx 0 0 0 0 (.slice none 0 0) (.slice none 0 0) [] []) := HR0.out.same (by first | exact f5 | exact (Fr.drew (Fr.refl _ _)).trans f5 (by simp) | exact (Fr.drewN (Fr.refl _ _) _).trans f5 (by simp))
         clear f5))
  all_goals
    have HP4 : Hid (RX w ((((w5.setCell ⟨bx + 1, 0, none⟩ (.int .i64 fv)).setCell ⟨bx + 1, 1, none⟩ (.int .i64 tv)).setCell ⟨bx + 1, 2, none⟩ (.int .i64 mv)).setCell ⟨bx + 1, 3, none⟩ (.int .i64 nv)) bx fv tv mv nv (.slice none 0 0) (.slice none 0 0) [] []) := (((H5.out.put 0 (.int .i64 fv) (f' := fv) (t' := 0) (m' := 0) (nb' := 0) rfl).put 1 (.int .i64 tv) (f' := fv) (t' := tv) (m' := 0) (nb' := 0) rfl).put 2 (.int .i64 mv) (f' := fv) (t' := tv) (m' := mv) (nb' := 0) rfl).put 3 (.int .i64 nv) (f' := fv) (t' := tv) (m' := mv) (nb' := nv) rfl
    obtain ⟨x0, x1, x2, x3, x4, x5⟩ := H5.out.xcells
    have xf0 := H5.out.xfroz 0
    have xf1 := H5.out.xfroz 1
    have xf2 := H5.out.xfroz 2
    have xf3 := H5.out.xfroz 3
    clear y0 y1 y2 y3 y4 y5 z0 z1 z2 z3 z4 z5
    obtain ⟨y0, y1, y2, y3, y4, y5⟩ := H5.out.ycells
    have z0 := H5.out.yfroz 0
    have z1 := H5.out.yfroz 1
    have z2 := H5.out.yfroz 2
    have z3 := H5.out.yfroz 3
    have z4 := H5.out.yfroz 4
    have z5 := H5.out.yfroz 5
    go_wp2_with (first
      | (go_at_call_of 110 (Value.string T1); refine (HNf.out _).mono ?_; rintro e w' ⟨rfl, hw'⟩; have hw' := hw'.symm; subst hw')
      | (go_at_call_of 110 (Value.string T2); refine (HNt.out _).mono ?_; rintro e w' ⟨rfl, hw'⟩; have hw' := hw'.symm; subst hw')
      | (go_at_call_of 110 (Value.string T3); refine (HNm.out _).mono ?_; rintro e w' ⟨rfl, hw'⟩; have hw' := hw'.symm; subst hw')
      | (go_at_call_of 110 (Value.string T4); refine (HNb.out _).mono ?_; rintro e w' ⟨rfl, hw'⟩; have hw' := hw'.symm; subst hw')
      | (go_at_call_of 110 (Value.string T5); refine (HNn.out _).mono ?_; rintro e w' ⟨rfl, hw'⟩; have hw' := hw'.symm; subst hw'))
    refine bodyPost_ret (v := .tuple #[.agg #[.int .i64 fv, .int .i64 tv, .int .i64 mv, .int .i64 nv, .slice none 0 0, .slice none 0 0], .bool false]) ?_ rfl ⟨⟨_, rfl, six⟩, ?_⟩
    · rw [results_cell_tmp rfl]
      go_simp
    · refine HP4.out.finF ?_ _ _ _ _ _ _
      first | exact Fr.refl _ _ | exact (Fr.refl _ _).drew | exact (Fr.refl _ _).drewN _

set_option maxRecDepth 100000 in
set_option maxHeartbeats 3200000 in
theorem rread_b2 (t : ByteArray) (w : World) (hz : t.size ≤ 2000000) (ht : 22 ≤ t.size) (hs : ((t.extract 0 4).toList == [83, 78, 68, 49]) = true) (hc : ((chk (t.extract 0 (ckAt t)).data.toList).ba.toList == (t.extract (ckAt t) t.size).toList) = true)
    (fv tv mv nv : Int) (N : Nat) (e1 : fv = (valN (t.extract 4 8).data.toList : Int)) (e2 : tv = (valN (t.extract 8 12).data.toList : Int)) (e3 : mv = (valN (t.extract 12 16).data.toList : Int)) (e4 : nv = (valN (t.extract 16 17).data.toList : Int)) (e5 : N = valN (t.extract 17 18).data.toList) (hN : N < 256)
    (kd1 : ¬ (t.size ≠ 22 + 5 * N)) (kd2 : ¬ (nv < 1)) (kd3 : 16 < nv) :
    Calls Tryz.prog 81 #[.string t] w fun e w' => (∃ x, e = .returned (.tuple #[.agg x, .bool false]) ∧ SixV x) ∧ Fr [] w w' := by
  have HNf : Hid (∀ W, Calls Tryz.prog 110 #[.string (t.extract 4 8)] W fun e w' => e = .returned (.int .i64 fv) ∧ w' = W) := fun W => by rw [e1]; exact rnumberOf_any _ W (by rw [ByteArray.size_extract]; omega)
  have HNt : Hid (∀ W, Calls Tryz.prog 110 #[.string (t.extract 8 12)] W fun e w' => e = .returned (.int .i64 tv) ∧ w' = W) := fun W => by rw [e2]; exact rnumberOf_any _ W (by rw [ByteArray.size_extract]; omega)
  have HNm : Hid (∀ W, Calls Tryz.prog 110 #[.string (t.extract 12 16)] W fun e w' => e = .returned (.int .i64 mv) ∧ w' = W) := fun W => by rw [e3]; exact rnumberOf_any _ W (by rw [ByteArray.size_extract]; omega)
  have HNb : Hid (∀ W, Calls Tryz.prog 110 #[.string (t.extract 16 17)] W fun e w' => e = .returned (.int .i64 nv) ∧ w' = W) := fun W => by rw [e4]; exact rnumberOf_any _ W (by rw [ByteArray.size_extract]; omega)
  have HNn : Hid (∀ W, Calls Tryz.prog 110 #[.string (t.extract 17 18)] W fun e w' => e = .returned (.int .i64 (N : Int)) ∧ w' = W) := fun W => by rw [e5]; exact rnumberOf_any _ W (by rw [ByteArray.size_extract]; omega)
  obtain ⟨T1, hT1⟩ : ∃ T, t.extract 4 8 = T := ⟨_, rfl⟩
  rw [hT1] at HNf
  obtain ⟨T2, hT2⟩ : ∃ T, t.extract 8 12 = T := ⟨_, rfl⟩
  rw [hT2] at HNt
  obtain ⟨T3, hT3⟩ : ∃ T, t.extract 12 16 = T := ⟨_, rfl⟩
  rw [hT3] at HNm
  obtain ⟨T4, hT4⟩ : ∃ T, t.extract 16 17 = T := ⟨_, rfl⟩
  rw [hT4] at HNb
  obtain ⟨T5, hT5⟩ : ∃ T, t.extract 17 18 = T := ⟨_, rfl⟩
  rw [hT5] at HNn
  have HN0 : Hid (0 ≤ fv ∧ 0 ≤ nv ∧ 0 ≤ tv ∧ 0 ≤ mv) := by rw [e1, e2, e3, e4]; exact ⟨by omega, by omega, by omega, by omega⟩
  clear e1 e2 e3 e4 e5
  obtain ⟨n, hn⟩ : ∃ n, t.size = n := ⟨_, rfl⟩
  obtain ⟨c, hcc⟩ : ∃ c, ckAt t = c := ⟨_, rfl⟩
  have hce : c = n - 4 := by rw [← hcc, ← hn]; rfl
  rw [hcc, hn] at hc
  have HC : Hid (∀ W, Calls Tryz.prog 78 #[.string (t.extract 0 c)] W fun e w' => e = .returned (.string (chk (t.extract 0 c).data.toList).ba) ∧ Fr [] W w') := fun W => rcheck_any _ W (by rw [ByteArray.size_extract]; omega)
  obtain ⟨ck, hck⟩ : ∃ ck, (chk (t.extract 0 c).data.toList).ba = ck := ⟨_, rfl⟩
  rw [hck] at HC hc
  rw [hn] at ht hz kd1
  have h1 : decide ((n : Int) < 22) = false := by simp; omega
  have h2 : (4 : Int) ≤ (n : Int) := by omega
  have c0 : (0 : Int) ≤ (c : Int) := by omega
  have c1 : (c : Int) ≤ (n : Int) := by omega
  have hnc : IntKind.i64.wrap ((n : Int) - 4) = (c : Int) := by rw [show (n : Int) - 4 = (c : Int) by omega]; exact wrap_fit ⟨by omega, by omega⟩
  obtain ⟨bx, hbx⟩ : ∃ bx, w.heap.size = bx := ⟨_, rfl⟩
  obtain ⟨w0, hw0⟩ : ∃ w0, (w.alloc (.cells #[.int .i64 0, .int .i64 0, .int .i64 0, .int .i64 0, .slice none 0 0, .slice none 0 0] 143)).alloc (.cells #[.int .i64 0, .int .i64 0, .int .i64 0, .int .i64 0, .slice none 0 0, .slice none 0 0] 143) = w0 := ⟨_, rfl⟩
  have R0 : RX w w0 bx 0 0 0 0 (.slice none 0 0) (.slice none 0 0) [] [] := by
    rw [← hw0, ← hbx]
    refine ⟨((Fr.refl _ _).alloc _).alloc _, ?_, ?_, World.ownsRow_nil _ _ _ _, World.ownsRow_nil _ _ _ _, rfl⟩
    · rw [Below.heap_alloc _ _ _ (by simp)]
      exact heap_alloc_new w _
    · have := heap_alloc_new (w.alloc (.cells #[.int .i64 0, .int .i64 0, .int .i64 0, .int .i64 0, .slice none 0 0, .slice none 0 0] 143)) (.cells #[.int .i64 0, .int .i64 0, .int .i64 0, .int .i64 0, .slice none 0 0, .slice none 0 0] 143)
      simpa using this
  have HR0 : Hid (RX w w0 bx 0 0 0 0 (.slice none 0 0) (.slice none 0 0) [] []) := R0
  obtain ⟨y0, y1, y2, y3, y4, y5⟩ := R0.ycells
  have z0 := R0.yfroz 0
  have z1 := R0.yfroz 1
  have z2 := R0.yfroz 2
  have z3 := R0.yfroz 3
  have z4 := R0.yfroz 4
  have z5 := R0.yfroz 5
  obtain ⟨x0, x1, x2, x3, x4, x5⟩ := R0.xcells
  clear R0
  have hw0' := hw0
  clear hw0
  have HN : Hid (t.size = n) := hn
  have b8 : (8 : Int) ≤ (n : Int) := by omega
  have b12 : (12 : Int) ≤ (n : Int) := by omega
  have b16 : (16 : Int) ≤ (n : Int) := by omega
  have b17 : (17 : Int) ≤ (n : Int) := by omega
  have b18 : (18 : Int) ≤ (n : Int) := by omega
  have p1 : IntKind.i64.wrap (5 * (N : Int)) = 5 * (N : Int) := wrap_fit ⟨by omega, by omega⟩
  have p2 : IntKind.i64.wrap (22 + 5 * (N : Int)) = 22 + 5 * (N : Int) := wrap_fit ⟨by omega, by omega⟩
  clear hck hcc hce
  have d1 : ((n : Int) != 22 + 5 * (N : Int)) = false := by simp; omega
  have d2 : decide (nv < 1) = false := by simpa using kd2
  have d3 : decide (nv > 16) = true := by simpa using kd3
  clear kd1 kd2 kd3
  go_enter Tryz.func81, Tryz.ntmps81
  go_wp2
  go_region_held3 (fun _ => True)
    (first | trivial | go_keep)
    (first
      | (go_at_call 78; refine (HC.out _).mono ?_; rintro e w5 ⟨rfl, f5⟩
         have H5 : Hid (RX w w5 bx 0 0 0 0 (.slice none 0 0) (.slice none 0 0) [] []) := HR0.out.same (by first | exact f5 | exact (Fr.drew (Fr.refl _ _)).trans f5 (by simp) | exact (Fr.drewN (Fr.refl _ _) _).trans f5 (by simp))
         clear f5))
  all_goals
    have HP4 : Hid (RX w ((((w5.setCell ⟨bx + 1, 0, none⟩ (.int .i64 fv)).setCell ⟨bx + 1, 1, none⟩ (.int .i64 tv)).setCell ⟨bx + 1, 2, none⟩ (.int .i64 mv)).setCell ⟨bx + 1, 3, none⟩ (.int .i64 nv)) bx fv tv mv nv (.slice none 0 0) (.slice none 0 0) [] []) := (((H5.out.put 0 (.int .i64 fv) (f' := fv) (t' := 0) (m' := 0) (nb' := 0) rfl).put 1 (.int .i64 tv) (f' := fv) (t' := tv) (m' := 0) (nb' := 0) rfl).put 2 (.int .i64 mv) (f' := fv) (t' := tv) (m' := mv) (nb' := 0) rfl).put 3 (.int .i64 nv) (f' := fv) (t' := tv) (m' := mv) (nb' := nv) rfl
    obtain ⟨x0, x1, x2, x3, x4, x5⟩ := H5.out.xcells
    have xf0 := H5.out.xfroz 0
    have xf1 := H5.out.xfroz 1
    have xf2 := H5.out.xfroz 2
    have xf3 := H5.out.xfroz 3
    clear y0 y1 y2 y3 y4 y5 z0 z1 z2 z3 z4 z5
    obtain ⟨y0, y1, y2, y3, y4, y5⟩ := H5.out.ycells
    have z0 := H5.out.yfroz 0
    have z1 := H5.out.yfroz 1
    have z2 := H5.out.yfroz 2
    have z3 := H5.out.yfroz 3
    have z4 := H5.out.yfroz 4
    have z5 := H5.out.yfroz 5
    go_wp2_with (first
      | (go_at_call_of 110 (Value.string T1); refine (HNf.out _).mono ?_; rintro e w' ⟨rfl, hw'⟩; have hw' := hw'.symm; subst hw')
      | (go_at_call_of 110 (Value.string T2); refine (HNt.out _).mono ?_; rintro e w' ⟨rfl, hw'⟩; have hw' := hw'.symm; subst hw')
      | (go_at_call_of 110 (Value.string T3); refine (HNm.out _).mono ?_; rintro e w' ⟨rfl, hw'⟩; have hw' := hw'.symm; subst hw')
      | (go_at_call_of 110 (Value.string T4); refine (HNb.out _).mono ?_; rintro e w' ⟨rfl, hw'⟩; have hw' := hw'.symm; subst hw')
      | (go_at_call_of 110 (Value.string T5); refine (HNn.out _).mono ?_; rintro e w' ⟨rfl, hw'⟩; have hw' := hw'.symm; subst hw'))
    refine bodyPost_ret (v := .tuple #[.agg #[.int .i64 fv, .int .i64 tv, .int .i64 mv, .int .i64 nv, .slice none 0 0, .slice none 0 0], .bool false]) ?_ rfl ⟨⟨_, rfl, six⟩, ?_⟩
    · rw [results_cell_tmp rfl]
      go_simp
    · refine HP4.out.finF ?_ _ _ _ _ _ _
      first | exact Fr.refl _ _ | exact (Fr.refl _ _).drew | exact (Fr.refl _ _).drewN _

set_option maxRecDepth 100000 in
set_option maxHeartbeats 3200000 in
theorem rread_b3 (t : ByteArray) (w : World) (hz : t.size ≤ 2000000) (ht : 22 ≤ t.size) (hs : ((t.extract 0 4).toList == [83, 78, 68, 49]) = true) (hc : ((chk (t.extract 0 (ckAt t)).data.toList).ba.toList == (t.extract (ckAt t) t.size).toList) = true)
    (fv tv mv nv : Int) (N : Nat) (e1 : fv = (valN (t.extract 4 8).data.toList : Int)) (e2 : tv = (valN (t.extract 8 12).data.toList : Int)) (e3 : mv = (valN (t.extract 12 16).data.toList : Int)) (e4 : nv = (valN (t.extract 16 17).data.toList : Int)) (e5 : N = valN (t.extract 17 18).data.toList) (hN : N < 256)
    (kd1 : ¬ (t.size ≠ 22 + 5 * N)) (kd2 : ¬ (nv < 1)) (kd3 : ¬ (16 < nv)) (kd4 : tv < 1) :
    Calls Tryz.prog 81 #[.string t] w fun e w' => (∃ x, e = .returned (.tuple #[.agg x, .bool false]) ∧ SixV x) ∧ Fr [] w w' := by
  have HNf : Hid (∀ W, Calls Tryz.prog 110 #[.string (t.extract 4 8)] W fun e w' => e = .returned (.int .i64 fv) ∧ w' = W) := fun W => by rw [e1]; exact rnumberOf_any _ W (by rw [ByteArray.size_extract]; omega)
  have HNt : Hid (∀ W, Calls Tryz.prog 110 #[.string (t.extract 8 12)] W fun e w' => e = .returned (.int .i64 tv) ∧ w' = W) := fun W => by rw [e2]; exact rnumberOf_any _ W (by rw [ByteArray.size_extract]; omega)
  have HNm : Hid (∀ W, Calls Tryz.prog 110 #[.string (t.extract 12 16)] W fun e w' => e = .returned (.int .i64 mv) ∧ w' = W) := fun W => by rw [e3]; exact rnumberOf_any _ W (by rw [ByteArray.size_extract]; omega)
  have HNb : Hid (∀ W, Calls Tryz.prog 110 #[.string (t.extract 16 17)] W fun e w' => e = .returned (.int .i64 nv) ∧ w' = W) := fun W => by rw [e4]; exact rnumberOf_any _ W (by rw [ByteArray.size_extract]; omega)
  have HNn : Hid (∀ W, Calls Tryz.prog 110 #[.string (t.extract 17 18)] W fun e w' => e = .returned (.int .i64 (N : Int)) ∧ w' = W) := fun W => by rw [e5]; exact rnumberOf_any _ W (by rw [ByteArray.size_extract]; omega)
  obtain ⟨T1, hT1⟩ : ∃ T, t.extract 4 8 = T := ⟨_, rfl⟩
  rw [hT1] at HNf
  obtain ⟨T2, hT2⟩ : ∃ T, t.extract 8 12 = T := ⟨_, rfl⟩
  rw [hT2] at HNt
  obtain ⟨T3, hT3⟩ : ∃ T, t.extract 12 16 = T := ⟨_, rfl⟩
  rw [hT3] at HNm
  obtain ⟨T4, hT4⟩ : ∃ T, t.extract 16 17 = T := ⟨_, rfl⟩
  rw [hT4] at HNb
  obtain ⟨T5, hT5⟩ : ∃ T, t.extract 17 18 = T := ⟨_, rfl⟩
  rw [hT5] at HNn
  have HN0 : Hid (0 ≤ fv ∧ 0 ≤ nv ∧ 0 ≤ tv ∧ 0 ≤ mv) := by rw [e1, e2, e3, e4]; exact ⟨by omega, by omega, by omega, by omega⟩
  clear e1 e2 e3 e4 e5
  obtain ⟨n, hn⟩ : ∃ n, t.size = n := ⟨_, rfl⟩
  obtain ⟨c, hcc⟩ : ∃ c, ckAt t = c := ⟨_, rfl⟩
  have hce : c = n - 4 := by rw [← hcc, ← hn]; rfl
  rw [hcc, hn] at hc
  have HC : Hid (∀ W, Calls Tryz.prog 78 #[.string (t.extract 0 c)] W fun e w' => e = .returned (.string (chk (t.extract 0 c).data.toList).ba) ∧ Fr [] W w') := fun W => rcheck_any _ W (by rw [ByteArray.size_extract]; omega)
  obtain ⟨ck, hck⟩ : ∃ ck, (chk (t.extract 0 c).data.toList).ba = ck := ⟨_, rfl⟩
  rw [hck] at HC hc
  rw [hn] at ht hz kd1
  have h1 : decide ((n : Int) < 22) = false := by simp; omega
  have h2 : (4 : Int) ≤ (n : Int) := by omega
  have c0 : (0 : Int) ≤ (c : Int) := by omega
  have c1 : (c : Int) ≤ (n : Int) := by omega
  have hnc : IntKind.i64.wrap ((n : Int) - 4) = (c : Int) := by rw [show (n : Int) - 4 = (c : Int) by omega]; exact wrap_fit ⟨by omega, by omega⟩
  obtain ⟨bx, hbx⟩ : ∃ bx, w.heap.size = bx := ⟨_, rfl⟩
  obtain ⟨w0, hw0⟩ : ∃ w0, (w.alloc (.cells #[.int .i64 0, .int .i64 0, .int .i64 0, .int .i64 0, .slice none 0 0, .slice none 0 0] 143)).alloc (.cells #[.int .i64 0, .int .i64 0, .int .i64 0, .int .i64 0, .slice none 0 0, .slice none 0 0] 143) = w0 := ⟨_, rfl⟩
  have R0 : RX w w0 bx 0 0 0 0 (.slice none 0 0) (.slice none 0 0) [] [] := by
    rw [← hw0, ← hbx]
    refine ⟨((Fr.refl _ _).alloc _).alloc _, ?_, ?_, World.ownsRow_nil _ _ _ _, World.ownsRow_nil _ _ _ _, rfl⟩
    · rw [Below.heap_alloc _ _ _ (by simp)]
      exact heap_alloc_new w _
    · have := heap_alloc_new (w.alloc (.cells #[.int .i64 0, .int .i64 0, .int .i64 0, .int .i64 0, .slice none 0 0, .slice none 0 0] 143)) (.cells #[.int .i64 0, .int .i64 0, .int .i64 0, .int .i64 0, .slice none 0 0, .slice none 0 0] 143)
      simpa using this
  have HR0 : Hid (RX w w0 bx 0 0 0 0 (.slice none 0 0) (.slice none 0 0) [] []) := R0
  obtain ⟨y0, y1, y2, y3, y4, y5⟩ := R0.ycells
  have z0 := R0.yfroz 0
  have z1 := R0.yfroz 1
  have z2 := R0.yfroz 2
  have z3 := R0.yfroz 3
  have z4 := R0.yfroz 4
  have z5 := R0.yfroz 5
  obtain ⟨x0, x1, x2, x3, x4, x5⟩ := R0.xcells
  clear R0
  have hw0' := hw0
  clear hw0
  have HN : Hid (t.size = n) := hn
  have b8 : (8 : Int) ≤ (n : Int) := by omega
  have b12 : (12 : Int) ≤ (n : Int) := by omega
  have b16 : (16 : Int) ≤ (n : Int) := by omega
  have b17 : (17 : Int) ≤ (n : Int) := by omega
  have b18 : (18 : Int) ≤ (n : Int) := by omega
  have p1 : IntKind.i64.wrap (5 * (N : Int)) = 5 * (N : Int) := wrap_fit ⟨by omega, by omega⟩
  have p2 : IntKind.i64.wrap (22 + 5 * (N : Int)) = 22 + 5 * (N : Int) := wrap_fit ⟨by omega, by omega⟩
  clear hck hcc hce
  have d1 : ((n : Int) != 22 + 5 * (N : Int)) = false := by simp; omega
  have d2 : decide (nv < 1) = false := by simpa using kd2
  have d3 : decide (nv > 16) = false := by simpa using kd3
  have d4 : decide (tv < 1) = true := by simpa using kd4
  clear kd1 kd2 kd3 kd4
  go_enter Tryz.func81, Tryz.ntmps81
  go_wp2
  go_region_held3 (fun _ => True)
    (first | trivial | go_keep)
    (first
      | (go_at_call 78; refine (HC.out _).mono ?_; rintro e w5 ⟨rfl, f5⟩
         have H5 : Hid (RX w w5 bx 0 0 0 0 (.slice none 0 0) (.slice none 0 0) [] []) := HR0.out.same (by first | exact f5 | exact (Fr.drew (Fr.refl _ _)).trans f5 (by simp) | exact (Fr.drewN (Fr.refl _ _) _).trans f5 (by simp))
         clear f5))
  all_goals
    have HP4 : Hid (RX w ((((w5.setCell ⟨bx + 1, 0, none⟩ (.int .i64 fv)).setCell ⟨bx + 1, 1, none⟩ (.int .i64 tv)).setCell ⟨bx + 1, 2, none⟩ (.int .i64 mv)).setCell ⟨bx + 1, 3, none⟩ (.int .i64 nv)) bx fv tv mv nv (.slice none 0 0) (.slice none 0 0) [] []) := (((H5.out.put 0 (.int .i64 fv) (f' := fv) (t' := 0) (m' := 0) (nb' := 0) rfl).put 1 (.int .i64 tv) (f' := fv) (t' := tv) (m' := 0) (nb' := 0) rfl).put 2 (.int .i64 mv) (f' := fv) (t' := tv) (m' := mv) (nb' := 0) rfl).put 3 (.int .i64 nv) (f' := fv) (t' := tv) (m' := mv) (nb' := nv) rfl
    obtain ⟨x0, x1, x2, x3, x4, x5⟩ := H5.out.xcells
    have xf0 := H5.out.xfroz 0
    have xf1 := H5.out.xfroz 1
    have xf2 := H5.out.xfroz 2
    have xf3 := H5.out.xfroz 3
    clear y0 y1 y2 y3 y4 y5 z0 z1 z2 z3 z4 z5
    obtain ⟨y0, y1, y2, y3, y4, y5⟩ := H5.out.ycells
    have z0 := H5.out.yfroz 0
    have z1 := H5.out.yfroz 1
    have z2 := H5.out.yfroz 2
    have z3 := H5.out.yfroz 3
    have z4 := H5.out.yfroz 4
    have z5 := H5.out.yfroz 5
    go_wp2_with (first
      | (go_at_call_of 110 (Value.string T1); refine (HNf.out _).mono ?_; rintro e w' ⟨rfl, hw'⟩; have hw' := hw'.symm; subst hw')
      | (go_at_call_of 110 (Value.string T2); refine (HNt.out _).mono ?_; rintro e w' ⟨rfl, hw'⟩; have hw' := hw'.symm; subst hw')
      | (go_at_call_of 110 (Value.string T3); refine (HNm.out _).mono ?_; rintro e w' ⟨rfl, hw'⟩; have hw' := hw'.symm; subst hw')
      | (go_at_call_of 110 (Value.string T4); refine (HNb.out _).mono ?_; rintro e w' ⟨rfl, hw'⟩; have hw' := hw'.symm; subst hw')
      | (go_at_call_of 110 (Value.string T5); refine (HNn.out _).mono ?_; rintro e w' ⟨rfl, hw'⟩; have hw' := hw'.symm; subst hw'))
    refine bodyPost_ret (v := .tuple #[.agg #[.int .i64 fv, .int .i64 tv, .int .i64 mv, .int .i64 nv, .slice none 0 0, .slice none 0 0], .bool false]) ?_ rfl ⟨⟨_, rfl, six⟩, ?_⟩
    · rw [results_cell_tmp rfl]
      go_simp
    · refine HP4.out.finF ?_ _ _ _ _ _ _
      first | exact Fr.refl _ _ | exact (Fr.refl _ _).drew | exact (Fr.refl _ _).drewN _

set_option maxRecDepth 100000 in
set_option maxHeartbeats 3200000 in
theorem rread_b4 (t : ByteArray) (w : World) (hz : t.size ≤ 2000000) (ht : 22 ≤ t.size) (hs : ((t.extract 0 4).toList == [83, 78, 68, 49]) = true) (hc : ((chk (t.extract 0 (ckAt t)).data.toList).ba.toList == (t.extract (ckAt t) t.size).toList) = true)
    (fv tv mv nv : Int) (N : Nat) (e1 : fv = (valN (t.extract 4 8).data.toList : Int)) (e2 : tv = (valN (t.extract 8 12).data.toList : Int)) (e3 : mv = (valN (t.extract 12 16).data.toList : Int)) (e4 : nv = (valN (t.extract 16 17).data.toList : Int)) (e5 : N = valN (t.extract 17 18).data.toList) (hN : N < 256)
    (kd1 : ¬ (t.size ≠ 22 + 5 * N)) (kd2 : ¬ (nv < 1)) (kd3 : ¬ (16 < nv)) (kd4 : ¬ (tv < 1)) (kd5 : 999999999 < tv) :
    Calls Tryz.prog 81 #[.string t] w fun e w' => (∃ x, e = .returned (.tuple #[.agg x, .bool false]) ∧ SixV x) ∧ Fr [] w w' := by
  have HNf : Hid (∀ W, Calls Tryz.prog 110 #[.string (t.extract 4 8)] W fun e w' => e = .returned (.int .i64 fv) ∧ w' = W) := fun W => by rw [e1]; exact rnumberOf_any _ W (by rw [ByteArray.size_extract]; omega)
  have HNt : Hid (∀ W, Calls Tryz.prog 110 #[.string (t.extract 8 12)] W fun e w' => e = .returned (.int .i64 tv) ∧ w' = W) := fun W => by rw [e2]; exact rnumberOf_any _ W (by rw [ByteArray.size_extract]; omega)
  have HNm : Hid (∀ W, Calls Tryz.prog 110 #[.string (t.extract 12 16)] W fun e w' => e = .returned (.int .i64 mv) ∧ w' = W) := fun W => by rw [e3]; exact rnumberOf_any _ W (by rw [ByteArray.size_extract]; omega)
  have HNb : Hid (∀ W, Calls Tryz.prog 110 #[.string (t.extract 16 17)] W fun e w' => e = .returned (.int .i64 nv) ∧ w' = W) := fun W => by rw [e4]; exact rnumberOf_any _ W (by rw [ByteArray.size_extract]; omega)
  have HNn : Hid (∀ W, Calls Tryz.prog 110 #[.string (t.extract 17 18)] W fun e w' => e = .returned (.int .i64 (N : Int)) ∧ w' = W) := fun W => by rw [e5]; exact rnumberOf_any _ W (by rw [ByteArray.size_extract]; omega)
  obtain ⟨T1, hT1⟩ : ∃ T, t.extract 4 8 = T := ⟨_, rfl⟩
  rw [hT1] at HNf
  obtain ⟨T2, hT2⟩ : ∃ T, t.extract 8 12 = T := ⟨_, rfl⟩
  rw [hT2] at HNt
  obtain ⟨T3, hT3⟩ : ∃ T, t.extract 12 16 = T := ⟨_, rfl⟩
  rw [hT3] at HNm
  obtain ⟨T4, hT4⟩ : ∃ T, t.extract 16 17 = T := ⟨_, rfl⟩
  rw [hT4] at HNb
  obtain ⟨T5, hT5⟩ : ∃ T, t.extract 17 18 = T := ⟨_, rfl⟩
  rw [hT5] at HNn
  have HN0 : Hid (0 ≤ fv ∧ 0 ≤ nv ∧ 0 ≤ tv ∧ 0 ≤ mv) := by rw [e1, e2, e3, e4]; exact ⟨by omega, by omega, by omega, by omega⟩
  clear e1 e2 e3 e4 e5
  obtain ⟨n, hn⟩ : ∃ n, t.size = n := ⟨_, rfl⟩
  obtain ⟨c, hcc⟩ : ∃ c, ckAt t = c := ⟨_, rfl⟩
  have hce : c = n - 4 := by rw [← hcc, ← hn]; rfl
  rw [hcc, hn] at hc
  have HC : Hid (∀ W, Calls Tryz.prog 78 #[.string (t.extract 0 c)] W fun e w' => e = .returned (.string (chk (t.extract 0 c).data.toList).ba) ∧ Fr [] W w') := fun W => rcheck_any _ W (by rw [ByteArray.size_extract]; omega)
  obtain ⟨ck, hck⟩ : ∃ ck, (chk (t.extract 0 c).data.toList).ba = ck := ⟨_, rfl⟩
  rw [hck] at HC hc
  rw [hn] at ht hz kd1
  have h1 : decide ((n : Int) < 22) = false := by simp; omega
  have h2 : (4 : Int) ≤ (n : Int) := by omega
  have c0 : (0 : Int) ≤ (c : Int) := by omega
  have c1 : (c : Int) ≤ (n : Int) := by omega
  have hnc : IntKind.i64.wrap ((n : Int) - 4) = (c : Int) := by rw [show (n : Int) - 4 = (c : Int) by omega]; exact wrap_fit ⟨by omega, by omega⟩
  obtain ⟨bx, hbx⟩ : ∃ bx, w.heap.size = bx := ⟨_, rfl⟩
  obtain ⟨w0, hw0⟩ : ∃ w0, (w.alloc (.cells #[.int .i64 0, .int .i64 0, .int .i64 0, .int .i64 0, .slice none 0 0, .slice none 0 0] 143)).alloc (.cells #[.int .i64 0, .int .i64 0, .int .i64 0, .int .i64 0, .slice none 0 0, .slice none 0 0] 143) = w0 := ⟨_, rfl⟩
  have R0 : RX w w0 bx 0 0 0 0 (.slice none 0 0) (.slice none 0 0) [] [] := by
    rw [← hw0, ← hbx]
    refine ⟨((Fr.refl _ _).alloc _).alloc _, ?_, ?_, World.ownsRow_nil _ _ _ _, World.ownsRow_nil _ _ _ _, rfl⟩
    · rw [Below.heap_alloc _ _ _ (by simp)]
      exact heap_alloc_new w _
    · have := heap_alloc_new (w.alloc (.cells #[.int .i64 0, .int .i64 0, .int .i64 0, .int .i64 0, .slice none 0 0, .slice none 0 0] 143)) (.cells #[.int .i64 0, .int .i64 0, .int .i64 0, .int .i64 0, .slice none 0 0, .slice none 0 0] 143)
      simpa using this
  have HR0 : Hid (RX w w0 bx 0 0 0 0 (.slice none 0 0) (.slice none 0 0) [] []) := R0
  obtain ⟨y0, y1, y2, y3, y4, y5⟩ := R0.ycells
  have z0 := R0.yfroz 0
  have z1 := R0.yfroz 1
  have z2 := R0.yfroz 2
  have z3 := R0.yfroz 3
  have z4 := R0.yfroz 4
  have z5 := R0.yfroz 5
  obtain ⟨x0, x1, x2, x3, x4, x5⟩ := R0.xcells
  clear R0
  have hw0' := hw0
  clear hw0
  have HN : Hid (t.size = n) := hn
  have b8 : (8 : Int) ≤ (n : Int) := by omega
  have b12 : (12 : Int) ≤ (n : Int) := by omega
  have b16 : (16 : Int) ≤ (n : Int) := by omega
  have b17 : (17 : Int) ≤ (n : Int) := by omega
  have b18 : (18 : Int) ≤ (n : Int) := by omega
  have p1 : IntKind.i64.wrap (5 * (N : Int)) = 5 * (N : Int) := wrap_fit ⟨by omega, by omega⟩
  have p2 : IntKind.i64.wrap (22 + 5 * (N : Int)) = 22 + 5 * (N : Int) := wrap_fit ⟨by omega, by omega⟩
  clear hck hcc hce
  have d1 : ((n : Int) != 22 + 5 * (N : Int)) = false := by simp; omega
  have d2 : decide (nv < 1) = false := by simpa using kd2
  have d3 : decide (nv > 16) = false := by simpa using kd3
  have d4 : decide (tv < 1) = false := by simpa using kd4
  have d5 : decide (tv > 999999999) = true := by simpa using kd5
  clear kd1 kd2 kd3 kd4 kd5
  go_enter Tryz.func81, Tryz.ntmps81
  go_wp2
  go_region_held3 (fun _ => True)
    (first | trivial | go_keep)
    (first
      | (go_at_call 78; refine (HC.out _).mono ?_; rintro e w5 ⟨rfl, f5⟩
         have H5 : Hid (RX w w5 bx 0 0 0 0 (.slice none 0 0) (.slice none 0 0) [] []) := HR0.out.same (by first | exact f5 | exact (Fr.drew (Fr.refl _ _)).trans f5 (by simp) | exact (Fr.drewN (Fr.refl _ _) _).trans f5 (by simp))
         clear f5))
  all_goals
    have HP4 : Hid (RX w ((((w5.setCell ⟨bx + 1, 0, none⟩ (.int .i64 fv)).setCell ⟨bx + 1, 1, none⟩ (.int .i64 tv)).setCell ⟨bx + 1, 2, none⟩ (.int .i64 mv)).setCell ⟨bx + 1, 3, none⟩ (.int .i64 nv)) bx fv tv mv nv (.slice none 0 0) (.slice none 0 0) [] []) := (((H5.out.put 0 (.int .i64 fv) (f' := fv) (t' := 0) (m' := 0) (nb' := 0) rfl).put 1 (.int .i64 tv) (f' := fv) (t' := tv) (m' := 0) (nb' := 0) rfl).put 2 (.int .i64 mv) (f' := fv) (t' := tv) (m' := mv) (nb' := 0) rfl).put 3 (.int .i64 nv) (f' := fv) (t' := tv) (m' := mv) (nb' := nv) rfl
    obtain ⟨x0, x1, x2, x3, x4, x5⟩ := H5.out.xcells
    have xf0 := H5.out.xfroz 0
    have xf1 := H5.out.xfroz 1
    have xf2 := H5.out.xfroz 2
    have xf3 := H5.out.xfroz 3
    clear y0 y1 y2 y3 y4 y5 z0 z1 z2 z3 z4 z5
    obtain ⟨y0, y1, y2, y3, y4, y5⟩ := H5.out.ycells
    have z0 := H5.out.yfroz 0
    have z1 := H5.out.yfroz 1
    have z2 := H5.out.yfroz 2
    have z3 := H5.out.yfroz 3
    have z4 := H5.out.yfroz 4
    have z5 := H5.out.yfroz 5
    go_wp2_with (first
      | (go_at_call_of 110 (Value.string T1); refine (HNf.out _).mono ?_; rintro e w' ⟨rfl, hw'⟩; have hw' := hw'.symm; subst hw')
      | (go_at_call_of 110 (Value.string T2); refine (HNt.out _).mono ?_; rintro e w' ⟨rfl, hw'⟩; have hw' := hw'.symm; subst hw')
      | (go_at_call_of 110 (Value.string T3); refine (HNm.out _).mono ?_; rintro e w' ⟨rfl, hw'⟩; have hw' := hw'.symm; subst hw')
      | (go_at_call_of 110 (Value.string T4); refine (HNb.out _).mono ?_; rintro e w' ⟨rfl, hw'⟩; have hw' := hw'.symm; subst hw')
      | (go_at_call_of 110 (Value.string T5); refine (HNn.out _).mono ?_; rintro e w' ⟨rfl, hw'⟩; have hw' := hw'.symm; subst hw'))
    refine bodyPost_ret (v := .tuple #[.agg #[.int .i64 fv, .int .i64 tv, .int .i64 mv, .int .i64 nv, .slice none 0 0, .slice none 0 0], .bool false]) ?_ rfl ⟨⟨_, rfl, six⟩, ?_⟩
    · rw [results_cell_tmp rfl]
      go_simp
    · refine HP4.out.finF ?_ _ _ _ _ _ _
      first | exact Fr.refl _ _ | exact (Fr.refl _ _).drew | exact (Fr.refl _ _).drewN _

set_option maxRecDepth 100000 in
set_option maxHeartbeats 3200000 in
theorem rread_b5 (t : ByteArray) (w : World) (hz : t.size ≤ 2000000) (ht : 22 ≤ t.size) (hs : ((t.extract 0 4).toList == [83, 78, 68, 49]) = true) (hc : ((chk (t.extract 0 (ckAt t)).data.toList).ba.toList == (t.extract (ckAt t) t.size).toList) = true)
    (fv tv mv nv : Int) (N : Nat) (e1 : fv = (valN (t.extract 4 8).data.toList : Int)) (e2 : tv = (valN (t.extract 8 12).data.toList : Int)) (e3 : mv = (valN (t.extract 12 16).data.toList : Int)) (e4 : nv = (valN (t.extract 16 17).data.toList : Int)) (e5 : N = valN (t.extract 17 18).data.toList) (hN : N < 256)
    (kd1 : ¬ (t.size ≠ 22 + 5 * N)) (kd2 : ¬ (nv < 1)) (kd3 : ¬ (16 < nv)) (kd4 : ¬ (tv < 1)) (kd5 : ¬ (999999999 < tv)) (kd6 : 999999999 < fv) :
    Calls Tryz.prog 81 #[.string t] w fun e w' => (∃ x, e = .returned (.tuple #[.agg x, .bool false]) ∧ SixV x) ∧ Fr [] w w' := by
  have HNf : Hid (∀ W, Calls Tryz.prog 110 #[.string (t.extract 4 8)] W fun e w' => e = .returned (.int .i64 fv) ∧ w' = W) := fun W => by rw [e1]; exact rnumberOf_any _ W (by rw [ByteArray.size_extract]; omega)
  have HNt : Hid (∀ W, Calls Tryz.prog 110 #[.string (t.extract 8 12)] W fun e w' => e = .returned (.int .i64 tv) ∧ w' = W) := fun W => by rw [e2]; exact rnumberOf_any _ W (by rw [ByteArray.size_extract]; omega)
  have HNm : Hid (∀ W, Calls Tryz.prog 110 #[.string (t.extract 12 16)] W fun e w' => e = .returned (.int .i64 mv) ∧ w' = W) := fun W => by rw [e3]; exact rnumberOf_any _ W (by rw [ByteArray.size_extract]; omega)
  have HNb : Hid (∀ W, Calls Tryz.prog 110 #[.string (t.extract 16 17)] W fun e w' => e = .returned (.int .i64 nv) ∧ w' = W) := fun W => by rw [e4]; exact rnumberOf_any _ W (by rw [ByteArray.size_extract]; omega)
  have HNn : Hid (∀ W, Calls Tryz.prog 110 #[.string (t.extract 17 18)] W fun e w' => e = .returned (.int .i64 (N : Int)) ∧ w' = W) := fun W => by rw [e5]; exact rnumberOf_any _ W (by rw [ByteArray.size_extract]; omega)
  obtain ⟨T1, hT1⟩ : ∃ T, t.extract 4 8 = T := ⟨_, rfl⟩
  rw [hT1] at HNf
  obtain ⟨T2, hT2⟩ : ∃ T, t.extract 8 12 = T := ⟨_, rfl⟩
  rw [hT2] at HNt
  obtain ⟨T3, hT3⟩ : ∃ T, t.extract 12 16 = T := ⟨_, rfl⟩
  rw [hT3] at HNm
  obtain ⟨T4, hT4⟩ : ∃ T, t.extract 16 17 = T := ⟨_, rfl⟩
  rw [hT4] at HNb
  obtain ⟨T5, hT5⟩ : ∃ T, t.extract 17 18 = T := ⟨_, rfl⟩
  rw [hT5] at HNn
  have HN0 : Hid (0 ≤ fv ∧ 0 ≤ nv ∧ 0 ≤ tv ∧ 0 ≤ mv) := by rw [e1, e2, e3, e4]; exact ⟨by omega, by omega, by omega, by omega⟩
  clear e1 e2 e3 e4 e5
  obtain ⟨n, hn⟩ : ∃ n, t.size = n := ⟨_, rfl⟩
  obtain ⟨c, hcc⟩ : ∃ c, ckAt t = c := ⟨_, rfl⟩
  have hce : c = n - 4 := by rw [← hcc, ← hn]; rfl
  rw [hcc, hn] at hc
  have HC : Hid (∀ W, Calls Tryz.prog 78 #[.string (t.extract 0 c)] W fun e w' => e = .returned (.string (chk (t.extract 0 c).data.toList).ba) ∧ Fr [] W w') := fun W => rcheck_any _ W (by rw [ByteArray.size_extract]; omega)
  obtain ⟨ck, hck⟩ : ∃ ck, (chk (t.extract 0 c).data.toList).ba = ck := ⟨_, rfl⟩
  rw [hck] at HC hc
  rw [hn] at ht hz kd1
  have h1 : decide ((n : Int) < 22) = false := by simp; omega
  have h2 : (4 : Int) ≤ (n : Int) := by omega
  have c0 : (0 : Int) ≤ (c : Int) := by omega
  have c1 : (c : Int) ≤ (n : Int) := by omega
  have hnc : IntKind.i64.wrap ((n : Int) - 4) = (c : Int) := by rw [show (n : Int) - 4 = (c : Int) by omega]; exact wrap_fit ⟨by omega, by omega⟩
  obtain ⟨bx, hbx⟩ : ∃ bx, w.heap.size = bx := ⟨_, rfl⟩
  obtain ⟨w0, hw0⟩ : ∃ w0, (w.alloc (.cells #[.int .i64 0, .int .i64 0, .int .i64 0, .int .i64 0, .slice none 0 0, .slice none 0 0] 143)).alloc (.cells #[.int .i64 0, .int .i64 0, .int .i64 0, .int .i64 0, .slice none 0 0, .slice none 0 0] 143) = w0 := ⟨_, rfl⟩
  have R0 : RX w w0 bx 0 0 0 0 (.slice none 0 0) (.slice none 0 0) [] [] := by
    rw [← hw0, ← hbx]
    refine ⟨((Fr.refl _ _).alloc _).alloc _, ?_, ?_, World.ownsRow_nil _ _ _ _, World.ownsRow_nil _ _ _ _, rfl⟩
    · rw [Below.heap_alloc _ _ _ (by simp)]
      exact heap_alloc_new w _
    · have := heap_alloc_new (w.alloc (.cells #[.int .i64 0, .int .i64 0, .int .i64 0, .int .i64 0, .slice none 0 0, .slice none 0 0] 143)) (.cells #[.int .i64 0, .int .i64 0, .int .i64 0, .int .i64 0, .slice none 0 0, .slice none 0 0] 143)
      simpa using this
  have HR0 : Hid (RX w w0 bx 0 0 0 0 (.slice none 0 0) (.slice none 0 0) [] []) := R0
  obtain ⟨y0, y1, y2, y3, y4, y5⟩ := R0.ycells
  have z0 := R0.yfroz 0
  have z1 := R0.yfroz 1
  have z2 := R0.yfroz 2
  have z3 := R0.yfroz 3
  have z4 := R0.yfroz 4
  have z5 := R0.yfroz 5
  obtain ⟨x0, x1, x2, x3, x4, x5⟩ := R0.xcells
  clear R0
  have hw0' := hw0
  clear hw0
  have HN : Hid (t.size = n) := hn
  have b8 : (8 : Int) ≤ (n : Int) := by omega
  have b12 : (12 : Int) ≤ (n : Int) := by omega
  have b16 : (16 : Int) ≤ (n : Int) := by omega
  have b17 : (17 : Int) ≤ (n : Int) := by omega
  have b18 : (18 : Int) ≤ (n : Int) := by omega
  have p1 : IntKind.i64.wrap (5 * (N : Int)) = 5 * (N : Int) := wrap_fit ⟨by omega, by omega⟩
  have p2 : IntKind.i64.wrap (22 + 5 * (N : Int)) = 22 + 5 * (N : Int) := wrap_fit ⟨by omega, by omega⟩
  clear hck hcc hce
  have d1 : ((n : Int) != 22 + 5 * (N : Int)) = false := by simp; omega
  have d2 : decide (nv < 1) = false := by simpa using kd2
  have d3 : decide (nv > 16) = false := by simpa using kd3
  have d4 : decide (tv < 1) = false := by simpa using kd4
  have d5 : decide (tv > 999999999) = false := by simpa using kd5
  have d6 : decide (fv > 999999999) = true := by simpa using kd6
  clear kd1 kd2 kd3 kd4 kd5 kd6
  go_enter Tryz.func81, Tryz.ntmps81
  go_wp2
  go_region_held3 (fun _ => True)
    (first | trivial | go_keep)
    (first
      | (go_at_call 78; refine (HC.out _).mono ?_; rintro e w5 ⟨rfl, f5⟩
         have H5 : Hid (RX w w5 bx 0 0 0 0 (.slice none 0 0) (.slice none 0 0) [] []) := HR0.out.same (by first | exact f5 | exact (Fr.drew (Fr.refl _ _)).trans f5 (by simp) | exact (Fr.drewN (Fr.refl _ _) _).trans f5 (by simp))
         clear f5))
  all_goals
    have HP4 : Hid (RX w ((((w5.setCell ⟨bx + 1, 0, none⟩ (.int .i64 fv)).setCell ⟨bx + 1, 1, none⟩ (.int .i64 tv)).setCell ⟨bx + 1, 2, none⟩ (.int .i64 mv)).setCell ⟨bx + 1, 3, none⟩ (.int .i64 nv)) bx fv tv mv nv (.slice none 0 0) (.slice none 0 0) [] []) := (((H5.out.put 0 (.int .i64 fv) (f' := fv) (t' := 0) (m' := 0) (nb' := 0) rfl).put 1 (.int .i64 tv) (f' := fv) (t' := tv) (m' := 0) (nb' := 0) rfl).put 2 (.int .i64 mv) (f' := fv) (t' := tv) (m' := mv) (nb' := 0) rfl).put 3 (.int .i64 nv) (f' := fv) (t' := tv) (m' := mv) (nb' := nv) rfl
    obtain ⟨x0, x1, x2, x3, x4, x5⟩ := H5.out.xcells
    have xf0 := H5.out.xfroz 0
    have xf1 := H5.out.xfroz 1
    have xf2 := H5.out.xfroz 2
    have xf3 := H5.out.xfroz 3
    clear y0 y1 y2 y3 y4 y5 z0 z1 z2 z3 z4 z5
    obtain ⟨y0, y1, y2, y3, y4, y5⟩ := H5.out.ycells
    have z0 := H5.out.yfroz 0
    have z1 := H5.out.yfroz 1
    have z2 := H5.out.yfroz 2
    have z3 := H5.out.yfroz 3
    have z4 := H5.out.yfroz 4
    have z5 := H5.out.yfroz 5
    go_wp2_with (first
      | (go_at_call_of 110 (Value.string T1); refine (HNf.out _).mono ?_; rintro e w' ⟨rfl, hw'⟩; have hw' := hw'.symm; subst hw')
      | (go_at_call_of 110 (Value.string T2); refine (HNt.out _).mono ?_; rintro e w' ⟨rfl, hw'⟩; have hw' := hw'.symm; subst hw')
      | (go_at_call_of 110 (Value.string T3); refine (HNm.out _).mono ?_; rintro e w' ⟨rfl, hw'⟩; have hw' := hw'.symm; subst hw')
      | (go_at_call_of 110 (Value.string T4); refine (HNb.out _).mono ?_; rintro e w' ⟨rfl, hw'⟩; have hw' := hw'.symm; subst hw')
      | (go_at_call_of 110 (Value.string T5); refine (HNn.out _).mono ?_; rintro e w' ⟨rfl, hw'⟩; have hw' := hw'.symm; subst hw'))
    refine bodyPost_ret (v := .tuple #[.agg #[.int .i64 fv, .int .i64 tv, .int .i64 mv, .int .i64 nv, .slice none 0 0, .slice none 0 0], .bool false]) ?_ rfl ⟨⟨_, rfl, six⟩, ?_⟩
    · rw [results_cell_tmp rfl]
      go_simp
    · refine HP4.out.finF ?_ _ _ _ _ _ _
      first | exact Fr.refl _ _ | exact (Fr.refl _ _).drew | exact (Fr.refl _ _).drewN _

set_option maxRecDepth 100000 in
set_option maxHeartbeats 3200000 in
theorem rread_b6 (t : ByteArray) (w : World) (hz : t.size ≤ 2000000) (ht : 22 ≤ t.size) (hs : ((t.extract 0 4).toList == [83, 78, 68, 49]) = true) (hc : ((chk (t.extract 0 (ckAt t)).data.toList).ba.toList == (t.extract (ckAt t) t.size).toList) = true)
    (fv tv mv nv : Int) (N : Nat) (e1 : fv = (valN (t.extract 4 8).data.toList : Int)) (e2 : tv = (valN (t.extract 8 12).data.toList : Int)) (e3 : mv = (valN (t.extract 12 16).data.toList : Int)) (e4 : nv = (valN (t.extract 16 17).data.toList : Int)) (e5 : N = valN (t.extract 17 18).data.toList) (hN : N < 256)
    (kd1 : ¬ (t.size ≠ 22 + 5 * N)) (kd2 : ¬ (nv < 1)) (kd3 : ¬ (16 < nv)) (kd4 : ¬ (tv < 1)) (kd5 : ¬ (999999999 < tv)) (kd6 : ¬ (999999999 < fv)) (kd7 : fv = tv) :
    Calls Tryz.prog 81 #[.string t] w fun e w' => (∃ x, e = .returned (.tuple #[.agg x, .bool false]) ∧ SixV x) ∧ Fr [] w w' := by
  have HNf : Hid (∀ W, Calls Tryz.prog 110 #[.string (t.extract 4 8)] W fun e w' => e = .returned (.int .i64 fv) ∧ w' = W) := fun W => by rw [e1]; exact rnumberOf_any _ W (by rw [ByteArray.size_extract]; omega)
  have HNt : Hid (∀ W, Calls Tryz.prog 110 #[.string (t.extract 8 12)] W fun e w' => e = .returned (.int .i64 tv) ∧ w' = W) := fun W => by rw [e2]; exact rnumberOf_any _ W (by rw [ByteArray.size_extract]; omega)
  have HNm : Hid (∀ W, Calls Tryz.prog 110 #[.string (t.extract 12 16)] W fun e w' => e = .returned (.int .i64 mv) ∧ w' = W) := fun W => by rw [e3]; exact rnumberOf_any _ W (by rw [ByteArray.size_extract]; omega)
  have HNb : Hid (∀ W, Calls Tryz.prog 110 #[.string (t.extract 16 17)] W fun e w' => e = .returned (.int .i64 nv) ∧ w' = W) := fun W => by rw [e4]; exact rnumberOf_any _ W (by rw [ByteArray.size_extract]; omega)
  have HNn : Hid (∀ W, Calls Tryz.prog 110 #[.string (t.extract 17 18)] W fun e w' => e = .returned (.int .i64 (N : Int)) ∧ w' = W) := fun W => by rw [e5]; exact rnumberOf_any _ W (by rw [ByteArray.size_extract]; omega)
  obtain ⟨T1, hT1⟩ : ∃ T, t.extract 4 8 = T := ⟨_, rfl⟩
  rw [hT1] at HNf
  obtain ⟨T2, hT2⟩ : ∃ T, t.extract 8 12 = T := ⟨_, rfl⟩
  rw [hT2] at HNt
  obtain ⟨T3, hT3⟩ : ∃ T, t.extract 12 16 = T := ⟨_, rfl⟩
  rw [hT3] at HNm
  obtain ⟨T4, hT4⟩ : ∃ T, t.extract 16 17 = T := ⟨_, rfl⟩
  rw [hT4] at HNb
  obtain ⟨T5, hT5⟩ : ∃ T, t.extract 17 18 = T := ⟨_, rfl⟩
  rw [hT5] at HNn
  have HN0 : Hid (0 ≤ fv ∧ 0 ≤ nv ∧ 0 ≤ tv ∧ 0 ≤ mv) := by rw [e1, e2, e3, e4]; exact ⟨by omega, by omega, by omega, by omega⟩
  clear e1 e2 e3 e4 e5
  obtain ⟨n, hn⟩ : ∃ n, t.size = n := ⟨_, rfl⟩
  obtain ⟨c, hcc⟩ : ∃ c, ckAt t = c := ⟨_, rfl⟩
  have hce : c = n - 4 := by rw [← hcc, ← hn]; rfl
  rw [hcc, hn] at hc
  have HC : Hid (∀ W, Calls Tryz.prog 78 #[.string (t.extract 0 c)] W fun e w' => e = .returned (.string (chk (t.extract 0 c).data.toList).ba) ∧ Fr [] W w') := fun W => rcheck_any _ W (by rw [ByteArray.size_extract]; omega)
  obtain ⟨ck, hck⟩ : ∃ ck, (chk (t.extract 0 c).data.toList).ba = ck := ⟨_, rfl⟩
  rw [hck] at HC hc
  rw [hn] at ht hz kd1
  have h1 : decide ((n : Int) < 22) = false := by simp; omega
  have h2 : (4 : Int) ≤ (n : Int) := by omega
  have c0 : (0 : Int) ≤ (c : Int) := by omega
  have c1 : (c : Int) ≤ (n : Int) := by omega
  have hnc : IntKind.i64.wrap ((n : Int) - 4) = (c : Int) := by rw [show (n : Int) - 4 = (c : Int) by omega]; exact wrap_fit ⟨by omega, by omega⟩
  obtain ⟨bx, hbx⟩ : ∃ bx, w.heap.size = bx := ⟨_, rfl⟩
  obtain ⟨w0, hw0⟩ : ∃ w0, (w.alloc (.cells #[.int .i64 0, .int .i64 0, .int .i64 0, .int .i64 0, .slice none 0 0, .slice none 0 0] 143)).alloc (.cells #[.int .i64 0, .int .i64 0, .int .i64 0, .int .i64 0, .slice none 0 0, .slice none 0 0] 143) = w0 := ⟨_, rfl⟩
  have R0 : RX w w0 bx 0 0 0 0 (.slice none 0 0) (.slice none 0 0) [] [] := by
    rw [← hw0, ← hbx]
    refine ⟨((Fr.refl _ _).alloc _).alloc _, ?_, ?_, World.ownsRow_nil _ _ _ _, World.ownsRow_nil _ _ _ _, rfl⟩
    · rw [Below.heap_alloc _ _ _ (by simp)]
      exact heap_alloc_new w _
    · have := heap_alloc_new (w.alloc (.cells #[.int .i64 0, .int .i64 0, .int .i64 0, .int .i64 0, .slice none 0 0, .slice none 0 0] 143)) (.cells #[.int .i64 0, .int .i64 0, .int .i64 0, .int .i64 0, .slice none 0 0, .slice none 0 0] 143)
      simpa using this
  have HR0 : Hid (RX w w0 bx 0 0 0 0 (.slice none 0 0) (.slice none 0 0) [] []) := R0
  obtain ⟨y0, y1, y2, y3, y4, y5⟩ := R0.ycells
  have z0 := R0.yfroz 0
  have z1 := R0.yfroz 1
  have z2 := R0.yfroz 2
  have z3 := R0.yfroz 3
  have z4 := R0.yfroz 4
  have z5 := R0.yfroz 5
  obtain ⟨x0, x1, x2, x3, x4, x5⟩ := R0.xcells
  clear R0
  have hw0' := hw0
  clear hw0
  have HN : Hid (t.size = n) := hn
  have b8 : (8 : Int) ≤ (n : Int) := by omega
  have b12 : (12 : Int) ≤ (n : Int) := by omega
  have b16 : (16 : Int) ≤ (n : Int) := by omega
  have b17 : (17 : Int) ≤ (n : Int) := by omega
  have b18 : (18 : Int) ≤ (n : Int) := by omega
  have p1 : IntKind.i64.wrap (5 * (N : Int)) = 5 * (N : Int) := wrap_fit ⟨by omega, by omega⟩
  have p2 : IntKind.i64.wrap (22 + 5 * (N : Int)) = 22 + 5 * (N : Int) := wrap_fit ⟨by omega, by omega⟩
  clear hck hcc hce
  have d1 : ((n : Int) != 22 + 5 * (N : Int)) = false := by simp; omega
  have d2 : decide (nv < 1) = false := by simpa using kd2
  have d3 : decide (nv > 16) = false := by simpa using kd3
  have d4 : decide (tv < 1) = false := by simpa using kd4
  have d5 : decide (tv > 999999999) = false := by simpa using kd5
  have d6 : decide (fv > 999999999) = false := by simpa using kd6
  have d7 : (fv == tv) = true := by simpa using kd7
  clear kd1 kd2 kd3 kd4 kd5 kd6 kd7
  go_enter Tryz.func81, Tryz.ntmps81
  go_wp2
  go_region_held3 (fun _ => True)
    (first | trivial | go_keep)
    (first
      | (go_at_call 78; refine (HC.out _).mono ?_; rintro e w5 ⟨rfl, f5⟩
         have H5 : Hid (RX w w5 bx 0 0 0 0 (.slice none 0 0) (.slice none 0 0) [] []) := HR0.out.same (by first | exact f5 | exact (Fr.drew (Fr.refl _ _)).trans f5 (by simp) | exact (Fr.drewN (Fr.refl _ _) _).trans f5 (by simp))
         clear f5))
  all_goals
    have HP4 : Hid (RX w ((((w5.setCell ⟨bx + 1, 0, none⟩ (.int .i64 fv)).setCell ⟨bx + 1, 1, none⟩ (.int .i64 tv)).setCell ⟨bx + 1, 2, none⟩ (.int .i64 mv)).setCell ⟨bx + 1, 3, none⟩ (.int .i64 nv)) bx fv tv mv nv (.slice none 0 0) (.slice none 0 0) [] []) := (((H5.out.put 0 (.int .i64 fv) (f' := fv) (t' := 0) (m' := 0) (nb' := 0) rfl).put 1 (.int .i64 tv) (f' := fv) (t' := tv) (m' := 0) (nb' := 0) rfl).put 2 (.int .i64 mv) (f' := fv) (t' := tv) (m' := mv) (nb' := 0) rfl).put 3 (.int .i64 nv) (f' := fv) (t' := tv) (m' := mv) (nb' := nv) rfl
    obtain ⟨x0, x1, x2, x3, x4, x5⟩ := H5.out.xcells
    have xf0 := H5.out.xfroz 0
    have xf1 := H5.out.xfroz 1
    have xf2 := H5.out.xfroz 2
    have xf3 := H5.out.xfroz 3
    clear y0 y1 y2 y3 y4 y5 z0 z1 z2 z3 z4 z5
    obtain ⟨y0, y1, y2, y3, y4, y5⟩ := H5.out.ycells
    have z0 := H5.out.yfroz 0
    have z1 := H5.out.yfroz 1
    have z2 := H5.out.yfroz 2
    have z3 := H5.out.yfroz 3
    have z4 := H5.out.yfroz 4
    have z5 := H5.out.yfroz 5
    go_wp2_with (first
      | (go_at_call_of 110 (Value.string T1); refine (HNf.out _).mono ?_; rintro e w' ⟨rfl, hw'⟩; have hw' := hw'.symm; subst hw')
      | (go_at_call_of 110 (Value.string T2); refine (HNt.out _).mono ?_; rintro e w' ⟨rfl, hw'⟩; have hw' := hw'.symm; subst hw')
      | (go_at_call_of 110 (Value.string T3); refine (HNm.out _).mono ?_; rintro e w' ⟨rfl, hw'⟩; have hw' := hw'.symm; subst hw')
      | (go_at_call_of 110 (Value.string T4); refine (HNb.out _).mono ?_; rintro e w' ⟨rfl, hw'⟩; have hw' := hw'.symm; subst hw')
      | (go_at_call_of 110 (Value.string T5); refine (HNn.out _).mono ?_; rintro e w' ⟨rfl, hw'⟩; have hw' := hw'.symm; subst hw'))
    refine bodyPost_ret (v := .tuple #[.agg #[.int .i64 fv, .int .i64 tv, .int .i64 mv, .int .i64 nv, .slice none 0 0, .slice none 0 0], .bool false]) ?_ rfl ⟨⟨_, rfl, six⟩, ?_⟩
    · rw [results_cell_tmp rfl]
      go_simp
    · refine HP4.out.finF ?_ _ _ _ _ _ _
      first | exact Fr.refl _ _ | exact (Fr.refl _ _).drew | exact (Fr.refl _ _).drewN _

set_option maxRecDepth 100000 in
set_option maxHeartbeats 3200000 in
theorem rread_b7 (t : ByteArray) (w : World) (hz : t.size ≤ 2000000) (ht : 22 ≤ t.size) (hs : ((t.extract 0 4).toList == [83, 78, 68, 49]) = true) (hc : ((chk (t.extract 0 (ckAt t)).data.toList).ba.toList == (t.extract (ckAt t) t.size).toList) = true)
    (fv tv mv nv : Int) (N : Nat) (e1 : fv = (valN (t.extract 4 8).data.toList : Int)) (e2 : tv = (valN (t.extract 8 12).data.toList : Int)) (e3 : mv = (valN (t.extract 12 16).data.toList : Int)) (e4 : nv = (valN (t.extract 16 17).data.toList : Int)) (e5 : N = valN (t.extract 17 18).data.toList) (hN : N < 256)
    (kd1 : ¬ (t.size ≠ 22 + 5 * N)) (kd2 : ¬ (nv < 1)) (kd3 : ¬ (16 < nv)) (kd4 : ¬ (tv < 1)) (kd5 : ¬ (999999999 < tv)) (kd6 : ¬ (999999999 < fv)) (kd7 : ¬ (fv = tv)) (kd8 : 1073741824 < mv) :
    Calls Tryz.prog 81 #[.string t] w fun e w' => (∃ x, e = .returned (.tuple #[.agg x, .bool false]) ∧ SixV x) ∧ Fr [] w w' := by
  have HNf : Hid (∀ W, Calls Tryz.prog 110 #[.string (t.extract 4 8)] W fun e w' => e = .returned (.int .i64 fv) ∧ w' = W) := fun W => by rw [e1]; exact rnumberOf_any _ W (by rw [ByteArray.size_extract]; omega)
  have HNt : Hid (∀ W, Calls Tryz.prog 110 #[.string (t.extract 8 12)] W fun e w' => e = .returned (.int .i64 tv) ∧ w' = W) := fun W => by rw [e2]; exact rnumberOf_any _ W (by rw [ByteArray.size_extract]; omega)
  have HNm : Hid (∀ W, Calls Tryz.prog 110 #[.string (t.extract 12 16)] W fun e w' => e = .returned (.int .i64 mv) ∧ w' = W) := fun W => by rw [e3]; exact rnumberOf_any _ W (by rw [ByteArray.size_extract]; omega)
  have HNb : Hid (∀ W, Calls Tryz.prog 110 #[.string (t.extract 16 17)] W fun e w' => e = .returned (.int .i64 nv) ∧ w' = W) := fun W => by rw [e4]; exact rnumberOf_any _ W (by rw [ByteArray.size_extract]; omega)
  have HNn : Hid (∀ W, Calls Tryz.prog 110 #[.string (t.extract 17 18)] W fun e w' => e = .returned (.int .i64 (N : Int)) ∧ w' = W) := fun W => by rw [e5]; exact rnumberOf_any _ W (by rw [ByteArray.size_extract]; omega)
  obtain ⟨T1, hT1⟩ : ∃ T, t.extract 4 8 = T := ⟨_, rfl⟩
  rw [hT1] at HNf
  obtain ⟨T2, hT2⟩ : ∃ T, t.extract 8 12 = T := ⟨_, rfl⟩
  rw [hT2] at HNt
  obtain ⟨T3, hT3⟩ : ∃ T, t.extract 12 16 = T := ⟨_, rfl⟩
  rw [hT3] at HNm
  obtain ⟨T4, hT4⟩ : ∃ T, t.extract 16 17 = T := ⟨_, rfl⟩
  rw [hT4] at HNb
  obtain ⟨T5, hT5⟩ : ∃ T, t.extract 17 18 = T := ⟨_, rfl⟩
  rw [hT5] at HNn
  have HN0 : Hid (0 ≤ fv ∧ 0 ≤ nv ∧ 0 ≤ tv ∧ 0 ≤ mv) := by rw [e1, e2, e3, e4]; exact ⟨by omega, by omega, by omega, by omega⟩
  clear e1 e2 e3 e4 e5
  obtain ⟨n, hn⟩ : ∃ n, t.size = n := ⟨_, rfl⟩
  obtain ⟨c, hcc⟩ : ∃ c, ckAt t = c := ⟨_, rfl⟩
  have hce : c = n - 4 := by rw [← hcc, ← hn]; rfl
  rw [hcc, hn] at hc
  have HC : Hid (∀ W, Calls Tryz.prog 78 #[.string (t.extract 0 c)] W fun e w' => e = .returned (.string (chk (t.extract 0 c).data.toList).ba) ∧ Fr [] W w') := fun W => rcheck_any _ W (by rw [ByteArray.size_extract]; omega)
  obtain ⟨ck, hck⟩ : ∃ ck, (chk (t.extract 0 c).data.toList).ba = ck := ⟨_, rfl⟩
  rw [hck] at HC hc
  rw [hn] at ht hz kd1
  have h1 : decide ((n : Int) < 22) = false := by simp; omega
  have h2 : (4 : Int) ≤ (n : Int) := by omega
  have c0 : (0 : Int) ≤ (c : Int) := by omega
  have c1 : (c : Int) ≤ (n : Int) := by omega
  have hnc : IntKind.i64.wrap ((n : Int) - 4) = (c : Int) := by rw [show (n : Int) - 4 = (c : Int) by omega]; exact wrap_fit ⟨by omega, by omega⟩
  obtain ⟨bx, hbx⟩ : ∃ bx, w.heap.size = bx := ⟨_, rfl⟩
  obtain ⟨w0, hw0⟩ : ∃ w0, (w.alloc (.cells #[.int .i64 0, .int .i64 0, .int .i64 0, .int .i64 0, .slice none 0 0, .slice none 0 0] 143)).alloc (.cells #[.int .i64 0, .int .i64 0, .int .i64 0, .int .i64 0, .slice none 0 0, .slice none 0 0] 143) = w0 := ⟨_, rfl⟩
  have R0 : RX w w0 bx 0 0 0 0 (.slice none 0 0) (.slice none 0 0) [] [] := by
    rw [← hw0, ← hbx]
    refine ⟨((Fr.refl _ _).alloc _).alloc _, ?_, ?_, World.ownsRow_nil _ _ _ _, World.ownsRow_nil _ _ _ _, rfl⟩
    · rw [Below.heap_alloc _ _ _ (by simp)]
      exact heap_alloc_new w _
    · have := heap_alloc_new (w.alloc (.cells #[.int .i64 0, .int .i64 0, .int .i64 0, .int .i64 0, .slice none 0 0, .slice none 0 0] 143)) (.cells #[.int .i64 0, .int .i64 0, .int .i64 0, .int .i64 0, .slice none 0 0, .slice none 0 0] 143)
      simpa using this
  have HR0 : Hid (RX w w0 bx 0 0 0 0 (.slice none 0 0) (.slice none 0 0) [] []) := R0
  obtain ⟨y0, y1, y2, y3, y4, y5⟩ := R0.ycells
  have z0 := R0.yfroz 0
  have z1 := R0.yfroz 1
  have z2 := R0.yfroz 2
  have z3 := R0.yfroz 3
  have z4 := R0.yfroz 4
  have z5 := R0.yfroz 5
  obtain ⟨x0, x1, x2, x3, x4, x5⟩ := R0.xcells
  clear R0
  have hw0' := hw0
  clear hw0
  have HN : Hid (t.size = n) := hn
  have b8 : (8 : Int) ≤ (n : Int) := by omega
  have b12 : (12 : Int) ≤ (n : Int) := by omega
  have b16 : (16 : Int) ≤ (n : Int) := by omega
  have b17 : (17 : Int) ≤ (n : Int) := by omega
  have b18 : (18 : Int) ≤ (n : Int) := by omega
  have p1 : IntKind.i64.wrap (5 * (N : Int)) = 5 * (N : Int) := wrap_fit ⟨by omega, by omega⟩
  have p2 : IntKind.i64.wrap (22 + 5 * (N : Int)) = 22 + 5 * (N : Int) := wrap_fit ⟨by omega, by omega⟩
  clear hck hcc hce
  have d1 : ((n : Int) != 22 + 5 * (N : Int)) = false := by simp; omega
  have d2 : decide (nv < 1) = false := by simpa using kd2
  have d3 : decide (nv > 16) = false := by simpa using kd3
  have d4 : decide (tv < 1) = false := by simpa using kd4
  have d5 : decide (tv > 999999999) = false := by simpa using kd5
  have d6 : decide (fv > 999999999) = false := by simpa using kd6
  have d7 : (fv == tv) = false := by simpa using kd7
  have d8 : decide (mv > 1073741824) = true := by simpa using kd8
  clear kd1 kd2 kd3 kd4 kd5 kd6 kd7 kd8
  go_enter Tryz.func81, Tryz.ntmps81
  go_wp2
  go_region_held3 (fun _ => True)
    (first | trivial | go_keep)
    (first
      | (go_at_call 78; refine (HC.out _).mono ?_; rintro e w5 ⟨rfl, f5⟩
         have H5 : Hid (RX w w5 bx 0 0 0 0 (.slice none 0 0) (.slice none 0 0) [] []) := HR0.out.same (by first | exact f5 | exact (Fr.drew (Fr.refl _ _)).trans f5 (by simp) | exact (Fr.drewN (Fr.refl _ _) _).trans f5 (by simp))
         clear f5))
  all_goals
    have HP4 : Hid (RX w ((((w5.setCell ⟨bx + 1, 0, none⟩ (.int .i64 fv)).setCell ⟨bx + 1, 1, none⟩ (.int .i64 tv)).setCell ⟨bx + 1, 2, none⟩ (.int .i64 mv)).setCell ⟨bx + 1, 3, none⟩ (.int .i64 nv)) bx fv tv mv nv (.slice none 0 0) (.slice none 0 0) [] []) := (((H5.out.put 0 (.int .i64 fv) (f' := fv) (t' := 0) (m' := 0) (nb' := 0) rfl).put 1 (.int .i64 tv) (f' := fv) (t' := tv) (m' := 0) (nb' := 0) rfl).put 2 (.int .i64 mv) (f' := fv) (t' := tv) (m' := mv) (nb' := 0) rfl).put 3 (.int .i64 nv) (f' := fv) (t' := tv) (m' := mv) (nb' := nv) rfl
    obtain ⟨x0, x1, x2, x3, x4, x5⟩ := H5.out.xcells
    have xf0 := H5.out.xfroz 0
    have xf1 := H5.out.xfroz 1
    have xf2 := H5.out.xfroz 2
    have xf3 := H5.out.xfroz 3
    clear y0 y1 y2 y3 y4 y5 z0 z1 z2 z3 z4 z5
    obtain ⟨y0, y1, y2, y3, y4, y5⟩ := H5.out.ycells
    have z0 := H5.out.yfroz 0
    have z1 := H5.out.yfroz 1
    have z2 := H5.out.yfroz 2
    have z3 := H5.out.yfroz 3
    have z4 := H5.out.yfroz 4
    have z5 := H5.out.yfroz 5
    go_wp2_with (first
      | (go_at_call_of 110 (Value.string T1); refine (HNf.out _).mono ?_; rintro e w' ⟨rfl, hw'⟩; have hw' := hw'.symm; subst hw')
      | (go_at_call_of 110 (Value.string T2); refine (HNt.out _).mono ?_; rintro e w' ⟨rfl, hw'⟩; have hw' := hw'.symm; subst hw')
      | (go_at_call_of 110 (Value.string T3); refine (HNm.out _).mono ?_; rintro e w' ⟨rfl, hw'⟩; have hw' := hw'.symm; subst hw')
      | (go_at_call_of 110 (Value.string T4); refine (HNb.out _).mono ?_; rintro e w' ⟨rfl, hw'⟩; have hw' := hw'.symm; subst hw')
      | (go_at_call_of 110 (Value.string T5); refine (HNn.out _).mono ?_; rintro e w' ⟨rfl, hw'⟩; have hw' := hw'.symm; subst hw'))
    refine bodyPost_ret (v := .tuple #[.agg #[.int .i64 fv, .int .i64 tv, .int .i64 mv, .int .i64 nv, .slice none 0 0, .slice none 0 0], .bool false]) ?_ rfl ⟨⟨_, rfl, six⟩, ?_⟩
    · rw [results_cell_tmp rfl]
      go_simp
    · refine HP4.out.finF ?_ _ _ _ _ _ _
      first | exact Fr.refl _ _ | exact (Fr.refl _ _).drew | exact (Fr.refl _ _).drewN _

end Go.Proofs.YthdhegmlknpllaaGreat
