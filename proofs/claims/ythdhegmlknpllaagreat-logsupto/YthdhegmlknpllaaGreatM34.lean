import Derived.Test.YthdhegmlknpllaaGreatM29
import Derived.Test.YthdhegmlknpllaaGreatM05
import Derived.Test.YthdhegmlknpllaaGreatM09
namespace Go.Proofs.YthdhegmlknpllaaGreat
open Go.RowKit Go.Maps Go.MuLone
theorem beq_swap (a b : ByteArray) : (a.toList == b.toList) = (b.toList == a.toList) := by
 cases h : (a.toList == b.toList)
 · cases h2 : (b.toList == a.toList)
   · rfl
   · have e := eq_of_beq h2
     rw [e] at h
     simp at h
 · have e := eq_of_beq h
   rw [e]
   simp
set_option maxRecDepth 100000 in
set_option maxHeartbeats 1600000 in
theorem rread_check (t : ByteArray) (w : World) (hz : t.size ≤ 2000000) (ht : 22 ≤ t.size) (hs : ((t.extract 0 4).toList == [83, 78, 68, 49]) = true) (hc : ((chk (t.extract 0 (ckAt t)).data.toList).ba.toList == (t.extract (ckAt t) t.size).toList) = false) :
  Calls Tryz.prog 81 #[.string t] w fun e w' => (∃ x, e = .returned (.tuple #[.agg x, .bool false]) ∧ SixV x) ∧ Fr [] w w' := by
 obtain ⟨n, hn⟩ : ∃ n, t.size = n := ⟨_, rfl⟩
 obtain ⟨c, hcc⟩ : ∃ c, ckAt t = c := ⟨_, rfl⟩
 have hce : c = n - 4 := by rw [← hcc, ← hn]; rfl
 rw [hcc, hn] at hc
 have HC : Hid (∀ W, Calls Tryz.prog 78 #[.string (t.extract 0 c)] W fun e w' => e = .returned (.string (chk (t.extract 0 c).data.toList).ba) ∧ Fr [] W w') := fun W => rcheck_any _ W (by rw [ByteArray.size_extract]; omega)
 obtain ⟨ck, hck⟩ : ∃ ck, (chk (t.extract 0 c).data.toList).ba = ck := ⟨_, rfl⟩
 rw [hck] at HC hc
 rw [hn] at ht hz
 have h1 : decide ((n : Int) < 22) = false := by simp; omega
 have h2 : (4 : Int) ≤ (n : Int) := by omega
 have c0 : (0 : Int) ≤ (c : Int) := by omega
 have c1 : (c : Int) ≤ (n : Int) := by omega
 have hnc : IntKind.i64.wrap ((n : Int) - 4) = (c : Int) := by rw [show (n : Int) - 4 = (c : Int) by omega]; exact wrap_fit ⟨by omega, by omega⟩
 obtain ⟨bx, hbx⟩ : ∃ bx, w.heap.size = bx := ⟨_, rfl⟩
 obtain ⟨w0, hw0⟩ : ∃ w0, (w.alloc (.cells #[.int .i64 0, .int .i64 0, .int .i64 0, .int .i64 0, .slice none 0 0, .slice none 0 0] 143)).alloc (.cells #[.int .i64 0, .int .i64 0, .int .i64 0, .int .i64 0, .slice none 0 0, .slice none 0 0] 143) = w0 := ⟨_, rfl⟩
 have R0 : RX w w0 bx 0 0 0 0 (.slice none 0 0) (.slice none 0 0) [] [] := by
  rw [← hw0, ← hbx]
  refine ⟨((Fr.refl _ _).alloc _).alloc _, ?_, ?_, World.ownsRow_nil _ _ _ _, World.ownsRow_nil _ _ _ _, rfl⟩
  · rw [Below.heap_alloc _ _ _ (by simp)]
    exact heap_alloc_new w _
  · have := heap_alloc_new (w.alloc (.cells #[.int .i64 0, .int .i64 0, .int .i64 0, .int .i64 0, .slice none 0 0, .slice none 0 0] 143)) (.cells #[.int .i64 0, .int .i64 0, .int .i64 0, .int .i64 0, .slice none 0 0, .slice none 0 0] 143)
    simpa using this
 have HR0 : Hid (RX w w0 bx 0 0 0 0 (.slice none 0 0) (.slice none 0 0) [] []) := R0
 obtain ⟨y0, y1, y2, y3, y4, y5⟩ := R0.ycells
 have z0 := R0.yfroz 0
 have z1 := R0.yfroz 1
 have z2 := R0.yfroz 2
 have z3 := R0.yfroz 3
 have z4 := R0.yfroz 4
 have z5 := R0.yfroz 5
 obtain ⟨x0, x1, x2, x3, x4, x5⟩ := R0.xcells
 clear R0
 have hw0' := hw0
 clear hw0
 clear hck hcc hce
 go_enter Tryz.func81, Tryz.ntmps81
 go_wp2
 go_region_held3 (fun _ => True)
  (first | trivial | go_keep)
  (first
   | (go_at_call 78; refine (HC.out _).mono ?_; rintro e w5 ⟨rfl, f5⟩
      have H5 : Hid (RX w w5 bx 0 0 0 0 (.slice none 0 0) (.slice none 0 0) [] []) := HR0.out.same (by first | exact f5 | exact (Fr.drew (Fr.refl _ _)).trans f5 (by simp) | exact (Fr.drewN (Fr.refl _ _) _).trans f5 (by simp))
      clear f5))
 all_goals
  clear y0 y1 y2 y3 y4 y5 z0 z1 z2 z3 z4 z5 x0 x1 x2 x3 x4 x5
  obtain ⟨y0, y1, y2, y3, y4, y5⟩ := H5.out.ycells
  have z0 := H5.out.yfroz 0
  have z1 := H5.out.yfroz 1
  have z2 := H5.out.yfroz 2
  have z3 := H5.out.yfroz 3
  have z4 := H5.out.yfroz 4
  have z5 := H5.out.yfroz 5
  obtain ⟨x0, x1, x2, x3, x4, x5⟩ := H5.out.xcells
  go_wp2
  refine bodyPost_ret (v := .tuple #[.agg #[.int .i64 0, .int .i64 0, .int .i64 0, .int .i64 0, .slice none 0 0, .slice none 0 0], .bool false]) ?_ rfl ⟨⟨_, rfl, six⟩, ?_⟩
  · rw [results_cell_tmp rfl]
    go_simp
  · refine H5.out.finF ?_ _ _ _ _ _ _
    first | exact Fr.refl _ _ | exact (Fr.refl _ _).drew | exact (Fr.refl _ _).drewN _
theorem info9 : (Tryz.prog.info? 9).map (fun i => (i.zero, i.size, i.bytes)) = some (some (.string ⟨#[]⟩), 1, 16) := by kernel_rfl
section
variable {w W w9 : World} {bx : Nat} {f t m nb : Int} {vN vD v9 : Value} {N : List Int} {D : List ByteArray}
theorem RX.pushN (h : RX w W bx f t m nb vN vD N D) {z : Int} (ho : w9.ownsRow w.heap.size 3 1 v9 (N.length + 1) (N.map (Value.int .i64) ++ [.int .i64 z])) (hg : W.grownBy w9 vN.ownBlock) :
  RX w (w9.setCell ⟨bx + 1, 4, none⟩ v9) bx f t m nb v9 vD (N ++ [z]) D ∧ w9.cell? ⟨bx + 1, 4, none⟩ = some vN ∧ w9.frozen? ⟨bx + 1, 4, none⟩ = false := by
 obtain ⟨a1, a2, a3⟩ := h.far
 have hge := h.ge
 have l0 := (Array.getElem?_eq_some_iff.1 h.bz).1
 have l1 := (Array.getElem?_eq_some_iff.1 h.bo).1
 have bz9 : w9.heap[bx]? = _ := (hg.block bx l0 (fun e => (a1 bx e.symm).1 rfl)).trans h.bz
 have bo9 : w9.heap[bx + 1]? = _ := (hg.block (bx + 1) l1 (fun e => (a1 _ e.symm).2 rfl)).trans h.bo
 have f9 : Fr [] w w9 := h.fr.grown hg (fun k hk => Or.inr (h.nr.lt k hk).1)
 have hne9 : ∀ k, v9.ownBlock = some k → k ≠ bx + 1 := fun k hk e => by
  obtain ⟨_, cur, h2⟩ := own_tag ho hk
  rw [e, bo9] at h2
  simp at h2
 refine ⟨⟨f9.setCell _ (Or.inr (by show w.heap.size ≤ bx + 1; omega)), ?_, ?_, ?_, ?_, hge⟩, ?_, froz_of bo9 _⟩
 · rw [heap_setCell_other _ _ _ _ (by show bx ≠ bx + 1; omega)]
   exact bz9
 · rw [heap_setCell_same w9 (bx + 1) 4 _ _ _ bo9]
   rfl
 · refine own_of_block (w := w9) ?_ (fun k hk => heap_setCell_other _ _ _ _ (hne9 k hk))
   rw [List.length_append, List.map_append]
   exact ho
 · refine own_of_block h.dr (fun k hk => ?_)
   rw [heap_setCell_other _ _ _ _ (a2 k hk).2]
   exact hg.block k (h.dr.lt k hk).2 (fun e => a3 k e.symm hk)
 · rw [cell_of bo9]
   rfl
theorem RX.pushD (h : RX w W bx f t m nb vN vD N D) {z : ByteArray} (ho : w9.ownsRow w.heap.size 9 1 v9 (D.length + 1) (D.map Value.string ++ [.string z])) (hg : W.grownBy w9 vD.ownBlock) :
  RX w (w9.setCell ⟨bx + 1, 5, none⟩ v9) bx f t m nb vN v9 N (D ++ [z]) ∧ w9.cell? ⟨bx + 1, 5, none⟩ = some vD ∧ w9.frozen? ⟨bx + 1, 5, none⟩ = false := by
 obtain ⟨a1, a2, a3⟩ := h.far
 have hge := h.ge
 have l0 := (Array.getElem?_eq_some_iff.1 h.bz).1
 have l1 := (Array.getElem?_eq_some_iff.1 h.bo).1
 have bz9 : w9.heap[bx]? = _ := (hg.block bx l0 (fun e => (a2 bx e.symm).1 rfl)).trans h.bz
 have bo9 : w9.heap[bx + 1]? = _ := (hg.block (bx + 1) l1 (fun e => (a2 _ e.symm).2 rfl)).trans h.bo
 have f9 : Fr [] w w9 := h.fr.grown hg (fun k hk => Or.inr (h.dr.lt k hk).1)
 have hne9 : ∀ k, v9.ownBlock = some k → k ≠ bx + 1 := fun k hk e => by
  obtain ⟨_, cur, h2⟩ := own_tag ho hk
  rw [e, bo9] at h2
  simp at h2
 refine ⟨⟨f9.setCell _ (Or.inr (by show w.heap.size ≤ bx + 1; omega)), ?_, ?_, ?_, ?_, hge⟩, ?_, froz_of bo9 _⟩
 · rw [heap_setCell_other _ _ _ _ (by show bx ≠ bx + 1; omega)]
   exact bz9
 · rw [heap_setCell_same w9 (bx + 1) 5 _ _ _ bo9]
   rfl
 · refine own_of_block h.nr (fun k hk => ?_)
   rw [heap_setCell_other _ _ _ _ (a1 k hk).2]
   exact hg.block k (h.nr.lt k hk).2 (fun e => a3 k hk e.symm)
 · refine own_of_block (w := w9) ?_ (fun k hk => heap_setCell_other _ _ _ _ (hne9 k hk))
   rw [List.length_append, List.map_append]
   exact ho
 · rw [cell_of bo9]
   rfl
end
set_option maxRecDepth 100000 in
set_option maxHeartbeats 3200000 in
theorem rread_off (t : ByteArray) (w : World) (hz : t.size ≤ 2000000) (ht : 22 ≤ t.size) (hs : ((t.extract 0 4).toList == [83, 78, 68, 49]) = true) (hc : ((chk (t.extract 0 (ckAt t)).data.toList).ba.toList == (t.extract (ckAt t) t.size).toList) = true)
  (fv tv mv nv : Int) (N : Nat) (e1 : fv = (valN (t.extract 4 8).data.toList : Int)) (e2 : tv = (valN (t.extract 8 12).data.toList : Int)) (e3 : mv = (valN (t.extract 12 16).data.toList : Int)) (e4 : nv = (valN (t.extract 16 17).data.toList : Int)) (e5 : N = valN (t.extract 17 18).data.toList) (hN : N < 256)
  (kd : ¬ (t.size = 22 + 5 * N ∧ ¬ nv < 1 ∧ ¬ 16 < nv ∧ ¬ tv < 1 ∧ ¬ 999999999 < tv ∧ ¬ 999999999 < fv ∧ ¬ fv = tv ∧ ¬ 1073741824 < mv)) :
  Calls Tryz.prog 81 #[.string t] w fun e w' => (∃ x, e = .returned (.tuple #[.agg x, .bool false]) ∧ SixV x) ∧ Fr [] w w' := by
 have HNf : Hid (∀ W, Calls Tryz.prog 110 #[.string (t.extract 4 8)] W fun e w' => e = .returned (.int .i64 fv) ∧ w' = W) := fun W => by rw [e1]; exact rnumberOf_any _ W (by rw [ByteArray.size_extract]; omega)
 have HNt : Hid (∀ W, Calls Tryz.prog 110 #[.string (t.extract 8 12)] W fun e w' => e = .returned (.int .i64 tv) ∧ w' = W) := fun W => by rw [e2]; exact rnumberOf_any _ W (by rw [ByteArray.size_extract]; omega)
 have HNm : Hid (∀ W, Calls Tryz.prog 110 #[.string (t.extract 12 16)] W fun e w' => e = .returned (.int .i64 mv) ∧ w' = W) := fun W => by rw [e3]; exact rnumberOf_any _ W (by rw [ByteArray.size_extract]; omega)
 have HNb : Hid (∀ W, Calls Tryz.prog 110 #[.string (t.extract 16 17)] W fun e w' => e = .returned (.int .i64 nv) ∧ w' = W) := fun W => by rw [e4]; exact rnumberOf_any _ W (by rw [ByteArray.size_extract]; omega)
 have HNn : Hid (∀ W, Calls Tryz.prog 110 #[.string (t.extract 17 18)] W fun e w' => e = .returned (.int .i64 (N : Int)) ∧ w' = W) := fun W => by rw [e5]; exact rnumberOf_any _ W (by rw [ByteArray.size_extract]; omega)
 obtain ⟨T1, hT1⟩ : ∃ T, t.extract 4 8 = T := ⟨_, rfl⟩
 rw [hT1] at HNf
 obtain ⟨T2, hT2⟩ : ∃ T, t.extract 8 12 = T := ⟨_, rfl⟩
 rw [hT2] at HNt
 obtain ⟨T3, hT3⟩ : ∃ T, t.extract 12 16 = T := ⟨_, rfl⟩
 rw [hT3] at HNm
 obtain ⟨T4, hT4⟩ : ∃ T, t.extract 16 17 = T := ⟨_, rfl⟩
 rw [hT4] at HNb
 obtain ⟨T5, hT5⟩ : ∃ T, t.extract 17 18 = T := ⟨_, rfl⟩
 rw [hT5] at HNn
 have HN0 : Hid (0 ≤ fv ∧ 0 ≤ nv ∧ 0 ≤ tv ∧ 0 ≤ mv) := by rw [e1, e2, e3, e4]; exact ⟨by omega, by omega, by omega, by omega⟩
 clear e1 e2 e3 e4 e5
 obtain ⟨n, hn⟩ : ∃ n, t.size = n := ⟨_, rfl⟩
 obtain ⟨c, hcc⟩ : ∃ c, ckAt t = c := ⟨_, rfl⟩
 have hce : c = n - 4 := by rw [← hcc, ← hn]; rfl
 rw [hcc, hn] at hc
 have HC : Hid (∀ W, Calls Tryz.prog 78 #[.string (t.extract 0 c)] W fun e w' => e = .returned (.string (chk (t.extract 0 c).data.toList).ba) ∧ Fr [] W w') := fun W => rcheck_any _ W (by rw [ByteArray.size_extract]; omega)
 obtain ⟨ck, hck⟩ : ∃ ck, (chk (t.extract 0 c).data.toList).ba = ck := ⟨_, rfl⟩
 rw [hck] at HC hc
 rw [hn] at ht hz kd
 have h1 : decide ((n : Int) < 22) = false := by simp; omega
 have h2 : (4 : Int) ≤ (n : Int) := by omega
 have c0 : (0 : Int) ≤ (c : Int) := by omega
 have c1 : (c : Int) ≤ (n : Int) := by omega
 have hnc : IntKind.i64.wrap ((n : Int) - 4) = (c : Int) := by rw [show (n : Int) - 4 = (c : Int) by omega]; exact wrap_fit ⟨by omega, by omega⟩
 obtain ⟨bx, hbx⟩ : ∃ bx, w.heap.size = bx := ⟨_, rfl⟩
 obtain ⟨w0, hw0⟩ : ∃ w0, (w.alloc (.cells #[.int .i64 0, .int .i64 0, .int .i64 0, .int .i64 0, .slice none 0 0, .slice none 0 0] 143)).alloc (.cells #[.int .i64 0, .int .i64 0, .int .i64 0, .int .i64 0, .slice none 0 0, .slice none 0 0] 143) = w0 := ⟨_, rfl⟩
 have R0 : RX w w0 bx 0 0 0 0 (.slice none 0 0) (.slice none 0 0) [] [] := by
  rw [← hw0, ← hbx]
  refine ⟨((Fr.refl _ _).alloc _).alloc _, ?_, ?_, World.ownsRow_nil _ _ _ _, World.ownsRow_nil _ _ _ _, rfl⟩
  · rw [Below.heap_alloc _ _ _ (by simp)]
    exact heap_alloc_new w _
  · have := heap_alloc_new (w.alloc (.cells #[.int .i64 0, .int .i64 0, .int .i64 0, .int .i64 0, .slice none 0 0, .slice none 0 0] 143)) (.cells #[.int .i64 0, .int .i64 0, .int .i64 0, .int .i64 0, .slice none 0 0, .slice none 0 0] 143)
    simpa using this
 have HR0 : Hid (RX w w0 bx 0 0 0 0 (.slice none 0 0) (.slice none 0 0) [] []) := R0
 obtain ⟨y0, y1, y2, y3, y4, y5⟩ := R0.ycells
 have z0 := R0.yfroz 0
 have z1 := R0.yfroz 1
 have z2 := R0.yfroz 2
 have z3 := R0.yfroz 3
 have z4 := R0.yfroz 4
 have z5 := R0.yfroz 5
 obtain ⟨x0, x1, x2, x3, x4, x5⟩ := R0.xcells
 clear R0
 have hw0' := hw0
 clear hw0
 have HN : Hid (t.size = n) := hn
 have b8 : (8 : Int) ≤ (n : Int) := by omega
 have b12 : (12 : Int) ≤ (n : Int) := by omega
 have b16 : (16 : Int) ≤ (n : Int) := by omega
 have b17 : (17 : Int) ≤ (n : Int) := by omega
 have b18 : (18 : Int) ≤ (n : Int) := by omega
 have p1 : IntKind.i64.wrap (5 * (N : Int)) = 5 * (N : Int) := wrap_fit ⟨by omega, by omega⟩
 have p2 : IntKind.i64.wrap (22 + 5 * (N : Int)) = 22 + 5 * (N : Int) := wrap_fit ⟨by omega, by omega⟩
 clear hck hcc hce
 have kd' : ¬ n = 22 + 5 * N ∨ n = 22 + 5 * N ∧ (nv < 1 ∨ ¬ nv < 1 ∧ (16 < nv ∨ ¬ 16 < nv ∧ (tv < 1 ∨ ¬ tv < 1 ∧ (999999999 < tv ∨ ¬ 999999999 < tv ∧ (999999999 < fv ∨ ¬ 999999999 < fv ∧ (fv = tv ∨ ¬ fv = tv ∧ 1073741824 < mv)))))) := by omega
 clear kd
 rcases kd' with k1 | ⟨k1, k2 | ⟨k2, k3 | ⟨k3, k4 | ⟨k4, k5 | ⟨k5, k6 | ⟨k6, k7 | ⟨k7, k8⟩⟩⟩⟩⟩⟩⟩
 all_goals
  try have d1 : ((n : Int) != 22 + 5 * (N : Int)) = true := by simp; omega
  try have d1f : ((n : Int) != 22 + 5 * (N : Int)) = false := by simp; omega
  try have d2 : decide (nv < 1) = true := by simp; omega
  try have d2f : decide (nv < 1) = false := by simp; omega
  try have d3 : decide (nv > 16) = true := by simp; omega
  try have d3f : decide (nv > 16) = false := by simp; omega
  try have d4 : decide (tv < 1) = true := by simp; omega
  try have d4f : decide (tv < 1) = false := by simp; omega
  try have d5 : decide (tv > 999999999) = true := by simp; omega
  try have d5f : decide (tv > 999999999) = false := by simp; omega
  try have d6 : decide (fv > 999999999) = true := by simp; omega
  try have d6f : decide (fv > 999999999) = false := by simp; omega
  try have d7 : (fv == tv) = true := by simp; omega
  try have d7f : (fv == tv) = false := by simp; omega
  try have d8 : decide (mv > 1073741824) = true := by simp; omega
  try have d8f : decide (mv > 1073741824) = false := by simp; omega
  try clear k1
  try clear k2
  try clear k3
  try clear k4
  try clear k5
  try clear k6
  try clear k7
  try clear k8
  go_enter Tryz.func81, Tryz.ntmps81
  go_wp2
  go_region_held3 (fun _ => True)
   (first | trivial | go_keep)
   (first
    | (go_at_call 78; refine (HC.out _).mono ?_; rintro e w5 ⟨rfl, f5⟩
       have H5 : Hid (RX w w5 bx 0 0 0 0 (.slice none 0 0) (.slice none 0 0) [] []) := HR0.out.same (by first | exact f5 | exact (Fr.drew (Fr.refl _ _)).trans f5 (by simp) | exact (Fr.drewN (Fr.refl _ _) _).trans f5 (by simp))
       clear f5))
  all_goals
   have HP4 : Hid (RX w ((((w5.setCell ⟨bx + 1, 0, none⟩ (.int .i64 fv)).setCell ⟨bx + 1, 1, none⟩ (.int .i64 tv)).setCell ⟨bx + 1, 2, none⟩ (.int .i64 mv)).setCell ⟨bx + 1, 3, none⟩ (.int .i64 nv)) bx fv tv mv nv (.slice none 0 0) (.slice none 0 0) [] []) := (((H5.out.put 0 (.int .i64 fv) (f' := fv) (t' := 0) (m' := 0) (nb' := 0) rfl).put 1 (.int .i64 tv) (f' := fv) (t' := tv) (m' := 0) (nb' := 0) rfl).put 2 (.int .i64 mv) (f' := fv) (t' := tv) (m' := mv) (nb' := 0) rfl).put 3 (.int .i64 nv) (f' := fv) (t' := tv) (m' := mv) (nb' := nv) rfl
   obtain ⟨x0, x1, x2, x3, x4, x5⟩ := H5.out.xcells
   have xf0 := H5.out.xfroz 0
   have xf1 := H5.out.xfroz 1
   have xf2 := H5.out.xfroz 2
   have xf3 := H5.out.xfroz 3
   clear y0 y1 y2 y3 y4 y5 z0 z1 z2 z3 z4 z5
   obtain ⟨y0, y1, y2, y3, y4, y5⟩ := H5.out.ycells
   have z0 := H5.out.yfroz 0
   have z1 := H5.out.yfroz 1
   have z2 := H5.out.yfroz 2
   have z3 := H5.out.yfroz 3
   have z4 := H5.out.yfroz 4
   have z5 := H5.out.yfroz 5
   go_wp2_with (first
    | (go_at_call_of 110 (Value.string T1); refine (HNf.out _).mono ?_; rintro e w' ⟨rfl, hw'⟩; have hw' := hw'.symm; subst hw')
    | (go_at_call_of 110 (Value.string T2); refine (HNt.out _).mono ?_; rintro e w' ⟨rfl, hw'⟩; have hw' := hw'.symm; subst hw')
    | (go_at_call_of 110 (Value.string T3); refine (HNm.out _).mono ?_; rintro e w' ⟨rfl, hw'⟩; have hw' := hw'.symm; subst hw')
    | (go_at_call_of 110 (Value.string T4); refine (HNb.out _).mono ?_; rintro e w' ⟨rfl, hw'⟩; have hw' := hw'.symm; subst hw')
    | (go_at_call_of 110 (Value.string T5); refine (HNn.out _).mono ?_; rintro e w' ⟨rfl, hw'⟩; have hw' := hw'.symm; subst hw'))
   refine bodyPost_ret (v := .tuple #[.agg #[.int .i64 fv, .int .i64 tv, .int .i64 mv, .int .i64 nv, .slice none 0 0, .slice none 0 0], .bool false]) ?_ rfl ⟨⟨_, rfl, six⟩, ?_⟩
   · rw [results_cell_tmp rfl]
     go_simp
   · refine HP4.out.finF ?_ _ _ _ _ _ _
     first | exact Fr.refl _ _ | exact (Fr.refl _ _).drew | exact (Fr.refl _ _).drewN _
end Go.Proofs.YthdhegmlknpllaaGreat
