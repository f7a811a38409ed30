import Derived.Test.YthdhegmlknpllaaGreatM34
namespace Go.Proofs.YthdhegmlknpllaaGreat
open Go.RowKit Go.Maps Go.MuLone
theorem RX.rows {w W W' : World} {bx : Nat} {f t m nb : Int} {vN vD : Value} {N : Nat} {L : List (Int × B4)} (h : RX w W bx f t m nb vN vD (L.map Prod.fst) (L.map fun x => x.2.ba)) (hf : Fr [] W W') (hl : L.length = N) (a b c d e g : Value) :
  ((((((W'.setCell ⟨bx, 0, none⟩ a).setCell ⟨bx, 1, none⟩ b).setCell ⟨bx, 2, none⟩ c).setCell ⟨bx, 3, none⟩ d).setCell ⟨bx, 4, none⟩ e).setCell ⟨bx, 5, none⟩ g).ownsRow w.heap.size 3 1 vN N (L.map fun x => Value.int .i64 x.1) ∧ ((((((W'.setCell ⟨bx, 0, none⟩ a).setCell ⟨bx, 1, none⟩ b).setCell ⟨bx, 2, none⟩ c).setCell ⟨bx, 3, none⟩ d).setCell ⟨bx, 4, none⟩ e).setCell ⟨bx, 5, none⟩ g).ownsRow w.heap.size 9 1 vD N (L.map fun x => Value.string x.2.ba) := by
 have h2 := h.same hf
 obtain ⟨a1, a2, _⟩ := h2.far
 have n1 := h2.nr
 have d1 := h2.dr
 rw [List.length_map, hl, List.map_map] at n1 d1
 refine ⟨own_of_block n1 (fun k hk => ?_), own_of_block d1 (fun k hk => ?_)⟩
 · have hne := (a1 k hk).1
   rw [heap_setCell_other _ _ _ _ hne, heap_setCell_other _ _ _ _ hne, heap_setCell_other _ _ _ _ hne, heap_setCell_other _ _ _ _ hne, heap_setCell_other _ _ _ _ hne, heap_setCell_other _ _ _ _ hne]
 · have hne := (a2 k hk).1
   rw [heap_setCell_other _ _ _ _ hne, heap_setCell_other _ _ _ _ hne, heap_setCell_other _ _ _ _ hne, heap_setCell_other _ _ _ _ hne, heap_setCell_other _ _ _ _ hne, heap_setCell_other _ _ _ _ hne]
set_option maxRecDepth 100000 in
set_option maxHeartbeats 6400000 in
theorem rread_main (t : ByteArray) (w : World) (hz : t.size ≤ 2000000) (ht : 22 ≤ t.size) (hs : ((t.extract 0 4).toList == [83, 78, 68, 49]) = true) (hc : ((chk (t.extract 0 (ckAt t)).data.toList).ba.toList == (t.extract (ckAt t) t.size).toList) = true)
  (fv tv mv nv : Int) (N : Nat) (e1 : fv = (valN (t.extract 4 8).data.toList : Int)) (e2 : tv = (valN (t.extract 8 12).data.toList : Int)) (e3 : mv = (valN (t.extract 12 16).data.toList : Int)) (e4 : nv = (valN (t.extract 16 17).data.toList : Int)) (e5 : N = valN (t.extract 17 18).data.toList) (hN : N < 256)
  (hsz : t.size = 22 + 5 * N) (hnv : 1 ≤ nv ∧ nv ≤ 16) (htv : 1 ≤ tv ∧ tv ≤ 999999999) (hfv : 0 ≤ fv ∧ fv ≤ 999999999) (hft : fv ≠ tv) (hmv : mv ≤ 1073741824) (ok : Bool) (hok : ok = true ↔ Rises nv (rbl t N) ∧ (fv ≠ 0 ∨ (N : Int) = nv)) :
  Calls Tryz.prog 81 #[.string t] w fun e w' => (ok = false → ∃ x, e = .returned (.tuple #[.agg x, .bool false]) ∧ SixV x) ∧ (ok = true → ∃ vN vD, e = .returned (.tuple #[.agg #[.int .i64 fv, .int .i64 tv, .int .i64 mv, .int .i64 nv, vN, vD], .bool true]) ∧ w'.ownsRow w.heap.size 3 1 vN N ((rbl t N).map fun x => Value.int .i64 x.1) ∧ w'.ownsRow w.heap.size 9 1 vD N ((rbl t N).map fun x => Value.string x.2.ba)) ∧ Fr [] w w' := by
 have HNf : Hid (∀ W, Calls Tryz.prog 110 #[.string (t.extract 4 8)] W fun e w' => e = .returned (.int .i64 fv) ∧ w' = W) := fun W => by rw [e1]; exact rnumberOf_any _ W (by rw [ByteArray.size_extract]; omega)
 have HNt : Hid (∀ W, Calls Tryz.prog 110 #[.string (t.extract 8 12)] W fun e w' => e = .returned (.int .i64 tv) ∧ w' = W) := fun W => by rw [e2]; exact rnumberOf_any _ W (by rw [ByteArray.size_extract]; omega)
 have HNm : Hid (∀ W, Calls Tryz.prog 110 #[.string (t.extract 12 16)] W fun e w' => e = .returned (.int .i64 mv) ∧ w' = W) := fun W => by rw [e3]; exact rnumberOf_any _ W (by rw [ByteArray.size_extract]; omega)
 have HNb : Hid (∀ W, Calls Tryz.prog 110 #[.string (t.extract 16 17)] W fun e w' => e = .returned (.int .i64 nv) ∧ w' = W) := fun W => by rw [e4]; exact rnumberOf_any _ W (by rw [ByteArray.size_extract]; omega)
 have HNn : Hid (∀ W, Calls Tryz.prog 110 #[.string (t.extract 17 18)] W fun e w' => e = .returned (.int .i64 (N : Int)) ∧ w' = W) := fun W => by rw [e5]; exact rnumberOf_any _ W (by rw [ByteArray.size_extract]; omega)
 obtain ⟨T1, hT1⟩ : ∃ T, t.extract 4 8 = T := ⟨_, rfl⟩
 rw [hT1] at HNf
 obtain ⟨T2, hT2⟩ : ∃ T, t.extract 8 12 = T := ⟨_, rfl⟩
 rw [hT2] at HNt
 obtain ⟨T3, hT3⟩ : ∃ T, t.extract 12 16 = T := ⟨_, rfl⟩
 rw [hT3] at HNm
 obtain ⟨T4, hT4⟩ : ∃ T, t.extract 16 17 = T := ⟨_, rfl⟩
 rw [hT4] at HNb
 obtain ⟨T5, hT5⟩ : ∃ T, t.extract 17 18 = T := ⟨_, rfl⟩
 rw [hT5] at HNn
 have HN0 : Hid (0 ≤ fv ∧ 0 ≤ nv ∧ 0 ≤ tv ∧ 0 ≤ mv) := by rw [e1, e2, e3, e4]; exact ⟨by omega, by omega, by omega, by omega⟩
 clear e1 e2 e3 e4 e5
 obtain ⟨n, hn⟩ : ∃ n, t.size = n := ⟨_, rfl⟩
 obtain ⟨c, hcc⟩ : ∃ c, ckAt t = c := ⟨_, rfl⟩
 have hce : c = n - 4 := by rw [← hcc, ← hn]; rfl
 rw [hcc, hn] at hc
 have HC : Hid (∀ W, Calls Tryz.prog 78 #[.string (t.extract 0 c)] W fun e w' => e = .returned (.string (chk (t.extract 0 c).data.toList).ba) ∧ Fr [] W w') := fun W => rcheck_any _ W (by rw [ByteArray.size_extract]; omega)
 obtain ⟨ck, hck⟩ : ∃ ck, (chk (t.extract 0 c).data.toList).ba = ck := ⟨_, rfl⟩
 rw [hck] at HC hc
 rw [hn] at ht hz hsz
 have h1 : decide ((n : Int) < 22) = false := by simp; omega
 have h2 : (4 : Int) ≤ (n : Int) := by omega
 have c0 : (0 : Int) ≤ (c : Int) := by omega
 have c1 : (c : Int) ≤ (n : Int) := by omega
 have hnc : IntKind.i64.wrap ((n : Int) - 4) = (c : Int) := by rw [show (n : Int) - 4 = (c : Int) by omega]; exact wrap_fit ⟨by omega, by omega⟩
 obtain ⟨bx, hbx⟩ : ∃ bx, w.heap.size = bx := ⟨_, rfl⟩
 obtain ⟨w0, hw0⟩ : ∃ w0, (w.alloc (.cells #[.int .i64 0, .int .i64 0, .int .i64 0, .int .i64 0, .slice none 0 0, .slice none 0 0] 143)).alloc (.cells #[.int .i64 0, .int .i64 0, .int .i64 0, .int .i64 0, .slice none 0 0, .slice none 0 0] 143) = w0 := ⟨_, rfl⟩
 have R0 : RX w w0 bx 0 0 0 0 (.slice none 0 0) (.slice none 0 0) [] [] := by
  rw [← hw0, ← hbx]
  refine ⟨((Fr.refl _ _).alloc _).alloc _, ?_, ?_, World.ownsRow_nil _ _ _ _, World.ownsRow_nil _ _ _ _, rfl⟩
  · rw [Below.heap_alloc _ _ _ (by simp)]
    exact heap_alloc_new w _
  · have := heap_alloc_new (w.alloc (.cells #[.int .i64 0, .int .i64 0, .int .i64 0, .int .i64 0, .slice none 0 0, .slice none 0 0] 143)) (.cells #[.int .i64 0, .int .i64 0, .int .i64 0, .int .i64 0, .slice none 0 0, .slice none 0 0] 143)
    simpa using this
 have HR0 : Hid (RX w w0 bx 0 0 0 0 (.slice none 0 0) (.slice none 0 0) [] []) := R0
 obtain ⟨y0, y1, y2, y3, y4, y5⟩ := R0.ycells
 have z0 := R0.yfroz 0
 have z1 := R0.yfroz 1
 have z2 := R0.yfroz 2
 have z3 := R0.yfroz 3
 have z4 := R0.yfroz 4
 have z5 := R0.yfroz 5
 obtain ⟨x0, x1, x2, x3, x4, x5⟩ := R0.xcells
 clear R0
 have hw0' := hw0
 clear hw0
 have HN : Hid (t.size = n) := hn
 have b8 : (8 : Int) ≤ (n : Int) := by omega
 have b12 : (12 : Int) ≤ (n : Int) := by omega
 have b16 : (16 : Int) ≤ (n : Int) := by omega
 have b17 : (17 : Int) ≤ (n : Int) := by omega
 have b18 : (18 : Int) ≤ (n : Int) := by omega
 have p1 : IntKind.i64.wrap (5 * (N : Int)) = 5 * (N : Int) := wrap_fit ⟨by omega, by omega⟩
 have p2 : IntKind.i64.wrap (22 + 5 * (N : Int)) = 22 + 5 * (N : Int) := wrap_fit ⟨by omega, by omega⟩
 clear hck hcc hce
 have d1 : ((n : Int) != 22 + 5 * (N : Int)) = false := by simp; omega
 have d2 : decide (nv < 1) = false := by simp; omega
 have d3 : decide (nv > 16) = false := by simp; omega
 have d4 : decide (tv < 1) = false := by simp; omega
 have d5 : decide (tv > 999999999) = false := by simp; omega
 have d6 : decide (fv > 999999999) = false := by simp; omega
 have d7 : (fv == tv) = false := by simpa using hft
 have d8 : decide (mv > 1073741824) = false := by simp; omega
 have HOK : Hid (ok = true ↔ Rises nv (rbl t N) ∧ (fv ≠ 0 ∨ (N : Int) = nv)) := hok
 have HNV : Hid ((1 ≤ nv ∧ nv ≤ 16) ∧ n = 22 + 5 * N ∧ t.size = n) := ⟨hnv, hsz, hn⟩
 obtain ⟨L, hL⟩ : ∃ L, rbl t N = L := ⟨_, rfl⟩
 have hLl : L.length = N := by rw [← hL]; simp [rbl]
 have HL : Hid (rbl t N = L ∧ L.length = N) := ⟨hL, hLl⟩
 rw [hL] at HOK
 rw [hL]
 clear hok hL hLl hsz hft hmv htv
 obtain ⟨i0, hi, hz0, hz1, hz2⟩ := info_parts info3
 obtain ⟨j0, hj, jz0, jz1, jz2⟩ := info_parts info9
 go_enter Tryz.func81, Tryz.ntmps81
 go_wp2
 go_region_held3 (fun _ => True)
  (first | trivial | go_keep)
  (first
   | (go_at_call 78; refine (HC.out _).mono ?_; rintro e w5 ⟨rfl, f5⟩
      have H5 : Hid (RX w w5 bx 0 0 0 0 (.slice none 0 0) (.slice none 0 0) [] []) := HR0.out.same (by first | exact f5 | exact (Fr.drew (Fr.refl _ _)).trans f5 (by simp) | exact (Fr.drewN (Fr.refl _ _) _).trans f5 (by simp))
      clear f5))
 all_goals
  have HP4 : Hid (RX w ((((w5.setCell ⟨bx + 1, 0, none⟩ (.int .i64 fv)).setCell ⟨bx + 1, 1, none⟩ (.int .i64 tv)).setCell ⟨bx + 1, 2, none⟩ (.int .i64 mv)).setCell ⟨bx + 1, 3, none⟩ (.int .i64 nv)) bx fv tv mv nv (.slice none 0 0) (.slice none 0 0) [] []) := (((H5.out.put 0 (.int .i64 fv) (f' := fv) (t' := 0) (m' := 0) (nb' := 0) rfl).put 1 (.int .i64 tv) (f' := fv) (t' := tv) (m' := 0) (nb' := 0) rfl).put 2 (.int .i64 mv) (f' := fv) (t' := tv) (m' := mv) (nb' := 0) rfl).put 3 (.int .i64 nv) (f' := fv) (t' := tv) (m' := mv) (nb' := nv) rfl
  obtain ⟨x0, x1, x2, x3, x4, x5⟩ := H5.out.xcells
  have xf0 := H5.out.xfroz 0
  have xf1 := H5.out.xfroz 1
  have xf2 := H5.out.xfroz 2
  have xf3 := H5.out.xfroz 3
  clear y0 y1 y2 y3 y4 y5 z0 z1 z2 z3 z4 z5
  obtain ⟨y0, y1, y2, y3, y4, y5⟩ := H5.out.ycells
  have z0 := H5.out.yfroz 0
  have z1 := H5.out.yfroz 1
  have z2 := H5.out.yfroz 2
  have z3 := H5.out.yfroz 3
  have z4 := H5.out.yfroz 4
  have z5 := H5.out.yfroz 5
  go_wp2_with (first
   | (go_at_call_of 110 (Value.string T1); refine (HNf.out _).mono ?_; rintro e w' ⟨rfl, hw'⟩; have hw' := hw'.symm; subst hw')
   | (go_at_call_of 110 (Value.string T2); refine (HNt.out _).mono ?_; rintro e w' ⟨rfl, hw'⟩; have hw' := hw'.symm; subst hw')
   | (go_at_call_of 110 (Value.string T3); refine (HNm.out _).mono ?_; rintro e w' ⟨rfl, hw'⟩; have hw' := hw'.symm; subst hw')
   | (go_at_call_of 110 (Value.string T4); refine (HNb.out _).mono ?_; rintro e w' ⟨rfl, hw'⟩; have hw' := hw'.symm; subst hw')
   | (go_at_call_of 110 (Value.string T5); refine (HNn.out _).mono ?_; rintro e w' ⟨rfl, hw'⟩; have hw' := hw'.symm; subst hw'))
  obtain ⟨W9, hW9⟩ : ∃ W9, (((w5.setCell ⟨bx + 1, 0, none⟩ (.int .i64 fv)).setCell ⟨bx + 1, 1, none⟩ (.int .i64 tv)).setCell ⟨bx + 1, 2, none⟩ (.int .i64 mv)).setCell ⟨bx + 1, 3, none⟩ (.int .i64 nv) = W9 := ⟨_, rfl⟩
  rw [hW9] at HP4
  rw [hW9]
  have H9 : Hid (RX w W9 bx fv tv mv nv (.slice none 0 0) (.slice none 0 0) [] []) := HP4
  clear HP4 hW9 xf0 xf1 xf2 xf3 x0 x1 x2 x3 x4 x5 y0 y1 y2 y3 y4 y5 z0 z1 z2 z3 z4 z5 H5 HNf HNt HNm HNb HNn hT1 hT2 hT3 hT4 hT5 d1 d2 d3 d4 d5 d6 d7 d8 hc hs h1 h2 c0 c1 hnc b8 b12 b16 b17 b18 p1 p2
  go_loopw [6, 7] (fun la i wr => ∃ (k : Nat) (vN vD : Value), k ≤ N ∧ i = .int .i64 k ∧ la = .int .i64 (least L k - 1) ∧ Hid (RX w wr bx fv tv mv nv vN vD ((L.take k).map Prod.fst) ((L.take k).map fun x => x.2.ba) ∧ ∀ j (h : j < L.length), j < k → least L j ≤ L[j].1 ∧ L[j].1 < nv)) (fun _ i _ => N - (intOf i).toNat)
  case atStart => exact ⟨0, _, _, Nat.zero_le _, rfl, rfl, H9.out, fun j _ h => absurd h (Nat.not_lt_zero _)⟩
  case round =>
   obtain ⟨k, vN, vD, hk, rfl, rfl, HK⟩ := hrel
   obtain ⟨W3, hW3⟩ : ∃ W3, W3 = wr := ⟨_, rfl⟩
   subst hW3
   have H3 : Hid (RX w W3 bx fv tv mv nv vN vD ((L.take k).map Prod.fst) ((L.take k).map fun x => x.2.ba)) := HK.out.1
   have HPF : Hid (∀ j (h : j < L.length), j < k → least L j ≤ L[j].1 ∧ L[j].1 < nv) := HK.out.2
   clear HK H9
   obtain ⟨y0, y1, y2, y3, y4, y5⟩ := H3.out.ycells
   have z0 := H3.out.yfroz 0
   have z1 := H3.out.yfroz 1
   have z2 := H3.out.yfroz 2
   have z3 := H3.out.yfroz 3
   have z4 := H3.out.yfroz 4
   have z5 := H3.out.yfroz 5
   obtain ⟨x0, x1, x2, x3, x4, x5⟩ := H3.out.xcells
   by_cases hlt : k < N
   · have hltz : (k : Int) < (N : Int) := by omega
     have hll : k < L.length := by rw [HL.out.2]; exact hlt
     obtain ⟨x, hx⟩ : ∃ x, L[k] = x := ⟨_, rfl⟩
     obtain ⟨r, hr⟩ : ∃ r, t.extract (18 + 5 * k) (23 + 5 * k) = r := ⟨_, rfl⟩
     have hrs : r.size = 5 := by rw [← hr, ByteArray.size_extract]; have := HNV.out.2; omega
     have hxr : x = ((rbN t k : Int), b4 (rbD t k)) := by
      rw [← hx]
      simp only [← HL.out.1, rbl, List.getElem_map, List.getElem_range]
     have hx1 : x.1 = (valN (r.extract 0 1).data.toList : Int) := by rw [hxr, ← hr]; rfl
     have hx2 : x.2.ba = r.extract 1 5 := by
      rw [hxr]
      show (b4 (rbD t k)).ba = _
      rw [b4_ba (rbD_size t k (by have := HNV.out.2; omega))]
      unfold rbD
      rw [hr, hrs]
     obtain ⟨xn, hxn⟩ : ∃ xn, x.1 = xn := ⟨_, rfl⟩
     obtain ⟨xd, hxd⟩ : ∃ xd, x.2.ba = xd := ⟨_, rfl⟩
     obtain ⟨r1, hr1⟩ : ∃ r1, r.extract 0 1 = r1 := ⟨_, rfl⟩
     have HNk : Hid (∀ W, Calls Tryz.prog 110 #[.string r1] W fun e w' => e = .returned (.int .i64 xn) ∧ w' = W) := fun W => by
      rw [← hxn, hx1, hr1]
      exact rnumberOf_any _ W (by rw [← hr1, ByteArray.size_extract]; omega)
     have hr5 : r.extract 1 5 = xd := by rw [← hx2, hxd]
     have hxb : 0 ≤ xn ∧ xn < 256 := by
      rw [← hxn, hx1]
      have h9 := valN_lt (r.extract 0 1).data.toList (r.extract 0 1).data.toList.length (Nat.le_refl _)
      rw [List.take_length] at h9
      have h8 : (r.extract 0 1).data.toList.length = 1 := by rw [Array.length_toList]; show (r.extract 0 1).size = 1; rw [ByteArray.size_extract]; omega
      rw [h8] at h9
      omega
     have hsx : least L (k + 1) = xn + 1 := by rw [least_succ L k hll, hx, hxn]
     obtain ⟨z, hzz⟩ : ∃ z, least L k = z := ⟨_, rfl⟩
     have HXX : Hid (L[k] = x ∧ x.1 = xn ∧ x.2.ba = xd ∧ least L k = z ∧ least L (k + 1) = xn + 1) := ⟨hx, hxn, hxd, hzz, hsx⟩
     have hlz : -1000 ≤ z ∧ z ≤ 1000 := by
      rw [← hzz]
      cases k with
      | zero => exact ⟨by show (-1000 : Int) ≤ 0; omega, by show (0 : Int) ≤ 1000; omega⟩
      | succ k' =>
       have h1 := HPF.out k' (by omega) (by omega)
       have h2 := HNV.out.1
       rw [least_succ L k' (by omega)]
       refine ⟨?_, by omega⟩
       have : 0 ≤ L[k'].1 := by simp only [← HL.out.1, rbl, List.getElem_map, List.getElem_range]; omega
       omega
     obtain ⟨a, ha⟩ : ∃ a, 18 + 5 * k = a := ⟨_, rfl⟩
     obtain ⟨b', hb'⟩ : ∃ b', 23 + 5 * k = b' := ⟨_, rfl⟩
     have w1 : IntKind.i64.wrap (5 * (k : Int)) = 5 * (k : Int) := wrap_fit ⟨by omega, by omega⟩
     have w2 : IntKind.i64.wrap (18 + 5 * (k : Int)) = (a : Int) := by rw [show 18 + 5 * (k : Int) = (a : Int) by omega]; exact wrap_fit ⟨by omega, by omega⟩
     have w3 : IntKind.i64.wrap (23 + 5 * (k : Int)) = (b' : Int) := by rw [show 23 + 5 * (k : Int) = (b' : Int) by omega]; exact wrap_fit ⟨by omega, by omega⟩
     have g0 : (0 : Int) ≤ (a : Int) := by omega
     have g1 : (a : Int) ≤ (b' : Int) := by omega
     have g2 : (b' : Int) ≤ (n : Int) := by have := HNV.out.2; omega
     rw [ha, hb'] at hr
     rw [hzz]
     have htk1 : (L.take k).length = k := by rw [List.length_take]; omega
     have HTK : Hid ((L.take k).length = k ∧ L.take (k + 1) = L.take k ++ [x]) := ⟨htk1, by rw [List.take_succ_eq_append_getElem hll, hx]⟩
     clear hx hxr hx1 hx2 hxn hxd hzz hsx ha hb' htk1
     obtain ⟨na, nc, hvN⟩ := own_shape H3.out.nr
     obtain ⟨da, dc, hvD⟩ := own_shape H3.out.dr
     rw [List.length_map, HTK.out.1] at hvN hvD
     subst hvN
     subst hvD
     by_cases r1' : xn ≤ z - 1
     · have q1 : decide (xn ≤ z - 1) = true := by simpa using r1'
       have HBAD : Hid (¬ Rises nv L) := fun hR => by
        have hll : k < L.length := by rw [HL.out.2]; exact hlt
        have h8 := (hR k hll).1
        rw [HXX.out.1, HXX.out.2.1, HXX.out.2.2.2.1] at h8
        omega
       clear r1'
       go_wp2_with (go_at_call 110; refine (HNk.out _).mono ?_; rintro e w' ⟨rfl, hw'⟩; have hw' := hw'.symm; subst hw')
       have hokf : ok = false := by cases ok; rfl; exact absurd (HOK.out.1 rfl).1 HBAD.out
       subst hokf
       refine bodyPost_ret (v := .tuple #[.agg #[.int .i64 fv, .int .i64 tv, .int .i64 mv, .int .i64 nv, .slice na k nc, .slice da k dc], .bool false]) ?_ rfl ⟨fun _ => ⟨_, rfl, six⟩, fun h => (by cases h), ?_⟩
       · rw [results_cell_tmp rfl]
         go_simp
       · refine H3.out.finF ?_ _ _ _ _ _ _
         first | exact Fr.refl _ _ | exact (Fr.refl _ _).drew | exact (Fr.refl _ _).drewN _
     · have q1 : decide (xn ≤ z - 1) = false := by simpa using r1'
       have HR1 : Hid (¬ xn ≤ z - 1) := r1'
       clear r1'
       by_cases r2' : nv ≤ xn
       · have q2 : decide (xn ≥ nv) = true := by simpa using r2'
         have HBAD : Hid (¬ Rises nv L) := fun hR => by
          have hll : k < L.length := by rw [HL.out.2]; exact hlt
          have h8 := (hR k hll).2
          rw [HXX.out.1, HXX.out.2.1] at h8
          omega
         clear r2'
         go_wp2_with (go_at_call 110; refine (HNk.out _).mono ?_; rintro e w' ⟨rfl, hw'⟩; have hw' := hw'.symm; subst hw')
         have hokf : ok = false := by cases ok; rfl; exact absurd (HOK.out.1 rfl).1 HBAD.out
         subst hokf
         refine bodyPost_ret (v := .tuple #[.agg #[.int .i64 fv, .int .i64 tv, .int .i64 mv, .int .i64 nv, .slice na k nc, .slice da k dc], .bool false]) ?_ rfl ⟨fun _ => ⟨_, rfl, six⟩, fun h => (by cases h), ?_⟩
         · rw [results_cell_tmp rfl]
           go_simp
         · refine H3.out.finF ?_ _ _ _ _ _ _
           first | exact Fr.refl _ _ | exact (Fr.refl _ _).drew | exact (Fr.refl _ _).drewN _
       · have q2 : decide (xn ≥ nv) = false := by simpa using r2'
         have HR2 : Hid (¬ nv ≤ xn) := r2'
         clear r2'
         have hsz := H3.out.fr.size
         have HRN : Hid (W3.ownsRow w.heap.size 3 1 (.slice na k nc) k (((L.take k).map Prod.fst).map (Value.int .i64))) := by
          have h9 := H3.out.nr
          rw [List.length_map, HTK.out.1] at h9
          exact h9
         clear y0 y1 y2 y3 y4 y5 z0 z1 z2 z3 z4 z5
         go_wp2_with (first
          | (go_at_call 110; refine (HNk.out _).mono ?_; rintro e w' ⟨rfl, hw'⟩; have hw' := hw'.symm; subst hw')
          | (at_builtin; refine wpList_append_own _ rfl _ _ 39 rfl w.heap.size 3 i0 _ 1 8 Tryz.underlying39 hi hz0 hz1 hz2 rfl (by omega) (.slice na k nc) k (((L.take k).map Prod.fst).map (Value.int .i64)) rfl (HRN.out.alloc _) ⟨W3.heap.size, 0, none⟩ 1 1 [.int .i64 xn] rfl (by simp) (World.news_of_block (cs := #[.int .i64 xn]) (t := 3) (fr := (0, 0)) (heap_alloc_new W3 _)) (by simp [Value.oneCell']) (by unfold maxLen; omega) (by omega) (by simp; omega) ?_; intro v9 w9 hown9 hgrow9 hne9
             have HP := (H3.out.same ((Fr.refl _ _).alloc (.cells #[.int .i64 xn] 3))).pushN (z := xn) (by rw [List.length_map, HTK.out.1]; exact hown9) hgrow9
             obtain ⟨va9, vc9, hv9⟩ := own_shape hown9
             subst hv9
             have H8 : Hid (RX w (w9.setCell ⟨bx + 1, 4, none⟩ (.slice va9 (k + 1) vc9)) bx fv tv mv nv (.slice va9 (k + 1) vc9) (.slice da k dc) ((L.take k).map Prod.fst ++ [xn]) ((L.take k).map fun x => x.2.ba)) := HP.1
             have HRD : Hid ((w9.setCell ⟨bx + 1, 4, none⟩ (.slice va9 (k + 1) vc9)).ownsRow w.heap.size 9 1 (.slice da k dc) k (((L.take k).map fun x => x.2.ba).map Value.string)) := by
              have h9 := H8.out.dr
              rw [List.length_map, HTK.out.1] at h9
              exact h9
             have hsz9 := H8.out.fr.size
             have x94 := HP.2.1
             have z94 := HP.2.2
             have x85 := H8.out.xcells.2.2.2.2.2
             have z85 := H8.out.xfroz 5
             clear HP hown9 hgrow9 hne9))
         obtain ⟨W8, hW8⟩ : ∃ W8, w9.setCell ⟨bx + 1, 4, none⟩ (.slice va9 (k + 1) vc9) = W8 := ⟨_, rfl⟩
         rw [hW8] at H8 HRD x85 z85 hsz9
         rw [hW8]
         have l8 : bx + 1 < W8.heap.size := World.block_lt_of_cell? _ _ x85
         clear hW8 x94 z94 H3 x0 x1 x2 x3 x4 x5 q1 q2
         go_region_law
          ((refine step_append_lies _ (by rfl) _ _ _ (by rfl) w.heap.size 9 j0 _ 1 16 Tryz.underlying28 hj jz0 jz1 jz2 rfl (by omega) (.slice da k dc) k (((L.take k).map fun x => x.2.ba).map Value.string) (by rfl) ((HRD.out.alloc _).drew) ⟨W8.heap.size, 0, none⟩ 1 1 [.string xd] (by rfl) (by rfl) (World.news_of_block (cs := #[.string xd]) (t := 9) (fr := (0, 0)) (heap_alloc_new W8 _)) (by simp [Value.oneCell']) (by omega) (by unfold maxLen; omega) (by omega) (by simp; omega) (W8.heap.size + 1) (by simp) ?_; intro g10 cap10 w10 hown10 hgrow10 hat10 hlt10
            have HP := (H8.out.same ((Fr.refl _ _).alloc (.cells #[.string xd] 9)).drew).pushD (z := xd) (by rw [List.length_map, HTK.out.1]; exact hown10) hgrow10
            have H10 : Hid (RX w (w10.setCell ⟨bx + 1, 5, none⟩ (.slice (some ⟨g10, 0, none⟩) (k + 1) cap10)) bx fv tv mv nv (.slice va9 (k + 1) vc9) (.slice (some ⟨g10, 0, none⟩) (k + 1) cap10) ((L.take k).map Prod.fst ++ [xn]) (((L.take k).map fun x => x.2.ba) ++ [xd])) := HP.1
            have x105 := HP.2.1
            have z105 := HP.2.2
            clear HP hown10 hgrow10 hat10 hlt10))
         all_goals go_wp2
         all_goals
          go_roundw
          case rel =>
           refine ⟨k + 1, .slice va9 (k + 1) vc9, .slice (some ⟨g10, 0, none⟩) (k + 1) cap10, by omega, by go_num, ?_, ?_, ?_⟩
           · rw [HXX.out.2.2.2.2]
             congr 1
             omega
           · rw [HTK.out.2, List.map_append, List.map_append]
             have h9 := H10.out
             rw [← HXX.out.2.1, ← HXX.out.2.2.1] at h9
             exact h9
           · intro j hj hjk
             rcases Nat.lt_succ_iff_lt_or_eq.1 hjk with h1 | h1
             · exact HPF.out j hj h1
             · subst h1
               rw [HXX.out.1, HXX.out.2.1, HXX.out.2.2.2.1]
               have h2 := HR1.out
               have h3 := HR2.out
               omega
          case measure => simp [intOf]; omega
   · have hkk : k = N := by omega
     subst hkk
     have HRI : Hid (Rises nv L) := fun j hj => HPF.out j hj (by have := HL.out.2; omega)
     by_cases hf0 : fv = 0
     · have q1 : (fv != 0) = false := by simpa using hf0
       have HF0 : Hid (fv = 0) := hf0
       clear hf0
       obtain ⟨na, nc, hvN⟩ := own_shape H3.out.nr
       obtain ⟨da, dc, hvD⟩ := own_shape H3.out.dr
       have htk : L.take k = L := List.take_of_length_le (by have := HL.out.2; omega)
       have H4 : Hid (RX w W3 bx fv tv mv nv vN vD (L.map Prod.fst) (L.map fun x => x.2.ba)) := by
        have h9 := H3.out
        rw [htk] at h9
        exact h9
       have hlk := HL.out.2
       rw [List.length_map, htk, hlk] at hvN hvD
       subst hvN
       subst hvD
       clear htk hlk
       by_cases hnn : (k : Int) = nv
       · have q2 : ((k : Int) == nv) = true := by simpa using hnn
         have hokt : ok = true := HOK.out.2 ⟨HRI.out, Or.inr hnn⟩
         subst hokt
         clear hnn
         go_wp2
         go_region
         all_goals go_wp2
         all_goals
          refine bodyPost_ret (v := .tuple #[.agg #[.int .i64 fv, .int .i64 tv, .int .i64 mv, .int .i64 nv, .slice na k nc, .slice da k dc], .bool true]) ?_ rfl ⟨⟨_, _, rfl, ?_, ?_⟩, ?_⟩
          · rw [results_cell_tmp rfl]
            go_simp
          · have h9 := own_fr' (H4.out.rows (Fr.refl _ _) HL.out.2 (.int .i64 fv) (.int .i64 tv) (.int .i64 mv) (.int .i64 nv) (.slice na k nc) (.slice da k dc)).1 (Fr.refl _ _).drew
            rw [H4.out.ge] at h9
            exact h9
          · have h9 := own_fr' (H4.out.rows (Fr.refl _ _) HL.out.2 (.int .i64 fv) (.int .i64 tv) (.int .i64 mv) (.int .i64 nv) (.slice na k nc) (.slice da k dc)).2 (Fr.refl _ _).drew
            rw [H4.out.ge] at h9
            exact h9
          · exact (H4.out.finF (Fr.refl _ _) (.int .i64 fv) (.int .i64 tv) (.int .i64 mv) (.int .i64 nv) (.slice na k nc) (.slice da k dc)).drew
       · have q2 : ((k : Int) == nv) = false := by simpa using hnn
         have hokf : ok = false := by
          cases ok
          · rfl
          · exfalso
            have h9 := (HOK.out.1 rfl).2
            have h8 := HF0.out
            omega
         subst hokf
         clear hnn
         go_wp2
         go_region
         all_goals go_wp2
         all_goals
          refine bodyPost_ret (v := .tuple #[.agg #[.int .i64 fv, .int .i64 tv, .int .i64 mv, .int .i64 nv, .slice na k nc, .slice da k dc], .bool false]) ?_ rfl ⟨⟨_, rfl, six⟩, ?_⟩
          · rw [results_cell_tmp rfl]
            go_simp
          · exact (H4.out.finF (Fr.refl _ _) (.int .i64 fv) (.int .i64 tv) (.int .i64 mv) (.int .i64 nv) (.slice na k nc) (.slice da k dc)).drew
     · have q1 : (fv != 0) = true := by simpa using hf0
       have hokt : ok = true := HOK.out.2 ⟨HRI.out, Or.inl hf0⟩
       subst hokt
       clear hf0
       obtain ⟨na, nc, hvN⟩ := own_shape H3.out.nr
       obtain ⟨da, dc, hvD⟩ := own_shape H3.out.dr
       have htk : L.take k = L := List.take_of_length_le (by have := HL.out.2; omega)
       have H4 : Hid (RX w W3 bx fv tv mv nv vN vD (L.map Prod.fst) (L.map fun x => x.2.ba)) := by
        have h9 := H3.out
        rw [htk] at h9
        exact h9
       have hlk := HL.out.2
       rw [List.length_map, htk, hlk] at hvN hvD
       subst hvN
       subst hvD
       clear htk hlk
       go_wp2
       go_region
       all_goals go_wp2
       all_goals
        refine bodyPost_ret (v := .tuple #[.agg #[.int .i64 fv, .int .i64 tv, .int .i64 mv, .int .i64 nv, .slice na k nc, .slice da k dc], .bool true]) ?_ rfl ⟨⟨_, _, rfl, ?_, ?_⟩, ?_⟩
        · rw [results_cell_tmp rfl]
          go_simp
        · have h9 := own_fr' (H4.out.rows (Fr.refl _ _) HL.out.2 (.int .i64 fv) (.int .i64 tv) (.int .i64 mv) (.int .i64 nv) (.slice na k nc) (.slice da k dc)).1 (Fr.refl _ _).drew
          rw [H4.out.ge] at h9
          exact h9
        · have h9 := own_fr' (H4.out.rows (Fr.refl _ _) HL.out.2 (.int .i64 fv) (.int .i64 tv) (.int .i64 mv) (.int .i64 nv) (.slice na k nc) (.slice da k dc)).2 (Fr.refl _ _).drew
          rw [H4.out.ge] at h9
          exact h9
        · exact (H4.out.finF (Fr.refl _ _) (.int .i64 fv) (.int .i64 tv) (.int .i64 mv) (.int .i64 nv) (.slice na k nc) (.slice da k dc)).drew
end Go.Proofs.YthdhegmlknpllaaGreat
