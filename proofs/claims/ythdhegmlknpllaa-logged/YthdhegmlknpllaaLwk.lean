/-
  The walk of tetherkeep's Logged (9).
-/
import Derived.Test.YthdhegmlknpllaaLst
import Derived.Test.YthdhegmlknpllaaMar
namespace Go.Proofs.Ythdhegmlknpllaa
open Go.RowKit Go.Maps Go.MuLone

set_option maxRecDepth 100000 in
set_option maxHeartbeats 12800000 in
theorem logged_any (id blocks cut : Int) (ao : Option Addr) (rows : List (Option Addr × List Int × Nat)) (cap : Nat) (w : World) (hi : In64 id) (hb : In64 blocks) (hcu : In64 cut) (hr : RawsB w.heap.size w ao rows cap) :
    Calls Try.prog 9 #[.int .i64 id, .int .i64 blocks, .slice ao rows.length cap, .int .i64 cut] w fun e w' => e = .returned (.bool true) ∧ Below w.heap.size w w' := by
  obtain ⟨i0, hi0, hz0, hz1, hz2⟩ := info_parts info46
  obtain ⟨i3, hi3, hy0, hy1, hy2⟩ := info_parts info3
  have HS := store_any id blocks w hi hb
  have HP : Hid (∀ W, Calls Try.prog 15 #[.int .i64 blocks, .int .i64 16] W fun e w' => e = .returned (.int .i64 (pk blocks 16)) ∧ w' = W) := fun W => pick_any blocks 16 W hb (by omega) (by omega)
  have hnk : ((nOf blocks : Nat) : Int) = 1 + pk blocks 16 := by have := pk_lt blocks 16 (by omega); unfold nOf; omega
  have hd := idOf_ok id
  have hn := nOf_ok blocks
  have p1 := pk_lt blocks 16 (by omega)
  obtain ⟨y, hy⟩ : ∃ y, pk blocks 16 = y := ⟨_, rfl⟩
  obtain ⟨n, hnn⟩ : ∃ n, nOf blocks = n := ⟨_, rfl⟩
  obtain ⟨d, hdd⟩ : ∃ d, idOf id = d := ⟨_, rfl⟩
  rw [hy] at HP hnk p1
  rw [hnn] at HS hnk hn
  rw [hdd] at HS hd
  obtain ⟨B, hB⟩ : ∃ B, w.heap.size = B := ⟨_, rfl⟩
  have HB : Hid (B = w.heap.size ∧ RawsB B w ao rows cap ∧ In64 cut) := ⟨hB.symm, by rw [← hB]; exact hr, hcu⟩
  rw [hB] at HS ⊢
  have q1 : IntKind.i64.wrap (1 + y) = (n : Int) := by rw [hnk]; exact wrap_fit ⟨by omega, by omega⟩
  have hcap := hr.le
  clear hy hnn hdd hB hr hnk hcu
  go_enter Try.func9, Try.ntmps9
  go_wp2_with (first
    | (go_at_call 19; refine HS.mono ?_; rintro e w1 ⟨b, vb, mb, lv, rfl, r1, f1⟩
       have H0 : Hid (LF B b w w1 (Sto.made d n vb mb lv) d n [] [] (.slice none 0 0) [] (.slice none 0 0)) := ⟨r1, Eqv.made d n vb mb lv, fun o ho => by simp at ho, f1, Im.nil _ _ _ _ _, fun i hi => by simp at hi, World.ownsRow_nil _ _ _ _⟩
       clear r1 f1)
    | (go_at_call 15; refine (HP.out _).mono ?_; rintro e w' ⟨rfl, hw'⟩; have hw' := hw'.symm; subst hw'))
  go_loopw [11, 12, 13] (fun vg vl i' wr => ∃ k : Nat, k ≤ 12 ∧ k ≤ rows.length ∧ i' = .int .i64 k ∧ Hid (∃ s L l M, LF B b w wr s d n L l vg M vl ∧ ns L = k ∧ L.length ≤ 21 * k ∧ l.length = k ∧ M.length = k)) (fun _ _ i' _ => 12 - (intOf i').toNat)
  case atStart => exact ⟨0, Nat.zero_le _, Nat.zero_le _, rfl, _, [], [], [], H0.out, rfl, Nat.le_refl _, rfl, rfl⟩
  case round =>
    obtain ⟨k, hk, hkl, rfl, HK⟩ := hrel
    obtain ⟨W3, hW3⟩ : ∃ W3, W3 = wr := ⟨_, rfl⟩
    subst hW3
    clear H0 HS
    obtain ⟨s, L, l, M, hF, hns, hLl, hll, hMl⟩ := HK.out
    obtain ⟨ao9, cap9, hsh⟩ := own_shape hF.im.row
    rw [hll] at hsh
    subst hsh
    obtain ⟨ao5, cap5, hsh⟩ := own_shape hF.row
    rw [hMl] at hsh
    subst hsh
    have HS : Hid (LF B b w W3 s d n L l (.slice ao9 k cap9) M (.slice ao5 k cap5) ∧ ns L = k ∧ L.length ≤ 21 * k ∧ l.length = k ∧ M.length = k) := ⟨hF, hns, hLl, hll, hMl⟩
    clear hF hns hLl hll hMl HK
    by_cases hgo : k < rows.length ∧ k < 12
    · obtain ⟨hlt, hlt2⟩ := hgo
      have hltz : (k : Int) < (rows.length : Int) := by omega
      have hltz2 : (k : Int) < 12 := by omega
      have hRw := HB.out.2.1.fr HS.out.1.fr (by simp)
      obtain ⟨rb, off, hao, hrb, hc⟩ := hRw.at' (by omega)
      have d1 := hc k hlt
      have hr1 := hRw.row rows[k] (List.getElem_mem hlt)
      obtain ⟨r, hrr⟩ : ∃ r, rows[k] = r := ⟨_, rfl⟩
      rw [hrr] at d1 hr1
      subst hao
      have HT := takes_all B b s d n k r.1 r.2.1 r.2.2 W3 HS.out.1.rep (HS.out.1.inv hn.2 HS.out.2.1 HS.out.2.2.1) hlt2 hd hn hr1.1 hr1.2 k ⟨by omega, by omega⟩
      obtain ⟨a1, z1, c1⟩ := r
      simp only at d1 HT
      have hcz := hr1.1.1
      simp only at hcz
      clear hc hRw hr1 hrr
      go_wp2_with (first
        | (go_at_call 20; refine HT.mono ?_; rintro e w4 ⟨v, rfl, t4⟩
           obtain ⟨S, L', h4, hns4, hL4, o4, hc4⟩ := HS.out.1.takes HB.out.1 hn.2 ⟨by omega, by omega⟩ HS.out.2.1 HS.out.2.2.1 HS.out.2.2.2.1 HS.out.2.2.2.2 t4
           have H4 : Hid (LF B b w w4 S d n L' l (.slice ao9 k cap9) M (.slice ao5 k cap5) ∧ ns L' = k + 1 ∧ L'.length ≤ 21 * (k + 1) ∧ w4.ownsRow B 9 1 v n (thS S (gd d k) n) ∧ Cuts d n L' (M ++ [S.log.length])) := ⟨h4, hns4, hL4, o4, hc4⟩
           obtain ⟨a8, c8, hv8⟩ := own_shape o4
           subst hv8
           unfold imgv
           have HO : Hid (w4.ownsRow B 46 3 (.slice ao9 k cap9) k (imC l)) := (by have := h4.im.row; rw [HS.out.2.2.2.1] at this; exact this)
           have hBW : B ≤ w4.heap.size := (by rw [HB.out.1]; exact h4.fr.size)
           have HNW : Hid (∀ j u, [Value.int .i64 (d * 1000000 + ((k : Int) + 1)), .int .i64 (k : Int), .slice a8 n c8][j]? = some u → ((w4.alloc (.cells #[.int .i64 (d * 1000000 + ((k : Int) + 1)), .int .i64 (k : Int), .slice a8 n c8] 46)).alloc (.cells #[.int .i64 (d * 1000000 + ((k : Int) + 1)), .int .i64 (k : Int), .slice a8 n c8] 46)).cell? ((⟨w4.heap.size + 1, 0, none⟩ : Addr).add j) = some u) := news_img _ _ _ _
           clear t4 h4 hns4 hL4 o4 hc4)
        | (go_at_call 35; refine (log_any B b S w9 H9.out.rep (by rw [H9.out.eqv.lg, st_log]; have := (lgT_len d n L').1; omega)).mono ?_; rintro e w10 ⟨rfl, r10, f10⟩
           have H10 : Hid (LF B b w w10 S d n L' (l ++ [(gd d k, (k : Int), .slice a8 n c8)]) v9 M (.slice ao5 k cap5)) := H9.out.step HB.out.1 r10 f10
           have hsz : (ofL S.log).size = S.log.length := ofL_size _
           have HCu : Hid (Cuts d n L' (M ++ [S.log.length])) := H4.out.2.2.2.2
           obtain ⟨Lg, hLg⟩ : ∃ Lg, S.log.length = Lg := ⟨_, rfl⟩
           obtain ⟨Tx, hTx⟩ : ∃ Tx, ofL S.log = Tx := ⟨_, rfl⟩
           rw [hTx]
           rw [hTx, hLg] at hsz
           rw [hLg] at HCu
           have HO5 : Hid (w10.ownsRow B 3 1 (.slice ao5 k cap5) k (iC M)) := (by have := H10.out.row; rw [HS.out.2.2.2.2] at this; exact this)
           have hBW10 : B ≤ w10.heap.size := (by rw [HB.out.1]; exact H10.out.fr.size)
           have HNW5 : Hid (∀ j u, [Value.int .i64 (Lg : Int)][j]? = some u → (w10.alloc (.cells #[.int .i64 (Lg : Int)] 3)).cell? ((⟨w10.heap.size, 0, none⟩ : Addr).add j) = some u) := World.news_of_block (cs := #[.int .i64 (Lg : Int)]) (t := 3) (fr := (0, 0)) (heap_alloc_new w10 _)
           clear r10 f10 hLg hTx)
        | (at_builtin; refine wpList_append_own _ rfl _ _ 22 rfl B 3 i3 _ 1 8 Try.underlying22 hi3 hy0 hy1 hy2 rfl (by omega) (.slice ao5 k cap5) k (iC M) rfl (HO5.out.alloc _) ⟨w10.heap.size, 0, none⟩ 1 1 [.int .i64 (Lg : Int)] rfl (by simp) HNW5.out (by simp [Value.oneCell']) (by unfold maxLen; omega) (by omega) (by simp; omega) ?_; intro v11 w11 hown11 hgrow11 hne11
           have H11 : Hid (LF B b w w11 S d n L' (l ++ [(gd d k, (k : Int), .slice a8 n c8)]) v9 (M ++ [Lg]) v11) := H10.out.long HB.out.1 ((Fr.refl _ _).alloc _) (by rw [HS.out.2.2.2.2]; exact hown11) hgrow11 HCu.out
           clear hown11 hgrow11 hne11)
        | (at_builtin; refine wpList_append_own _ rfl _ _ 43 rfl B 46 i0 _ 3 40 Try.underlying43 hi0 hz0 hz1 hz2 rfl (by omega) (.slice ao9 k cap9) k (imC l) rfl ((HO.out.alloc _).alloc _) ⟨w4.heap.size + 1, 0, none⟩ 1 1 [.int .i64 (d * 1000000 + ((k : Int) + 1)), .int .i64 (k : Int), .slice a8 n c8] rfl rfl HNW.out (by simp [Value.oneCell']) (by unfold maxLen; omega) (by omega) (by simp; omega) ?_; intro v9 w9 hown9 hgrow9 hne9
           have H9 : Hid (LF B b w w9 S d n L' (l ++ [(gd d k, (k : Int), .slice a8 n c8)]) v9 M (.slice ao5 k cap5)) := H4.out.1.image HB.out.1 HS.out.2.2.2.1 (((Fr.refl _ _).alloc _).alloc _) hown9 hgrow9 H4.out.2.2.2.1
           clear hown9 hgrow9 hne9))
      go_roundw
      case rel => exact ⟨k + 1, by omega, by omega, by go_num, S, L', _, _, H11.out, H4.out.2.1, H4.out.2.2.1, by simp [HS.out.2.2.2.1], by simp [HS.out.2.2.2.2]⟩
      case measure => simp [intOf]; omega
    · have hx : ¬ k < rows.length ∨ (k < rows.length ∧ ¬ k < 12) := by omega
      have hlen := lgT_len d n L
      have hLl := HS.out.2.2.1
      have hlogE : s.log = lgT d n L := by rw [HS.out.1.eqv.lg, st_log]
      have HLg : Hid (Calls Try.prog 35 #[.pointer (some ⟨b, 0, none⟩)] W3 fun e w' => e = .returned (.string (ofL (lgT d n L))) ∧ Rep B w' b 0 s ∧ Fr (foot b s) W3 w') := by
        have := log_any B b s W3 HS.out.1.rep (by rw [hlogE]; omega)
        rw [hlogE] at this
        exact this
      have HOp : Hid (∀ W, Calls Try.prog 36 #[.string (ofL (lgT d n L))] W fun e w' => ∃ b x, e = .returned (.tuple #[.pointer (some ⟨b, 0, none⟩), .int .i64 0]) ∧ Rep W.heap.size w' b 0 x ∧ Eqv x (st d n L) ∧ Fr [] W w') := fun W => by
        have := open_any d n L (lgT d n L).length L.length W hd hn HS.out.1.ok (by rw [HS.out.2.1]; omega) (by omega) (by omega) (Nat.le_refl _) (by rw [List.take_length]; omega) (fun h => by omega)
        rw [List.take_length, List.take_length] at this
        exact this
      have HO1 : Hid (∀ c, c < 7 → ∀ W, Calls Try.prog 36 #[.string ((ofL (lgT d n L)).extract 0 c)] W fun e w' => e = .returned (.tuple #[.pointer none, .int .i64 2]) ∧ Fr [] W w') := fun c hc W => by
        have e : (ofL (lgT d n L)).extract 0 c = ofL ((lgT d n L).take c) := by
          refine ofL_ext ?_
          rw [ext_list, ofL_list, ofL_list, List.drop_zero, Nat.sub_zero]
        rw [e]
        exact open_bad d n L c W hc
      have HO2 : Hid (∀ c m, c ≤ 100000 → m ≤ L.length → (lgT d n (L.take m)).length ≤ c → (m < L.length → c < (lgT d n (L.take (m + 1))).length) → ∀ W, Calls Try.prog 36 #[.string ((ofL (lgT d n L)).extract 0 c)] W fun e w' => ∃ b x, e = .returned (.tuple #[.pointer (some ⟨b, 0, none⟩), .int .i64 0]) ∧ Rep W.heap.size w' b 0 x ∧ Eqv x (st d n (L.take m)) ∧ Fr [] W w') := fun c m hc h1 h2 h3 W => by
        have e : (ofL (lgT d n L)).extract 0 c = ofL ((lgT d n L).take c) := by
          refine ofL_ext ?_
          rw [ext_list, ofL_list, ofL_list, List.drop_zero, Nat.sub_zero]
        rw [e]
        exact open_any d n L c m W hd hn HS.out.1.ok (by rw [HS.out.2.1]; omega) (by omega) hc h1 h2 h3
      have hTs : (ofL (lgT d n L)).size = (lgT d n L).length := ofL_size _
      obtain ⟨T, hT⟩ : ∃ T, ofL (lgT d n L) = T := ⟨_, rfl⟩
      obtain ⟨N, hN⟩ : ∃ N, (lgT d n L).length = N := ⟨_, rfl⟩
      rw [hT] at HLg HOp HO1 HO2 hTs
      rw [hN] at hTs hlen
      have pc := pk_lt cut ((N : Int) + 1) (by omega)
      obtain ⟨c, hcc⟩ : ∃ c : Nat, pk cut ((N : Int) + 1) = (c : Int) := ⟨(pk cut ((N : Int) + 1)).toNat, by omega⟩
      have HPc : Hid (∀ W, Calls Try.prog 15 #[.int .i64 cut, .int .i64 ((N : Int) + 1)] W fun e w' => e = .returned (.int .i64 c) ∧ w' = W) := fun W => by
        rw [← hcc]
        exact pick_any cut ((N : Int) + 1) W HB.out.2.2 (by omega) (by omega)
      rw [hcc] at pc
      have hN1 : IntKind.i64.wrap ((N : Int) + 1) = (N : Int) + 1 := wrap_fit ⟨by omega, by omega⟩
      have hcN : (c : Int) ≤ (N : Int) := by omega
      have hc0 : (0 : Int) ≤ (c : Int) := by omega
      clear hT hN hlogE hcc
      rcases hx with hx | ⟨hx1, hx2⟩
      all_goals
        go_wp2_with (first
          | (go_at_call 35; refine HLg.out.mono ?_; rintro e w5 ⟨rfl, r5, f5⟩
             have H5 : Hid (LF B b w w5 s d n L l (.slice ao9 k cap9) M (.slice ao5 k cap5)) := HS.out.1.step HB.out.1 r5 f5
             clear r5 f5)
          | (go_at_call 36; refine (HOp.out _).mono ?_; rintro e w6 ⟨bx, x, rfl, r6, e6, f6⟩
             have H6 : Hid (Rep w5.heap.size w6 bx 0 x ∧ Fr [] w5 w6 ∧ Eqv x (st d n L)) := ⟨r6, f6, e6⟩
             have hxs : x.ss.length = k := (by rw [e6.ss, (st_inv d n hn.2 L HS.out.1.ok).ss, HS.out.2.1])
             clear r6 e6 f6)
          | (go_at_call 23; refine (snaps_any w5.heap.size bx x w6 H6.out.1 (by omega)).mono ?_; rintro e w7 ⟨gg, rfl, hgg, hg7, r7, f7⟩
             have H7 : Hid (Rep w5.heap.size w7 bx 0 x ∧ Fr [] w5 w7) := ⟨r7, H6.out.2.1.trans f7 (fun j hj => Or.inr (H6.out.1.lt j hj).1)⟩
             clear r7 f7 hg7 hgg))
        go_loopw [19] (fun i' wr => ∃ j : Nat, j ≤ k ∧ i' = .int .i64 j ∧ Hid (Rep w5.heap.size wr bx 0 x ∧ Fr [] w5 wr)) (fun i' _ => k - (intOf i').toNat)
        case atStart => exact ⟨0, Nat.zero_le _, rfl, H7⟩
        case round =>
          obtain ⟨j, hj, rfl, HJ⟩ := hrel
          obtain ⟨W4, hW4⟩ : ∃ W4, W4 = wr := ⟨_, rfl⟩
          subst hW4
          clear H7
          by_cases hjk : j < k
          · have hjz : (j : Int) < (k : Int) := by omega
            have hj' : j < l.length := by rw [HS.out.2.2.2.1]; exact hjk
            have hF4 := H5.out.same HJ.out.2
            have hrow : W4.ownsRow B 46 3 (.slice ao9 k cap9) k (imC l) := by have := hF4.im.row; rw [HS.out.2.2.2.1] at this; exact this
            obtain ⟨g9, hg9, hc9, hcell⟩ := own_addr' hrow (by omega)
            obtain ⟨q0, q1', q2⟩ := imC_get l j hj'
            obtain ⟨o1, o2⟩ := hF4.im.one j hj'
            obtain ⟨aj, cj, hvj⟩ := own_shape o2
            have HI0 := is_opened H5.out hd hn HS.out.2.1 hk HS.out.2.2.2.1 L (R := []) (by simp) HJ.out.2 HJ.out.1 (Nat.le_refl _) H6.out.2.2 j hj'
            rw [HS.out.2.1, show decide (j < k) = true by simpa using hjk, hvj] at HI0
            rw [o1] at q0
            rw [hvj] at q2
            obtain ⟨tj, htj⟩ : ∃ tj, l[j].2.1 = tj := ⟨_, rfl⟩
            rw [htj] at HI0 q1'
            have e0 : W4.cell? ⟨g9, j * 3, none⟩ = some (.int .i64 (gd d j)) := by rw [hcell _ (by omega)]; exact q0
            have e1 : W4.cell? ⟨g9, j * 3 + 1, none⟩ = some (.int .i64 tj) := by rw [hcell _ (by omega)]; exact q1'
            have e2 : W4.cell? ⟨g9, j * 3 + 2, none⟩ = some (.slice aj n cj) := by rw [hcell _ (by omega)]; exact q2
            have HI : Hid (Calls Try.prog 21 #[.agg #[.int .i64 (gd d j), .int .i64 tj, .slice aj n cj], .pointer (some ⟨bx, 0, none⟩)] W4 fun e w' => e = .returned (.bool true) ∧ Rep w5.heap.size w' bx 0 x ∧ Fr [] w5 w') := HI0
            subst hg9
            clear hcell q0 q1' q2 o1 o2 hvj htj HI0 hrow hF4 hj'
            go_wp2_with (first
              | (go_at_call 21; refine HI.out.mono ?_; rintro e w8 ⟨rfl, r8, f8⟩; have H8 : Hid (Rep w5.heap.size w8 bx 0 x ∧ Fr [] w5 w8) := ⟨r8, f8⟩; clear r8 f8))
            go_roundw
            case rel => exact ⟨j + 1, by omega, by go_num, H8⟩
            case measure => simp [intOf]; omega
          · have hjz : ¬ (j : Int) < (k : Int) := by omega
            by_cases hc7 : c < 7
            · have HOb := HO1.out c hc7
              have HOb' : Hid (∀ W, Calls Try.prog 36 #[.string (T.extract 0 c)] W fun e w' => e = .returned (.tuple #[.pointer none, .int .i64 2]) ∧ Fr [] W w') := HOb
              clear HOb
              by_cases hk0 : k = 0
              · have hkz : ((k : Int) == 0) = true := by simp [hk0]
                go_wp2_with (first
                  | (go_at_call_of 15 (Value.int .i64 cut); refine (HPc.out _).mono ?_; rintro e w' ⟨rfl, hw'⟩; have hw' := hw'.symm; subst hw')
                  | (go_at_call 36; refine (HOb'.out _).mono ?_; rintro e w8 ⟨rfl, f8⟩; have H8 : Hid (Fr [] W4 w8) := f8; clear f8))
                all_goals
                  go_ret
                  exact ⟨by simp, ((H5.out.fr.tr HJ.out.2).tr H8.out).below (by rw [HB.out.1]; exact Nat.le_refl _) (by simp)⟩
              · have hkz : ((k : Int) == 0) = false := by simp [hk0]
                have hM0 : 0 < M.length := by rw [HS.out.2.2.2.2]; omega
                obtain ⟨p, _, hp1, _, _⟩ := H5.out.cuts 0 hM0
                have hp2 := (lgT_len d n (L.take (p + 1))).1
                obtain ⟨M0, hMM⟩ : ∃ M0, M[0] = M0 := ⟨_, rfl⟩
                rw [hMM] at hp1
                have hcM : (c : Int) < (M0 : Int) := by omega
                have HCell : Hid (∀ W, Fr [] W4 W → ∃ g5, ao5 = some ⟨g5, 0, none⟩ ∧ k ≤ cap5 ∧ W.cell? ⟨g5, 0, none⟩ = some (.int .i64 (M0 : Int))) := fun W hW => by
                  have hrow := ((H5.out.same HJ.out.2).same hW).row
                  rw [HS.out.2.2.2.2] at hrow
                  obtain ⟨g5, h1, h2, h3⟩ := own_addr' hrow (by omega)
                  refine ⟨g5, h1, h2, ?_⟩
                  rw [h3 0 (by omega), ← hMM]
                  simp [iC, hM0]
                have hk0z : (0 : Int) < (k : Int) := by omega
                clear hp1 hp2 hMM
                go_wp2_with (first
                  | (go_at_call_of 15 (Value.int .i64 cut); refine (HPc.out _).mono ?_; rintro e w' ⟨rfl, hw'⟩; have hw' := hw'.symm; subst hw')
                  | (go_at_call 36; refine (HOb'.out _).mono ?_; rintro e w8 ⟨rfl, f8⟩; have H8 : Hid (Fr [] W4 w8) := f8; obtain ⟨g5, hg5, hk5, m0⟩ := HCell.out w8 f8; subst hg5; clear f8))
                go_ret
                exact ⟨by rfl, ((H5.out.fr.tr HJ.out.2).tr H8.out).below (by rw [HB.out.1]; exact Nat.le_refl _) (by simp)⟩
            · obtain ⟨m, hm1, hm2, hm3⟩ := whole_of d n L c (by omega)
              have HOy : Hid (∀ W, Calls Try.prog 36 #[.string (T.extract 0 c)] W fun e w' => ∃ b x, e = .returned (.tuple #[.pointer (some ⟨b, 0, none⟩), .int .i64 0]) ∧ Rep W.heap.size w' b 0 x ∧ Eqv x (st d n (L.take m)) ∧ Fr [] W w') := HO2.out c m (by omega) hm1 hm2 hm3
              have HM : Hid (m ≤ L.length ∧ (lgT d n (L.take m)).length ≤ c ∧ (m < L.length → c < (lgT d n (L.take (m + 1))).length)) := ⟨hm1, hm2, hm3⟩
              have H4 : Hid (LF B b w W4 s d n L l (.slice ao9 k cap9) M (.slice ao5 k cap5)) := H5.out.same HJ.out.2
              clear hm1 hm2 hm3
              go_wp2_with (first
                | (go_at_call_of 15 (Value.int .i64 cut); refine (HPc.out _).mono ?_; rintro e w' ⟨rfl, hw'⟩; have hw' := hw'.symm; subst hw')
                | (go_at_call 36; refine (HOy.out _).mono ?_; rintro e w8 ⟨b8, y8, rfl, r8, e8, f8⟩; have H8 : Hid (Rep W4.heap.size w8 b8 0 y8 ∧ Fr [] W4 w8) := ⟨r8, f8⟩; have HE8 : Hid (Eqv y8 (st d n (L.take m))) := e8; clear r8 e8 f8))
              go_loopw [24] (fun i' wr => ∃ q : Nat, q ≤ k ∧ i' = .int .i64 q ∧ Hid (Rep W4.heap.size wr b8 0 y8 ∧ Fr [] W4 wr)) (fun i' _ => k - (intOf i').toNat)
              case atStart => exact ⟨0, Nat.zero_le _, rfl, H8⟩
              case round =>
                obtain ⟨q, hq, rfl, HQ⟩ := hrel
                obtain ⟨W9, hW9⟩ : ∃ W9, W9 = wr := ⟨_, rfl⟩
                subst hW9
                clear H8
                by_cases hqk : q < k
                · have hqz : (q : Int) < (k : Int) := by omega
                  have hq' : q < l.length := by rw [HS.out.2.2.2.1]; exact hqk
                  have hqM : q < M.length := by rw [HS.out.2.2.2.2]; exact hqk
                  have hF4 := H4.out.same HQ.out.2
                  have hrow : W9.ownsRow B 46 3 (.slice ao9 k cap9) k (imC l) := by have := hF4.im.row; rw [HS.out.2.2.2.1] at this; exact this
                  have hrow5 : W9.ownsRow B 3 1 (.slice ao5 k cap5) k (iC M) := by have := hF4.row; rw [HS.out.2.2.2.2] at this; exact this
                  obtain ⟨g9, hg9, hc9, hcell⟩ := own_addr' hrow (by omega)
                  obtain ⟨g5, hg5, hc5, hcell5⟩ := own_addr' hrow5 (by omega)
                  obtain ⟨q0, q1', q2⟩ := imC_get l q hq'
                  obtain ⟨o1, o2⟩ := hF4.im.one q hq'
                  obtain ⟨aj, cj, hvj⟩ := own_shape o2
                  have HI0 := is_opened H4.out hd hn HS.out.2.1 hk HS.out.2.2.2.1 (L.take m) (R := L.drop m) (by rw [List.take_append_drop]) HQ.out.2 HQ.out.1 (Nat.le_refl _) HE8.out q hq'
                  have hiff := H4.out.cuts.iff HM.out.2.1 HM.out.2.2 q hqM
                  rw [hvj] at HI0
                  rw [o1] at q0
                  rw [hvj] at q2
                  obtain ⟨tj, htj⟩ : ∃ tj, l[q].2.1 = tj := ⟨_, rfl⟩
                  obtain ⟨Mq, hMq⟩ : ∃ Mq, M[q] = Mq := ⟨_, rfl⟩
                  rw [htj] at HI0 q1'
                  rw [hMq] at hiff
                  have e0 : W9.cell? ⟨g9, q * 3, none⟩ = some (.int .i64 (gd d q)) := by rw [hcell _ (by omega)]; exact q0
                  have e1 : W9.cell? ⟨g9, q * 3 + 1, none⟩ = some (.int .i64 tj) := by rw [hcell _ (by omega)]; exact q1'
                  have e2 : W9.cell? ⟨g9, q * 3 + 2, none⟩ = some (.slice aj n cj) := by rw [hcell _ (by omega)]; exact q2
                  have HC5 : Hid (∀ W, Fr [] W4 W → W.cell? ⟨g5, q, none⟩ = some (.int .i64 (Mq : Int))) := fun W hW => by
                    have hr5 := (H4.out.same hW).row
                    rw [HS.out.2.2.2.2] at hr5
                    obtain ⟨g5', hg5', _, hcell5'⟩ := own_addr' hr5 (by omega)
                    have e5 : g5 = g5' := by rw [hg5] at hg5'; simpa using hg5'
                    rw [e5, hcell5' q (by omega), ← hMq]
                    simp [iC, hqM]
                  subst hg9
                  subst hg5
                  by_cases hin : q < ns (L.take m)
                  · have hle : (Mq : Int) ≤ (c : Int) := by have := hiff.2 hin; omega
                    rw [show decide (q < ns (L.take m)) = true by simpa using hin] at HI0
                    have HI : Hid (Calls Try.prog 21 #[.agg #[.int .i64 (gd d q), .int .i64 tj, .slice aj n cj], .pointer (some ⟨b8, 0, none⟩)] W9 fun e w' => e = .returned (.bool true) ∧ Rep W4.heap.size w' b8 0 y8 ∧ Fr [] W4 w') := HI0
                    clear hcell hcell5 q0 q1' q2 o1 o2 hvj htj HI0 hrow hrow5 hF4 hq' hqM hMq hiff
                    go_wp2_with (first
                      | (go_at_call 21; refine HI.out.mono ?_; rintro e w10 ⟨rfl, r10, f10⟩; have H10 : Hid (Rep W4.heap.size w10 b8 0 y8 ∧ Fr [] W4 w10) := ⟨r10, f10⟩; have m5 := HC5.out w10 f10; clear r10 f10))
                    go_roundw
                    case rel => exact ⟨q + 1, by omega, by go_num, H10⟩
                    case measure => simp [intOf]; omega
                  · have hle : ¬ (Mq : Int) ≤ (c : Int) := by
                      intro h
                      exact hin (hiff.1 (by omega))
                    rw [show decide (q < ns (L.take m)) = false by simpa using hin] at HI0
                    have HI : Hid (Calls Try.prog 21 #[.agg #[.int .i64 (gd d q), .int .i64 tj, .slice aj n cj], .pointer (some ⟨b8, 0, none⟩)] W9 fun e w' => e = .returned (.bool false) ∧ Rep W4.heap.size w' b8 0 y8 ∧ Fr [] W4 w') := HI0
                    clear hcell hcell5 q0 q1' q2 o1 o2 hvj htj HI0 hrow hrow5 hF4 hq' hqM hMq hiff
                    go_wp2_with (first
                      | (go_at_call 21; refine HI.out.mono ?_; rintro e w10 ⟨rfl, r10, f10⟩; have H10 : Hid (Rep W4.heap.size w10 b8 0 y8 ∧ Fr [] W4 w10) := ⟨r10, f10⟩; have m5 := HC5.out w10 f10; clear r10 f10))
                    go_roundw
                    case rel => exact ⟨q + 1, by omega, by go_num, H10⟩
                    case measure => simp [intOf]; omega
                · have hqz : ¬ (q : Int) < (k : Int) := by omega
                  have Is := HS.out.1.inv hn.2 HS.out.2.1 HS.out.2.2.1
                  have Ix0 := H6.out.2.2.inv (st_inv d n hn.2 L HS.out.1.ok)
                  rw [HS.out.2.1] at Ix0
                  have hLl2 := HS.out.2.2.1
                  have Rx : Rep w5.heap.size W9 bx 0 x := HJ.out.1.kept0 HQ.out.2
                  have F59 : Fr [] w5 W9 := HJ.out.2.tr HQ.out.2
                  by_cases hk12 : k < 12
                  · have HX : Hid (Calls Try.prog 24 #[.pointer (some ⟨bx, 0, none⟩), .int .i64 1] W9 fun e w' => e = .returned (.tuple #[.int .i64 (gd d k), .int .i64 0]) ∧ Fr [] w5 w') := by
                      have e : gu x (x.taken + 1) = gd d k := by unfold gu gd; rw [Ix0.id, Ix0.tk]
                      have := snap_ok w5.heap.size bx x 1 W9 Rx (by omega) (by rw [Ix0.id]; exact hd) (by rw [Ix0.tk]; omega) Ix0.free (by rw [Ix0.ss]; exact hk12) (by rw [Ix0.ms]; simp) (by rw [Ix0.cm]; omega) (by rw [Ix0.vol]; exact hn.2) (by rw [Ix0.vol]; have := Ix0.cnt; unfold maxLen; omega) (by have := Ix0.lg; omega)
                      rw [e] at this
                      refine this.mono ?_
                      rintro e w' ⟨rfl, _, _, _, f, _⟩
                      exact ⟨rfl, F59.trans f (fun j hj => Or.inr (Rx.lt j hj).1)⟩
                    have HY : Hid (∀ W, Fr [] w5 W → Calls Try.prog 24 #[.pointer (some ⟨b, 0, none⟩), .int .i64 1] W fun e w' => e = .returned (.tuple #[.int .i64 (gd d k), .int .i64 0]) ∧ Fr [] w w') := fun W hW => by
                      have hF := H5.out.same hW
                      have e : gu s (s.taken + 1) = gd d k := by unfold gu gd; rw [Is.id, Is.tk]
                      have := snap_ok B b s 1 W hF.rep (by omega) (by rw [Is.id]; exact hd) (by rw [Is.tk]; omega) Is.free (by rw [Is.ss]; exact hk12) (by rw [Is.ms]; simp) (by rw [Is.cm]; omega) (by rw [Is.vol]; exact hn.2) (by rw [Is.vol]; have := Is.cnt; unfold maxLen; omega) (by have := Is.lg; omega)
                      rw [e] at this
                      refine this.mono ?_
                      rintro e w' ⟨rfl, _, _, _, f, _⟩
                      exact ⟨rfl, hF.fr.trans f (fun j hj => Or.inr (by rw [← HB.out.1]; exact (hF.rep.lt j hj).1))⟩
                    clear Is Ix0 Rx F59 hLl2
                    go_wp2_with (first
                      | (go_at_call 24; refine (HY.out _ H11.out).mono ?_; rintro e w12 ⟨rfl, f12⟩; have H12 : Hid (Fr [] w w12) := f12; clear f12)
                      | (go_at_call 24; refine HX.out.mono ?_; rintro e w11 ⟨rfl, f11⟩; have H11 : Hid (Fr [] w5 w11) := f11; clear f11))
                    go_ret
                    exact ⟨by simp, H12.out.below (by rw [HB.out.1]; exact Nat.le_refl _) (by simp)⟩
                  · have hk12' : k = 12 := by omega
                    have HX : Hid (Calls Try.prog 24 #[.pointer (some ⟨bx, 0, none⟩), .int .i64 1] W9 fun e w' => e = .returned (.tuple #[.int .i64 0, .int .i64 5]) ∧ Fr [] w5 w') := by
                      have := snap_full w5.heap.size bx x 1 W9 Rx (by omega) (by rw [Ix0.id]; exact hd) (by rw [Ix0.tk]; omega) Ix0.free (by rw [Ix0.ss]; exact hk12') (by rw [Ix0.ms]; simp)
                      refine this.mono ?_
                      rintro e w' ⟨rfl, _, f⟩
                      exact ⟨rfl, F59.trans f (fun j hj => Or.inr (Rx.lt j hj).1)⟩
                    have HY : Hid (∀ W, Fr [] w5 W → Calls Try.prog 24 #[.pointer (some ⟨b, 0, none⟩), .int .i64 1] W fun e w' => e = .returned (.tuple #[.int .i64 0, .int .i64 5]) ∧ Fr [] w w') := fun W hW => by
                      have hF := H5.out.same hW
                      have := snap_full B b s 1 W hF.rep (by omega) (by rw [Is.id]; exact hd) (by rw [Is.tk]; omega) Is.free (by rw [Is.ss]; exact hk12') (by rw [Is.ms]; simp)
                      refine this.mono ?_
                      rintro e w' ⟨rfl, _, f⟩
                      exact ⟨rfl, hF.fr.trans f (fun j hj => Or.inr (by rw [← HB.out.1]; exact (hF.rep.lt j hj).1))⟩
                    clear Is Ix0 Rx F59 hLl2
                    go_wp2_with (first
                      | (go_at_call 24; refine (HY.out _ H11.out).mono ?_; rintro e w12 ⟨rfl, f12⟩; have H12 : Hid (Fr [] w w12) := f12; clear f12)
                      | (go_at_call 24; refine HX.out.mono ?_; rintro e w11 ⟨rfl, f11⟩; have H11 : Hid (Fr [] w5 w11) := f11; clear f11))
                    go_ret
                    exact ⟨by simp, H12.out.below (by rw [HB.out.1]; exact Nat.le_refl _) (by simp)⟩
end Go.Proofs.Ythdhegmlknpllaa
