/-
  The walk of Whole (6).
-/
import Derived.Test.YthdhegmlknpllaaWhr
namespace Go.Proofs.Ythdhegmlknpllaa
open Go.RowKit Go.Maps Go.MuLone

set_option maxRecDepth 100000 in
set_option maxHeartbeats 6400000 in
theorem whole_any (id blocks many hold mark : Int) (ao : Option Addr) (zw : List Int) (cap : Nat) (w : World) (hi : In64 id) (hb : In64 blocks) (h3 : In64 many) (h4 : In64 hold) (h5 : In64 mark) (hr : RowB w.heap.size w ao zw cap) (hz : Bnd zw) :
    Calls Try.prog 6 #[.int .i64 id, .int .i64 blocks, .int .i64 many, .int .i64 hold, .slice ao zw.length cap, .int .i64 mark] w fun e w' => e = .returned (.bool true) ∧ Below w.heap.size w w' := by
  obtain ⟨i0, hi0, hz0, hz1, hz2⟩ := info_parts info3
  have HS := store_any id blocks w hi hb
  have HP : Hid (∀ W, Calls Try.prog 15 #[.int .i64 many, .int .i64 12] W fun e w' => e = .returned (.int .i64 (pk many 12)) ∧ w' = W) := fun W => pick_any many 12 W h3 (by omega) (by omega)
  have p1 := pk_lt many 12 (by omega)
  obtain ⟨M, hM⟩ : ∃ M : Nat, 1 + pk many 12 = (M : Int) := ⟨(1 + pk many 12).toNat, by omega⟩
  have hM1 : 1 ≤ M ∧ M ≤ 12 := by omega
  have hid := idOf_ok id
  have hn := nOf_ok blocks
  obtain ⟨y, hy⟩ : ∃ y, pk many 12 = y := ⟨_, rfl⟩
  obtain ⟨n, hnn⟩ : ∃ n, nOf blocks = n := ⟨_, rfl⟩
  obtain ⟨d, hd⟩ : ∃ d, idOf id = d := ⟨_, rfl⟩
  rw [hy] at HP p1 hM
  rw [hnn] at HS hn
  rw [hd] at HS hid
  obtain ⟨B, hB⟩ : ∃ B, w.heap.size = B := ⟨_, rfl⟩
  have HB : Hid (B = w.heap.size ∧ RowB B w ao zw cap ∧ Bnd zw) := ⟨hB.symm, by rw [← hB]; exact hr, hz⟩
  rw [hB] at HS ⊢
  have q1 : IntKind.i64.wrap (1 + y) = (M : Int) := by rw [hM]; exact wrap_fit ⟨by omega, by omega⟩
  have hp1 := pk_lt hold M (by omega)
  have hp2 := pk_lt mark M (by omega)
  obtain ⟨hh, hhe⟩ : ∃ hh : Nat, pk hold M = (hh : Int) := ⟨(pk hold M).toNat, by omega⟩
  obtain ⟨mi, hme⟩ : ∃ mi : Nat, pk mark M = (mi : Int) := ⟨(pk mark M).toNat, by omega⟩
  have HPh : Hid (∀ W, Calls Try.prog 15 #[.int .i64 hold, .int .i64 M] W fun e w' => e = .returned (.int .i64 hh) ∧ w' = W) := fun W => by
    have := pick_any hold M W h4 (by omega) (by omega)
    rw [hhe] at this
    exact this
  have HPm : Hid (∀ W, Calls Try.prog 15 #[.int .i64 mark, .int .i64 M] W fun e w' => e = .returned (.int .i64 mi) ∧ w' = W) := fun W => by
    have := pick_any mark M W h5 (by omega) (by omega)
    rw [hme] at this
    exact this
  have hhM : hh < M := by omega
  have hmM : mi < M := by omega
  have hcap := hr.1
  clear hy hnn hd hB hr hM hhe hme hp1 hp2 hz h3 h4 h5 hi hb p1
  go_enter Try.func6, Try.ntmps6
  go_wp2_with (first
    | (go_at_call 19; refine HS.mono ?_; rintro e w1 ⟨b, vb, mb, lv0, rfl, r1, f1⟩
       have H0 : Hid (WA B b w w1 d n 0 (.slice none 0 0)) := ⟨Sto.made d n vb mb lv0, r1, Inv.made' d n vb mb lv0, rfl, fun x hx => by simp [Sto.made, Sto.noted, Sto.fresh] at hx, f1, World.ownsRow_nil _ _ _ _⟩
       clear r1 f1))
  go_loopw [14, 15] (fun vg i' wr => ∃ k : Nat, k ≤ M ∧ i' = .int .i64 k ∧ Hid (WA B b w wr d n k vg)) (fun _ i' _ => M - (intOf i').toNat)
  case atStart => exact ⟨0, Nat.zero_le _, rfl, H0⟩
  case round =>
    obtain ⟨k, hk, rfl, HK⟩ := hrel
    obtain ⟨W3, hW3⟩ : ∃ W3, W3 = wr := ⟨_, rfl⟩
    subst hW3
    clear H0 HS
    obtain ⟨s, hR, hI, hmv, hhd, hF, hO⟩ := HK.out
    obtain ⟨la, lc, hsh⟩ := own_shape hO
    subst hsh
    have HW : Hid (Rep B W3 b 0 s ∧ InvI s d n k ∧ s.mv = .slice none 0 0 ∧ (∀ x ∈ s.ss, x.holds = 0) ∧ Fr [] w W3 ∧ W3.ownsRow B 3 1 (.slice la k lc) k (i1C (lst d k))) := ⟨hR, hI, hmv, hhd, hF, hO⟩
    clear hR hI hmv hhd hF hO HK
    by_cases hlt : k < M
    · have hltz : (k : Int) < (M : Int) := by omega
      have HSn : Hid (Calls Try.prog 24 #[.pointer (some ⟨b, 0, none⟩), .int .i64 k] W3 fun e w' => e = .returned (.tuple #[.int .i64 (gd d k), .int .i64 0]) ∧ ∃ sv lv, Rep B w' b 0 ((s.snap k sv).noted 83 (n4 k).ba lv) ∧ Fr (foot b s) W3 w' ∧ (∀ k, sv.ownBlock = some k → s.sv.ownBlock = some k ∨ W3.heap.size ≤ k) ∧ (∀ k, lv.ownBlock = some k → s.lv.ownBlock = some k ∨ W3.heap.size ≤ k)) := by
        have I := HW.out.2.1
        have e : gu s (s.taken + 1) = gd d k := by unfold gu gd; rw [I.id, I.tk]
        have := snap_ok B b s k W3 HW.out.1 ⟨by omega, by omega⟩ (by rw [I.id]; exact hid) (by rw [I.tk]; omega) I.free (by rw [I.ss]; omega) (by rw [I.ms]; simp) (by rw [I.cm]; omega) (by rw [I.vol]; exact hn.2) (by rw [I.vol]; have := I.cnt; unfold maxLen; omega) (by have := I.lg; omega)
        rw [e] at this
        exact this
      obtain ⟨g, hg⟩ : ∃ g, gd d k = g := ⟨_, rfl⟩
      have HG : Hid (gd d k = g) := hg
      rw [hg] at HSn
      clear hg
      go_wp2_with (first
        | (go_at_call 15; refine (HP.out _).mono ?_; rintro e w' ⟨rfl, hw'⟩; have hw' := hw'.symm; subst hw')
        | (go_at_call 24; refine HSn.out.mono ?_; rintro e w4 ⟨rfl, sv, lv, r4, f4, a4⟩
           have H4 : Hid (Rep B w4 b 0 ((s.snap k sv).noted 83 (n4 k).ba lv) ∧ InvI ((s.snap k sv).noted 83 (n4 k).ba lv) d n (k + 1) ∧ ((s.snap k sv).noted 83 (n4 k).ba lv).mv = .slice none 0 0 ∧ (∀ x ∈ ((s.snap k sv).noted 83 (n4 k).ba lv).ss, x.holds = 0) ∧ Fr [] w w4 ∧ w4.ownsRow B 3 1 (.slice la k lc) k (i1C (lst d k))) := by
             refine ⟨r4, HW.out.2.1.snap hn.2 (by omega) k ⟨by omega, by omega⟩ sv lv, HW.out.2.2.1, fun x hx => ?_, HW.out.2.2.2.2.1.trans f4 (fun j hj => Or.inr (by rw [← HB.out.1]; exact (HW.out.1.lt j hj).1)), own_fr HW.out.2.2.2.2.2 f4 (own_foot HW.out.1 HW.out.2.2.2.2.2 (by decide))⟩
             simp only [Sto.noted, Sto.snap, Sto.add, List.mem_append, List.mem_singleton] at hx
             rcases hx with hx | rfl
             · exact HW.out.2.2.2.1 x hx
             · rfl
           have hBW : B ≤ w4.heap.size := by rw [HB.out.1]; exact H4.out.2.2.2.2.1.size
           clear r4 f4 a4)
        | (at_builtin; refine wpList_append_own _ rfl _ _ 22 rfl B 3 i0 _ 1 8 Try.underlying22 hi0 hz0 hz1 hz2 rfl (by omega) (.slice la k lc) k (i1C (lst d k)) rfl (H4.out.2.2.2.2.2.alloc _) ⟨w4.heap.size, 0, none⟩ 1 1 [.int .i64 g] rfl (by simp) (World.news_of_block (cs := #[.int .i64 g]) (t := 3) (fr := (0, 0)) (heap_alloc_new w4 _)) (by simp [Value.oneCell']) (by unfold maxLen; omega) (by omega) (by simp; omega) ?_; intro v9 w9 hown9 hgrow9 hne9
           have H9 : Hid (WA B b w w9 d n (k + 1) v9) := by
             obtain ⟨r4, i4, mv4, hd4, f4, o4⟩ := H4.out
             have f9 : Fr (Value.slice la k lc).ownBlock.toList w4 w9 := ((Fr.refl _ _).alloc _).grown hgrow9 (fun x hx => Or.inl (by simp [hx]))
             refine ⟨(s.snap k sv).noted 83 (n4 k).ba lv, r4.kept f9 (fun x hx hm => own_foot r4 o4 (by decide) x (by simpa using hm) hx), i4, mv4, hd4, f4.trans f9 (fun x hx => Or.inr (by rw [← HB.out.1]; exact (o4.lt x (by simpa using hx)).1)), ?_⟩
             rw [lst_succ, HG.out]
             exact hown9
           clear hown9 hgrow9 hne9))
      go_roundw
      case rel => exact ⟨k + 1, by omega, by go_num, H9⟩
      case measure => simp [intOf]; omega
    · have hkk : k = M := by omega
      subst hkk
      have hrl := own_rowG (lst_len d k) HW.out.2.2.2.2.2
      obtain ⟨lb, lo, hla, hlc⟩ := hrl.2 (by rw [lst_len]; omega)
      subst hla
      have hlcap := hrl.1
      rw [lst_len] at hlc hlcap
      have dh := hlc hh hhM
      have dm := hlc mi hmM
      rw [lst_tm d k hh hhM] at dh
      rw [lst_tm d k mi hmM] at dm
      have I := HW.out.2.1
      have hgs : ∀ j (h : j < s.ss.length), s.ss[j].guid = gd d j := I.gd
      obtain ⟨x, hx⟩ : ∃ x, s.ss[hh]? = some x := ⟨_, List.getElem?_eq_getElem (by rw [I.ss]; exact hhM)⟩
      have hx0 : x.holds = 0 := HW.out.2.2.2.1 x (List.mem_of_getElem? hx)
      have HHo := hold_ok B b s (gd d hh) hh x W3 HW.out.1 (by rw [I.ss]; omega) (wi_find I.ss hgs hhM) hx (by omega) (by have := I.lg; omega)
      have hgs1 : ∀ j (h : j < (s.setH hh x (x.holds + 1)).ss.length), (s.setH hh x (x.holds + 1)).ss[j].guid = gd d j := fun j h => by
        rw [setH_guid hx j h]; exact hgs j _
      have hl1 : (s.setH hh x (x.holds + 1)).ss.length = k := by simp [Sto.setH, I.ss]
      obtain ⟨x1, hx1⟩ : ∃ x1, (s.setH hh x (x.holds + 1)).ss[mi]? = some x1 := ⟨_, List.getElem?_eq_getElem (by rw [hl1]; exact hmM)⟩
      have HMa : Hid (∀ W lv1, Rep B W b 0 ((s.setH hh x (x.holds + 1)).noted 72 (n4 (gd d hh)).ba lv1) → _) := fun W lv1 hW => mark_ok B b ((s.setH hh x (x.holds + 1)).noted 72 (n4 (gd d hh)).ba lv1) (gd d mi) mi x1 W hW (by show (s.setH hh x (x.holds + 1)).ss.length ≤ 12; rw [hl1]; omega) (wi_find (s := (s.setH hh x (x.holds + 1)).noted 72 (n4 (gd d hh)).ba lv1) hl1 hgs1 hmM) hx1 I.ms HW.out.2.2.1 (by
        have := I.lg
        show (s.log ++ entry 72 (n4 (gd d hh)).ba).length ≤ _
        have e : (entry 72 (n4 (gd d hh)).ba).length = 6 := rfl
        rw [List.length_append, e]
        omega)
      have HWI : Hid (∀ c mv lv1 lv2, WI ((((s.setH hh x (x.holds + 1)).noted 72 (n4 (gd d hh)).ba lv1).mark1 (gd d mi) c mv).noted 77 (n4 (gd d mi)).ba lv2) d k hh (gd d mi)) := fun c mv lv1 lv2 => wi_of I (by omega) hn.2 HW.out.2.2.2.1 hx (gd d mi) c (gd d hh) mv lv1 lv2
      obtain ⟨gh, hgh⟩ : ∃ gh, gd d hh = gh := ⟨_, rfl⟩
      obtain ⟨gm, hgm⟩ : ∃ gm, gd d mi = gm := ⟨_, rfl⟩
      have HGH : Hid (gd d hh = gh ∧ gd d mi = gm) := ⟨hgh, hgm⟩
      rw [hgh] at dh HHo HMa HWI
      rw [hgm] at dm HMa HWI
      clear hrl hlc I hgs hx hx0 hgs1 hl1 hx1 hgh hgm
      have hhz : (hh : Int) < (k : Int) := by omega
      have hmz : (mi : Int) < (k : Int) := by omega
      go_wp2_with (first
        | (go_at_call_of 15 (Value.int .i64 many); refine (HP.out _).mono ?_; rintro e w' ⟨rfl, hw'⟩; have hw' := hw'.symm; subst hw')
        | (go_at_call_of 15 (Value.int .i64 hold); refine (HPh.out _).mono ?_; rintro e w' ⟨rfl, hw'⟩; have hw' := hw'.symm; subst hw')
        | (go_at_call_of 15 (Value.int .i64 mark); refine (HPm.out _).mono ?_; rintro e w' ⟨rfl, hw'⟩; have hw' := hw'.symm; subst hw')
        | (go_at_call 25; refine HHo.mono ?_; rintro e w4 ⟨rfl, lv1, r4, f4, _⟩
           have H4 : Hid (Rep B w4 b 0 ((s.setH hh x (x.holds + 1)).noted 72 (n4 gh).ba lv1) ∧ Fr [] w w4 ∧ w4.ownsRow B 3 1 (.slice (some ⟨lb, lo, none⟩) k lc) k (i1C (lst d k))) := ⟨r4, HW.out.2.2.2.2.1.trans f4 (fun j hj => Or.inr (by rw [← HB.out.1]; exact (HW.out.1.lt j hj).1)), own_fr HW.out.2.2.2.2.2 f4 (own_foot HW.out.1 HW.out.2.2.2.2.2 (by decide))⟩
           clear r4 f4)
        | (go_at_call 26; refine (HMa.out _ _ H4.out.1).mono ?_; rintro e w5 ⟨rfl, mv5, lv2, r5, f5, a5⟩
           have H5 : Hid (WB B b w w5 d k hh mi (.slice (some ⟨lb, lo, none⟩) k lc) ((((s.setH hh x (x.holds + 1)).noted 72 (n4 gh).ba lv1).mark1 gm x1.came mv5).noted 77 (n4 gm).ba lv2)) := by
             refine ⟨r5, ?_, by simp [Sto.noted, Sto.mark1], H4.out.2.1.trans f5 (fun j hj => Or.inr (by rw [← HB.out.1]; exact (H4.out.1.lt j hj).1)), own_fr H4.out.2.2 f5 (own_foot H4.out.1 H4.out.2.2 (by decide))⟩
             rw [HGH.out.2]
             exact HWI.out x1.came mv5 lv1 lv2
           clear r5 f5 a5))
      obtain ⟨s2, hs2⟩ : ∃ s2, (((s.setH hh x (x.holds + 1)).noted 72 (n4 gh).ba lv1).mark1 gm x1.came mv5).noted 77 (n4 gm).ba lv2 = s2 := ⟨_, rfl⟩
      rw [hs2] at H5
      clear hs2 HMa HHo HWI H4 HW dh dm
      obtain ⟨C, hC⟩ : ∃ C, w5.heap.size = C := ⟨_, rfl⟩
      have HC : Hid (w5.heap.size = C) := hC
      clear hC
      go_loopw [22, 23, 24, 25] (fun vz tw hd i' wr => ∃ (q : Nat) (zs : List Int) (ct ch : Bool), q ≤ 8 ∧ q ≤ zw.length ∧ i' = .int .i64 q ∧ tw = .bool ct ∧ hd = .bool ch ∧ Hid (zs.length = q ∧ Ours d k zs ∧ ct = dupB zs ∧ ch = (zs.any fun g => g == gh) ∧ Fr [] w5 wr ∧ wr.ownsRow C 3 1 vz q (i1C zs))) (fun _ _ _ i' _ => 8 - (intOf i').toNat)
      case atStart => exact ⟨0, [], false, false, Nat.zero_le _, Nat.zero_le _, rfl, rfl, rfl, rfl, fun j hj => by simp at hj, rfl, rfl, Fr.refl _ _, World.ownsRow_nil _ _ _ _⟩
      case round =>
        obtain ⟨q, zs, ct, ch, hq8, hqz, rfl, rfl, rfl, HQ⟩ := hrel
        obtain ⟨W6, hW6⟩ : ∃ W6, W6 = wr := ⟨_, rfl⟩
        subst hW6
        obtain ⟨za, zc, hsh⟩ := own_shape HQ.out.2.2.2.2.2
        subst hsh
        have H6 : Hid (WB B b w W6 d k hh mi (.slice (some ⟨lb, lo, none⟩) k lc) s2) := H5.out.step0 HQ.out.2.2.2.2.1
        by_cases hlq : q < zw.length
        · by_cases hl8 : q < 8
          · have hqz1 : (q : Int) < (zw.length : Int) := by omega
            have hqz2 : (q : Int) < 8 := by omega
            obtain ⟨rb, off, hao, hrb, hcw⟩ := (HB.out.2.1.fr H6.out.2.2.2.1 (by simp)).2 (by omega)
            subst hao
            have d1 := hcw q hlq
            have hin := HB.out.2.2 q hlq
            obtain ⟨t, ht⟩ : ∃ t, tm zw q = t := ⟨_, rfl⟩
            rw [ht] at d1 hin
            have hpt := pk_lt t k (by omega)
            obtain ⟨ix, hix⟩ : ∃ ix : Nat, pk t k = (ix : Int) := ⟨(pk t k).toNat, by omega⟩
            have HPt : Hid (∀ W, Calls Try.prog 15 #[.int .i64 t, .int .i64 k] W fun e w' => e = .returned (.int .i64 ix) ∧ w' = W) := fun W => by
              have := pick_any t k W hin (by omega) (by omega)
              rw [hix] at this
              exact this
            have hixk : ix < k := by omega
            have hixz : (ix : Int) < (k : Int) := by omega
            have hrl := own_rowG (lst_len d k) H6.out.2.2.2.2
            obtain ⟨lb', lo', hla', hlc'⟩ := hrl.2 (by rw [lst_len]; omega)
            have hll : lb = lb' ∧ lo = lo' := by simpa using hla'
            rw [← hll.1, ← hll.2] at hlc'
            have d2 := hlc' ix (by rw [lst_len]; exact hixk)
            rw [lst_tm d k ix hixk] at d2
            obtain ⟨g, hg⟩ : ∃ g, gd d ix = g := ⟨_, rfl⟩
            have HGx : Hid (gd d ix = g) := hg
            rw [hg] at d2
            clear hcw hin ht hix hpt hrl hla' hlc' hll hg lb' lo'
            go_wp2_with (go_at_call 15; refine (HPt.out _).mono ?_; rintro e w' ⟨rfl, hw'⟩; have hw' := hw'.symm; subst hw')
            have hrz := own_rowG HQ.out.1 HQ.out.2.2.2.2.2
            have HRZ : Hid (RowG W6 za zs zc) := hrz
            have hzcap := hrz.1
            rw [HQ.out.1] at hzcap
            clear hrz d1 d2
            go_loop [23, 27] (fun tw i' => ∃ (j : Nat) (c : Bool), j ≤ q ∧ i' = .int .i64 j ∧ tw = .bool c ∧ Hid (c = (dupB zs || (zs.take j).any fun x => x == g))) (fun _ i' => q - (intOf i').toNat)
            case atStart => exact ⟨0, ct, Nat.zero_le _, rfl, rfl, by show _ = _; rw [HQ.out.2.2.1]; simp⟩
            case round =>
              obtain ⟨j, c, hj, rfl, rfl, HJ⟩ := hrel
              by_cases hjq : j < q
              · obtain ⟨zb, zo, hza, hzc⟩ := HRZ.out.2 (by rw [HQ.out.1]; omega)
                subst hza
                have dz := hzc j (by rw [HQ.out.1]; exact hjq)
                obtain ⟨z, hz'⟩ : ∃ z, tm zs j = z := ⟨_, rfl⟩
                rw [hz'] at dz
                have hjz : (j : Int) < (q : Int) := by omega
                have HJ2 : Hid ((c || (z == g)) = (dupB zs || (zs.take (j + 1)).any fun x => x == g)) := by
                  show _ = _
                  have hjl : j < zs.length := by rw [HQ.out.1]; exact hjq
                  rw [List.take_succ_eq_append_getElem hjl, List.any_append, HJ.out, ← tm_get zs j hjl, hz']
                  simp [Bool.or_assoc]
                clear hzc hz'
                cases c
                · cases hzg : (z == g)
                  · rw [hzg] at HJ2
                    go_wp2
                    go_round
                    case rel => exact ⟨j + 1, false, by omega, by go_num, by first | rfl | trivial, HJ2⟩
                    case measure => simp [intOf]; omega
                  · rw [hzg] at HJ2
                    go_wp2
                    go_round
                    case rel => exact ⟨j + 1, true, by omega, by go_num, by first | rfl | trivial, HJ2⟩
                    case measure => simp [intOf]; omega
                · go_wp2
                  go_round
                  case rel => exact ⟨j + 1, true, by omega, by go_num, by first | rfl | trivial, by rw [Bool.true_or] at HJ2; exact HJ2⟩
                  case measure => simp [intOf]; omega
              · have hjj : j = q := by omega
                subst hjj
                have HD : Hid (c = dupB (zs ++ [g])) := by
                  show _ = _
                  rw [dupB_push, HJ.out, ← HQ.out.1, List.take_length]
                have HHd : Hid ((ch || (g == gh)) = ((zs ++ [g]).any fun g => g == gh)) := by
                  show _ = _
                  rw [List.any_append, HQ.out.2.2.2.1]
                  simp
                have HOz : Hid (W6.ownsRow C 3 1 (.slice za j zc) j (i1C zs)) := HQ.out.2.2.2.2.2
                have hCW : C ≤ W6.heap.size := by rw [← HC.out]; exact HQ.out.2.2.2.2.1.size
                have HNx : Hid (∀ v9 w9 ch', w9.ownsRow C 3 1 v9 (j + 1) (i1C zs ++ [.int .i64 g]) → (W6.alloc (.cells #[.int .i64 g] 3)).grownBy w9 (Value.slice za j zc).ownBlock → ch' = ((zs ++ [g]).any fun g => g == gh) → ((zs ++ [g]).length = j + 1 ∧ Ours d k (zs ++ [g]) ∧ c = dupB (zs ++ [g]) ∧ ch' = ((zs ++ [g]).any fun g => g == gh) ∧ Fr [] w5 w9 ∧ w9.ownsRow C 3 1 v9 (j + 1) (i1C (zs ++ [g])))) := fun v9 w9 ch' ho9 hg9 hch => by
                  refine ⟨by simp [HQ.out.1], ?_, HD.out, hch, ?_, by rw [i1C_push]; exact ho9⟩
                  · rw [← HGx.out]
                    exact HQ.out.2.1.push hixk
                  · exact (HQ.out.2.2.2.2.1.alloc _).grown hg9 (fun x hx => Or.inr (by rw [HC.out]; exact (HOz.out.lt x hx).1))
                clear HJ HD
                cases ch
                · cases hgg : (g == gh)
                  · rw [hgg] at HHd
                    go_wp2_with (first
                      | (at_builtin; refine wpList_append_own _ rfl _ _ 22 rfl C 3 i0 _ 1 8 Try.underlying22 hi0 hz0 hz1 hz2 rfl (by omega) (.slice za j zc) j (i1C zs) rfl (HOz.out.alloc _) ⟨W6.heap.size, 0, none⟩ 1 1 [.int .i64 g] rfl (by simp) (World.news_of_block (cs := #[.int .i64 g]) (t := 3) (fr := (0, 0)) (heap_alloc_new W6 _)) (by simp [Value.oneCell']) (by unfold maxLen; omega) (by omega) (by simp; omega) ?_; intro v9 w9 hown9 hgrow9 hne9
                         have H9 : Hid _ := HNx.out v9 w9 false hown9 hgrow9 HHd.out
                         clear hown9 hgrow9 hne9))
                    go_roundw
                    case rel => exact ⟨j + 1, zs ++ [g], c, false, by omega, by omega, by go_num, by first | rfl | trivial, by first | rfl | trivial, H9.out⟩
                    case measure => simp [intOf]; omega
                  · rw [hgg] at HHd
                    go_wp2_with (first
                      | (at_builtin; refine wpList_append_own _ rfl _ _ 22 rfl C 3 i0 _ 1 8 Try.underlying22 hi0 hz0 hz1 hz2 rfl (by omega) (.slice za j zc) j (i1C zs) rfl (HOz.out.alloc _) ⟨W6.heap.size, 0, none⟩ 1 1 [.int .i64 g] rfl (by simp) (World.news_of_block (cs := #[.int .i64 g]) (t := 3) (fr := (0, 0)) (heap_alloc_new W6 _)) (by simp [Value.oneCell']) (by unfold maxLen; omega) (by omega) (by simp; omega) ?_; intro v9 w9 hown9 hgrow9 hne9
                         have H9 : Hid _ := HNx.out v9 w9 true hown9 hgrow9 HHd.out
                         clear hown9 hgrow9 hne9))
                    go_roundw
                    case rel => exact ⟨j + 1, zs ++ [g], c, true, by omega, by omega, by go_num, by first | rfl | trivial, by first | rfl | trivial, H9.out⟩
                    case measure => simp [intOf]; omega
                · rw [Bool.true_or] at HHd
                  go_wp2_with (first
                    | (at_builtin; refine wpList_append_own _ rfl _ _ 22 rfl C 3 i0 _ 1 8 Try.underlying22 hi0 hz0 hz1 hz2 rfl (by omega) (.slice za j zc) j (i1C zs) rfl (HOz.out.alloc _) ⟨W6.heap.size, 0, none⟩ 1 1 [.int .i64 g] rfl (by simp) (World.news_of_block (cs := #[.int .i64 g]) (t := 3) (fr := (0, 0)) (heap_alloc_new W6 _)) (by simp [Value.oneCell']) (by unfold maxLen; omega) (by omega) (by simp; omega) ?_; intro v9 w9 hown9 hgrow9 hne9
                       have H9 : Hid _ := HNx.out v9 w9 true hown9 hgrow9 HHd.out
                       clear hown9 hgrow9 hne9))
                  go_roundw
                  case rel => exact ⟨j + 1, zs ++ [g], c, true, by omega, by omega, by go_num, by first | rfl | trivial, by first | rfl | trivial, H9.out⟩
                  case measure => simp [intOf]; omega
          · have HOz : Hid (W6.ownsRow C 3 1 (.slice za q zc) q (i1C zs)) := HQ.out.2.2.2.2.2
            have hCW : C ≤ W6.heap.size := by rw [← HC.out]; exact HQ.out.2.2.2.2.1.size
            have HD1 : Hid (∀ W a7 c7, WB B b w W d k hh mi (.slice (some ⟨lb, lo, none⟩) k lc) s2 → W.ownsRow C 3 1 (.slice a7 (q + 1) c7) (q + 1) (i1C (zs ++ [1])) → Calls Try.prog 27 #[.pointer (some ⟨b, 0, none⟩), .slice a7 (q + 1) c7] W fun e w' => e = .returned (.int .i64 3) ∧ WB B b w w' d k hh mi (.slice (some ⟨lb, lo, none⟩) k lc) s2 ∧ Fr (foot b s2) W w') := fun W a7 c7 hW hr => des_one hW HB.out.1 hid hM1.2 HQ.out.1 (by omega) HQ.out.2.1 hr
            have HSn : Hid (∀ W, WB B b w W d k hh mi (.slice (some ⟨lb, lo, none⟩) k lc) s2 → _) := fun W hW => hW.snaps HB.out.1 hM1.2
            have HMk : Hid (∀ W, WB B b w W d k hh mi (.slice (some ⟨lb, lo, none⟩) k lc) s2 → Calls Try.prog 28 #[.pointer (some ⟨b, 0, none⟩)] W fun e w' => ∃ gg, e = .returned (.slice (some ⟨gg, 0, none⟩) 1 1) ∧ w'.cell? ⟨gg, 0, none⟩ = some (.int .i64 gm) ∧ WB B b w w' d k hh mi (.slice (some ⟨lb, lo, none⟩) k lc) s2) := fun W hW => by
              have := hW.marks HB.out.1
              rw [HGH.out.2] at this
              exact this
            have HD2 : Hid (∀ W, WB B b w W d k hh mi (.slice (some ⟨lb, lo, none⟩) k lc) s2 → W.ownsRow C 3 1 (.slice za q zc) q (i1C zs) → _) := fun W hW hr => des_zs hW HB.out.1 hid hM1.2 HQ.out.1 (by omega) HQ.out.2.1 hr
            cases ct
            · cases ch
              · have HCT : Hid (dupB zs = false ∧ (zs.any fun g => g == gd d hh) = false) := ⟨HQ.out.2.2.1.symm, by rw [HGH.out.1]; exact HQ.out.2.2.2.1.symm⟩
                have HMS : Hid (s2.ms.map Prod.fst = [gm]) := by
                  have := H6.out.2.1.ms
                  rw [HGH.out.2] at this
                  exact this
                obtain ⟨jr, xr, e1, e2, e3⟩ := rel_ready H6.out.2.1 hhM HCT.out.2
                rw [HGH.out.1] at e1
                have HRR : Hid (fi (fun y : Sn => y.guid == gh) 0 (left s2.ss zs) = (jr : Int) ∧ (left s2.ss zs)[jr]? = some xr ∧ xr.holds = 1) := ⟨e1, e2, e3⟩
                clear e1 e2 e3
                go_wp2_with (first
                  | (at_builtin; refine wpList_append_keep _ rfl _ _ 22 rfl C 3 i0 _ 1 8 Try.underlying22 hi0 hz0 hz1 hz2 rfl (by omega) (.slice za q zc) q (i1C zs) rfl (HOz.out.alloc _) ⟨W6.heap.size, 0, none⟩ 1 1 [.int .i64 1] rfl (by simp) (World.news_of_block (cs := #[.int .i64 1]) (t := 3) (fr := (0, 0)) (heap_alloc_new W6 _)) (by simp [Value.oneCell']) (by unfold maxLen; omega) (by omega) (by simp; omega) (by omega) ?_; intro v7 w7 hown7 hgrow7 hkeep7
                     obtain ⟨a7, c7, hv7⟩ := own_shape hown7
                     subst hv7
                     have H7 : Hid (WB B b w w7 d k hh mi (.slice (some ⟨lb, lo, none⟩) k lc) s2 ∧ w7.ownsRow C 3 1 (.slice a7 (q + 1) c7) (q + 1) (i1C (zs ++ [1])) ∧ w7.ownsRow C 3 1 (.slice za q zc) q (i1C zs)) := by
                       have f7 : Fr (Value.slice za q zc).ownBlock.toList W6 w7 := ((Fr.refl _ _).alloc _).grown hgrow7 (fun x hx => Or.inl (by simp [hx]))
                       refine ⟨?_, by rw [i1C_push]; exact hown7, ?_⟩
                       · refine H5.out.step0 (HQ.out.2.2.2.2.1.trans f7 (fun x hx => Or.inr ?_))
                         rw [HC.out]
                         exact (HOz.out.lt x (by simpa using hx)).1
                       · exact own_prefix (by omega) (HOz.out.alloc _) (HOz.out.alloc _) (Nat.le_refl _) (by rw [List.take_of_length_le (by rw [HOz.out.1]; exact Nat.le_refl _)]) hown7 hgrow7 (hkeep7.imp_right And.left)
                     clear hown7 hgrow7 hkeep7)
                  | (go_at_call 27; refine (HD2.out _ H9.out.1 H9.out.2).mono ?_; rintro e w10 ⟨u1, u2, u3⟩
                     obtain ⟨he, hlen, s3, b10⟩ := u3 HCT.out.1 HCT.out.2
                     subst he
                     obtain ⟨L, hL⟩ : ∃ L, (left s2.ss zs).length = L := ⟨_, rfl⟩
                     rw [hL] at hlen
                     have hL2 : L ≤ 12 := by omega
                     have H10 : Hid (WC B b w w10 k (.slice (some ⟨lb, lo, none⟩) k lc) s2 s3 zs ∧ (left s2.ss zs).length = L) := ⟨b10, hL⟩
                     have hLk : IntKind.i64.wrap ((k : Int) - (q : Int)) = (L : Int) := by rw [show (k : Int) - (q : Int) = (L : Int) by omega]; exact wrap_fit ⟨by omega, by omega⟩
                     clear b10 hL
                     clear u1 u2 u3 HD2)
                  | (go_at_call 27; refine (HD1.out _ _ _ H7.out.1 H7.out.2.1).mono ?_; rintro e w8 ⟨rfl, b8, f8⟩
                     have H8 : Hid (WB B b w w8 d k hh mi (.slice (some ⟨lb, lo, none⟩) k lc) s2 ∧ w8.ownsRow C 3 1 (.slice za q zc) q (i1C zs)) := ⟨b8, own_fr H7.out.2.2 f8 (own_foot H7.out.1.1 H7.out.2.2 (by decide))⟩
                     clear b8 f8 HD1)
                  | (go_at_call 23; refine (H10.out.1.snaps HB.out.1 H10.out.2 hL2).mono ?_; rintro e w11 ⟨g11, rfl, b11⟩
                     have H11 : Hid (WC B b w w11 k (.slice (some ⟨lb, lo, none⟩) k lc) s2 s3 zs) := b11
                     clear b11)
                  | (go_at_call 23; refine (HSn.out _ H8.out.1).mono ?_; rintro e w9 ⟨g9, rfl, b9, f9⟩
                     have H9 : Hid (WB B b w w9 d k hh mi (.slice (some ⟨lb, lo, none⟩) k lc) s2 ∧ w9.ownsRow C 3 1 (.slice za q zc) q (i1C zs)) := ⟨b9, own_fr H8.out.2 f9 (own_foot H8.out.1.1 H8.out.2 (by decide))⟩
                     clear b9 f9)
                  | (go_at_call 28; refine (H11.out.marks HB.out.1 HMS.out).mono ?_; rintro e w12 ⟨g12, rfl, c12, b12⟩
                     have H12 : Hid (WC B b w w12 k (.slice (some ⟨lb, lo, none⟩) k lc) s2 s3 zs) := b12
                     have HRl : Hid (Calls Try.prog 29 #[.pointer (some ⟨b, 0, none⟩), .int .i64 gh] w12 _) := b12.release HB.out.1 (by rw [H10.out.2]; exact hL2) HRR.out.1 HRR.out.2.1 HRR.out.2.2
                     clear b12)
                  | (go_at_call 29; refine HRl2.out.mono ?_; rintro e w14 ⟨rfl, f14⟩
                     have H14 : Hid (Fr [] w w14) := f14
                     clear f14)
                  | (go_at_call 29; refine HRl.out.mono ?_; rintro e w13 ⟨rfl, f13, c13⟩
                     have HRl2 : Hid (Calls Try.prog 29 #[.pointer (some ⟨b, 0, none⟩), .int .i64 gh] w13 _) := c13
                     clear f13 c13 HRl))
                go_ret
                exact ⟨rfl, H14.out.below (by rw [HB.out.1]; exact Nat.le_refl _) (by simp)⟩

              · have HCT : Hid (dupB zs = false ∧ (zs.any fun g => g == gd d hh) = true) := ⟨HQ.out.2.2.1.symm, by rw [HGH.out.1]; exact HQ.out.2.2.2.1.symm⟩
                go_wp2_with (first
                  | (at_builtin; refine wpList_append_keep _ rfl _ _ 22 rfl C 3 i0 _ 1 8 Try.underlying22 hi0 hz0 hz1 hz2 rfl (by omega) (.slice za q zc) q (i1C zs) rfl (HOz.out.alloc _) ⟨W6.heap.size, 0, none⟩ 1 1 [.int .i64 1] rfl (by simp) (World.news_of_block (cs := #[.int .i64 1]) (t := 3) (fr := (0, 0)) (heap_alloc_new W6 _)) (by simp [Value.oneCell']) (by unfold maxLen; omega) (by omega) (by simp; omega) (by omega) ?_; intro v7 w7 hown7 hgrow7 hkeep7
                     obtain ⟨a7, c7, hv7⟩ := own_shape hown7
                     subst hv7
                     have H7 : Hid (WB B b w w7 d k hh mi (.slice (some ⟨lb, lo, none⟩) k lc) s2 ∧ w7.ownsRow C 3 1 (.slice a7 (q + 1) c7) (q + 1) (i1C (zs ++ [1])) ∧ w7.ownsRow C 3 1 (.slice za q zc) q (i1C zs)) := by
                       have f7 : Fr (Value.slice za q zc).ownBlock.toList W6 w7 := ((Fr.refl _ _).alloc _).grown hgrow7 (fun x hx => Or.inl (by simp [hx]))
                       refine ⟨?_, by rw [i1C_push]; exact hown7, ?_⟩
                       · refine H5.out.step0 (HQ.out.2.2.2.2.1.trans f7 (fun x hx => Or.inr ?_))
                         rw [HC.out]
                         exact (HOz.out.lt x (by simpa using hx)).1
                       · exact own_prefix (by omega) (HOz.out.alloc _) (HOz.out.alloc _) (Nat.le_refl _) (by rw [List.take_of_length_le (by rw [HOz.out.1]; exact Nat.le_refl _)]) hown7 hgrow7 (hkeep7.imp_right And.left)
                     clear hown7 hgrow7 hkeep7)
                  | (go_at_call 27; refine (HD2.out _ H9.out.1 H9.out.2).mono ?_; rintro e w10 ⟨u1, u2, u3⟩
                     obtain ⟨he, b10⟩ := u2 HCT.out.1 HCT.out.2
                     subst he
                     have H10 : Hid (WB B b w w10 d k hh mi (.slice (some ⟨lb, lo, none⟩) k lc) s2) := b10
                     clear b10
                     clear u1 u2 u3 HD2)
                  | (go_at_call 27; refine (HD1.out _ _ _ H7.out.1 H7.out.2.1).mono ?_; rintro e w8 ⟨rfl, b8, f8⟩
                     have H8 : Hid (WB B b w w8 d k hh mi (.slice (some ⟨lb, lo, none⟩) k lc) s2 ∧ w8.ownsRow C 3 1 (.slice za q zc) q (i1C zs)) := ⟨b8, own_fr H7.out.2.2 f8 (own_foot H7.out.1.1 H7.out.2.2 (by decide))⟩
                     clear b8 f8 HD1)
                  | (go_at_call 23; refine (HSn.out _ H10.out).mono ?_; rintro e w11 ⟨g11, rfl, b11, f11⟩
                     have H11 : Hid (WB B b w w11 d k hh mi (.slice (some ⟨lb, lo, none⟩) k lc) s2) := b11
                     clear b11 f11)
                  | (go_at_call 23; refine (HSn.out _ H8.out.1).mono ?_; rintro e w9 ⟨g9, rfl, b9, f9⟩
                     have H9 : Hid (WB B b w w9 d k hh mi (.slice (some ⟨lb, lo, none⟩) k lc) s2 ∧ w9.ownsRow C 3 1 (.slice za q zc) q (i1C zs)) := ⟨b9, own_fr H8.out.2 f9 (own_foot H8.out.1.1 H8.out.2 (by decide))⟩
                     clear b9 f9)
                  | (go_at_call 28; refine (HMk.out _ H11.out).mono ?_; rintro e w12 ⟨g12, rfl, c12, b12⟩
                     have H12 : Hid (Fr [] w w12) := b12.2.2.2.1
                     clear b12))
                go_ret
                exact ⟨rfl, H12.out.below (by rw [HB.out.1]; exact Nat.le_refl _) (by simp)⟩

            · have HCT : Hid (dupB zs = true) := HQ.out.2.2.1.symm
              go_wp2_with (first
                | (at_builtin; refine wpList_append_keep _ rfl _ _ 22 rfl C 3 i0 _ 1 8 Try.underlying22 hi0 hz0 hz1 hz2 rfl (by omega) (.slice za q zc) q (i1C zs) rfl (HOz.out.alloc _) ⟨W6.heap.size, 0, none⟩ 1 1 [.int .i64 1] rfl (by simp) (World.news_of_block (cs := #[.int .i64 1]) (t := 3) (fr := (0, 0)) (heap_alloc_new W6 _)) (by simp [Value.oneCell']) (by unfold maxLen; omega) (by omega) (by simp; omega) (by omega) ?_; intro v7 w7 hown7 hgrow7 hkeep7
                   obtain ⟨a7, c7, hv7⟩ := own_shape hown7
                   subst hv7
                   have H7 : Hid (WB B b w w7 d k hh mi (.slice (some ⟨lb, lo, none⟩) k lc) s2 ∧ w7.ownsRow C 3 1 (.slice a7 (q + 1) c7) (q + 1) (i1C (zs ++ [1])) ∧ w7.ownsRow C 3 1 (.slice za q zc) q (i1C zs)) := by
                     have f7 : Fr (Value.slice za q zc).ownBlock.toList W6 w7 := ((Fr.refl _ _).alloc _).grown hgrow7 (fun x hx => Or.inl (by simp [hx]))
                     refine ⟨?_, by rw [i1C_push]; exact hown7, ?_⟩
                     · refine H5.out.step0 (HQ.out.2.2.2.2.1.trans f7 (fun x hx => Or.inr ?_))
                       rw [HC.out]
                       exact (HOz.out.lt x (by simpa using hx)).1
                     · exact own_prefix (by omega) (HOz.out.alloc _) (HOz.out.alloc _) (Nat.le_refl _) (by rw [List.take_of_length_le (by rw [HOz.out.1]; exact Nat.le_refl _)]) hown7 hgrow7 (hkeep7.imp_right And.left)
                   clear hown7 hgrow7 hkeep7)
                | (go_at_call 27; refine (HD2.out _ H9.out.1 H9.out.2).mono ?_; rintro e w10 ⟨u1, u2, u3⟩
                   obtain ⟨he, b10⟩ := u1 HCT.out
                   subst he
                   have H10 : Hid (WB B b w w10 d k hh mi (.slice (some ⟨lb, lo, none⟩) k lc) s2) := b10
                   clear b10
                   clear u1 u2 u3 HD2)
                | (go_at_call 27; refine (HD1.out _ _ _ H7.out.1 H7.out.2.1).mono ?_; rintro e w8 ⟨rfl, b8, f8⟩
                   have H8 : Hid (WB B b w w8 d k hh mi (.slice (some ⟨lb, lo, none⟩) k lc) s2 ∧ w8.ownsRow C 3 1 (.slice za q zc) q (i1C zs)) := ⟨b8, own_fr H7.out.2.2 f8 (own_foot H7.out.1.1 H7.out.2.2 (by decide))⟩
                   clear b8 f8 HD1)
                | (go_at_call 23; refine (HSn.out _ H10.out).mono ?_; rintro e w11 ⟨g11, rfl, b11, f11⟩
                   have H11 : Hid (WB B b w w11 d k hh mi (.slice (some ⟨lb, lo, none⟩) k lc) s2) := b11
                   clear b11 f11)
                | (go_at_call 23; refine (HSn.out _ H8.out.1).mono ?_; rintro e w9 ⟨g9, rfl, b9, f9⟩
                   have H9 : Hid (WB B b w w9 d k hh mi (.slice (some ⟨lb, lo, none⟩) k lc) s2 ∧ w9.ownsRow C 3 1 (.slice za q zc) q (i1C zs)) := ⟨b9, own_fr H8.out.2 f9 (own_foot H8.out.1.1 H8.out.2 (by decide))⟩
                   clear b9 f9)
                | (go_at_call 28; refine (HMk.out _ H11.out).mono ?_; rintro e w12 ⟨g12, rfl, c12, b12⟩
                   have H12 : Hid (Fr [] w w12) := b12.2.2.2.1
                   clear b12))
              go_ret
              exact ⟨rfl, H12.out.below (by rw [HB.out.1]; exact Nat.le_refl _) (by simp)⟩
        · have HOz : Hid (W6.ownsRow C 3 1 (.slice za q zc) q (i1C zs)) := HQ.out.2.2.2.2.2
          have hCW : C ≤ W6.heap.size := by rw [← HC.out]; exact HQ.out.2.2.2.2.1.size
          have HD1 : Hid (∀ W a7 c7, WB B b w W d k hh mi (.slice (some ⟨lb, lo, none⟩) k lc) s2 → W.ownsRow C 3 1 (.slice a7 (q + 1) c7) (q + 1) (i1C (zs ++ [1])) → Calls Try.prog 27 #[.pointer (some ⟨b, 0, none⟩), .slice a7 (q + 1) c7] W fun e w' => e = .returned (.int .i64 3) ∧ WB B b w w' d k hh mi (.slice (some ⟨lb, lo, none⟩) k lc) s2 ∧ Fr (foot b s2) W w') := fun W a7 c7 hW hr => des_one hW HB.out.1 hid hM1.2 HQ.out.1 (by omega) HQ.out.2.1 hr
          have HSn : Hid (∀ W, WB B b w W d k hh mi (.slice (some ⟨lb, lo, none⟩) k lc) s2 → _) := fun W hW => hW.snaps HB.out.1 hM1.2
          have HMk : Hid (∀ W, WB B b w W d k hh mi (.slice (some ⟨lb, lo, none⟩) k lc) s2 → Calls Try.prog 28 #[.pointer (some ⟨b, 0, none⟩)] W fun e w' => ∃ gg, e = .returned (.slice (some ⟨gg, 0, none⟩) 1 1) ∧ w'.cell? ⟨gg, 0, none⟩ = some (.int .i64 gm) ∧ WB B b w w' d k hh mi (.slice (some ⟨lb, lo, none⟩) k lc) s2) := fun W hW => by
            have := hW.marks HB.out.1
            rw [HGH.out.2] at this
            exact this
          have HD2 : Hid (∀ W, WB B b w W d k hh mi (.slice (some ⟨lb, lo, none⟩) k lc) s2 → W.ownsRow C 3 1 (.slice za q zc) q (i1C zs) → _) := fun W hW hr => des_zs hW HB.out.1 hid hM1.2 HQ.out.1 (by omega) HQ.out.2.1 hr
          cases ct
          · cases ch
            · have HCT : Hid (dupB zs = false ∧ (zs.any fun g => g == gd d hh) = false) := ⟨HQ.out.2.2.1.symm, by rw [HGH.out.1]; exact HQ.out.2.2.2.1.symm⟩
              have HMS : Hid (s2.ms.map Prod.fst = [gm]) := by
                have := H6.out.2.1.ms
                rw [HGH.out.2] at this
                exact this
              obtain ⟨jr, xr, e1, e2, e3⟩ := rel_ready H6.out.2.1 hhM HCT.out.2
              rw [HGH.out.1] at e1
              have HRR : Hid (fi (fun y : Sn => y.guid == gh) 0 (left s2.ss zs) = (jr : Int) ∧ (left s2.ss zs)[jr]? = some xr ∧ xr.holds = 1) := ⟨e1, e2, e3⟩
              clear e1 e2 e3
              go_wp2_with (first
                | (at_builtin; refine wpList_append_keep _ rfl _ _ 22 rfl C 3 i0 _ 1 8 Try.underlying22 hi0 hz0 hz1 hz2 rfl (by omega) (.slice za q zc) q (i1C zs) rfl (HOz.out.alloc _) ⟨W6.heap.size, 0, none⟩ 1 1 [.int .i64 1] rfl (by simp) (World.news_of_block (cs := #[.int .i64 1]) (t := 3) (fr := (0, 0)) (heap_alloc_new W6 _)) (by simp [Value.oneCell']) (by unfold maxLen; omega) (by omega) (by simp; omega) (by omega) ?_; intro v7 w7 hown7 hgrow7 hkeep7
                   obtain ⟨a7, c7, hv7⟩ := own_shape hown7
                   subst hv7
                   have H7 : Hid (WB B b w w7 d k hh mi (.slice (some ⟨lb, lo, none⟩) k lc) s2 ∧ w7.ownsRow C 3 1 (.slice a7 (q + 1) c7) (q + 1) (i1C (zs ++ [1])) ∧ w7.ownsRow C 3 1 (.slice za q zc) q (i1C zs)) := by
                     have f7 : Fr (Value.slice za q zc).ownBlock.toList W6 w7 := ((Fr.refl _ _).alloc _).grown hgrow7 (fun x hx => Or.inl (by simp [hx]))
                     refine ⟨?_, by rw [i1C_push]; exact hown7, ?_⟩
                     · refine H5.out.step0 (HQ.out.2.2.2.2.1.trans f7 (fun x hx => Or.inr ?_))
                       rw [HC.out]
                       exact (HOz.out.lt x (by simpa using hx)).1
                     · exact own_prefix (by omega) (HOz.out.alloc _) (HOz.out.alloc _) (Nat.le_refl _) (by rw [List.take_of_length_le (by rw [HOz.out.1]; exact Nat.le_refl _)]) hown7 hgrow7 (hkeep7.imp_right And.left)
                   clear hown7 hgrow7 hkeep7)
                | (go_at_call 27; refine (HD2.out _ H9.out.1 H9.out.2).mono ?_; rintro e w10 ⟨u1, u2, u3⟩
                   obtain ⟨he, hlen, s3, b10⟩ := u3 HCT.out.1 HCT.out.2
                   subst he
                   obtain ⟨L, hL⟩ : ∃ L, (left s2.ss zs).length = L := ⟨_, rfl⟩
                   rw [hL] at hlen
                   have hL2 : L ≤ 12 := by omega
                   have H10 : Hid (WC B b w w10 k (.slice (some ⟨lb, lo, none⟩) k lc) s2 s3 zs ∧ (left s2.ss zs).length = L) := ⟨b10, hL⟩
                   have hLk : IntKind.i64.wrap ((k : Int) - (q : Int)) = (L : Int) := by rw [show (k : Int) - (q : Int) = (L : Int) by omega]; exact wrap_fit ⟨by omega, by omega⟩
                   clear b10 hL
                   clear u1 u2 u3 HD2)
                | (go_at_call 27; refine (HD1.out _ _ _ H7.out.1 H7.out.2.1).mono ?_; rintro e w8 ⟨rfl, b8, f8⟩
                   have H8 : Hid (WB B b w w8 d k hh mi (.slice (some ⟨lb, lo, none⟩) k lc) s2 ∧ w8.ownsRow C 3 1 (.slice za q zc) q (i1C zs)) := ⟨b8, own_fr H7.out.2.2 f8 (own_foot H7.out.1.1 H7.out.2.2 (by decide))⟩
                   clear b8 f8 HD1)
                | (go_at_call 23; refine (H10.out.1.snaps HB.out.1 H10.out.2 hL2).mono ?_; rintro e w11 ⟨g11, rfl, b11⟩
                   have H11 : Hid (WC B b w w11 k (.slice (some ⟨lb, lo, none⟩) k lc) s2 s3 zs) := b11
                   clear b11)
                | (go_at_call 23; refine (HSn.out _ H8.out.1).mono ?_; rintro e w9 ⟨g9, rfl, b9, f9⟩
                   have H9 : Hid (WB B b w w9 d k hh mi (.slice (some ⟨lb, lo, none⟩) k lc) s2 ∧ w9.ownsRow C 3 1 (.slice za q zc) q (i1C zs)) := ⟨b9, own_fr H8.out.2 f9 (own_foot H8.out.1.1 H8.out.2 (by decide))⟩
                   clear b9 f9)
                | (go_at_call 28; refine (H11.out.marks HB.out.1 HMS.out).mono ?_; rintro e w12 ⟨g12, rfl, c12, b12⟩
                   have H12 : Hid (WC B b w w12 k (.slice (some ⟨lb, lo, none⟩) k lc) s2 s3 zs) := b12
                   have HRl : Hid (Calls Try.prog 29 #[.pointer (some ⟨b, 0, none⟩), .int .i64 gh] w12 _) := b12.release HB.out.1 (by rw [H10.out.2]; exact hL2) HRR.out.1 HRR.out.2.1 HRR.out.2.2
                   clear b12)
                | (go_at_call 29; refine HRl2.out.mono ?_; rintro e w14 ⟨rfl, f14⟩
                   have H14 : Hid (Fr [] w w14) := f14
                   clear f14)
                | (go_at_call 29; refine HRl.out.mono ?_; rintro e w13 ⟨rfl, f13, c13⟩
                   have HRl2 : Hid (Calls Try.prog 29 #[.pointer (some ⟨b, 0, none⟩), .int .i64 gh] w13 _) := c13
                   clear f13 c13 HRl))
              go_ret
              exact ⟨rfl, H14.out.below (by rw [HB.out.1]; exact Nat.le_refl _) (by simp)⟩

            · have HCT : Hid (dupB zs = false ∧ (zs.any fun g => g == gd d hh) = true) := ⟨HQ.out.2.2.1.symm, by rw [HGH.out.1]; exact HQ.out.2.2.2.1.symm⟩
              go_wp2_with (first
                | (at_builtin; refine wpList_append_keep _ rfl _ _ 22 rfl C 3 i0 _ 1 8 Try.underlying22 hi0 hz0 hz1 hz2 rfl (by omega) (.slice za q zc) q (i1C zs) rfl (HOz.out.alloc _) ⟨W6.heap.size, 0, none⟩ 1 1 [.int .i64 1] rfl (by simp) (World.news_of_block (cs := #[.int .i64 1]) (t := 3) (fr := (0, 0)) (heap_alloc_new W6 _)) (by simp [Value.oneCell']) (by unfold maxLen; omega) (by omega) (by simp; omega) (by omega) ?_; intro v7 w7 hown7 hgrow7 hkeep7
                   obtain ⟨a7, c7, hv7⟩ := own_shape hown7
                   subst hv7
                   have H7 : Hid (WB B b w w7 d k hh mi (.slice (some ⟨lb, lo, none⟩) k lc) s2 ∧ w7.ownsRow C 3 1 (.slice a7 (q + 1) c7) (q + 1) (i1C (zs ++ [1])) ∧ w7.ownsRow C 3 1 (.slice za q zc) q (i1C zs)) := by
                     have f7 : Fr (Value.slice za q zc).ownBlock.toList W6 w7 := ((Fr.refl _ _).alloc _).grown hgrow7 (fun x hx => Or.inl (by simp [hx]))
                     refine ⟨?_, by rw [i1C_push]; exact hown7, ?_⟩
                     · refine H5.out.step0 (HQ.out.2.2.2.2.1.trans f7 (fun x hx => Or.inr ?_))
                       rw [HC.out]
                       exact (HOz.out.lt x (by simpa using hx)).1
                     · exact own_prefix (by omega) (HOz.out.alloc _) (HOz.out.alloc _) (Nat.le_refl _) (by rw [List.take_of_length_le (by rw [HOz.out.1]; exact Nat.le_refl _)]) hown7 hgrow7 (hkeep7.imp_right And.left)
                   clear hown7 hgrow7 hkeep7)
                | (go_at_call 27; refine (HD2.out _ H9.out.1 H9.out.2).mono ?_; rintro e w10 ⟨u1, u2, u3⟩
                   obtain ⟨he, b10⟩ := u2 HCT.out.1 HCT.out.2
                   subst he
                   have H10 : Hid (WB B b w w10 d k hh mi (.slice (some ⟨lb, lo, none⟩) k lc) s2) := b10
                   clear b10
                   clear u1 u2 u3 HD2)
                | (go_at_call 27; refine (HD1.out _ _ _ H7.out.1 H7.out.2.1).mono ?_; rintro e w8 ⟨rfl, b8, f8⟩
                   have H8 : Hid (WB B b w w8 d k hh mi (.slice (some ⟨lb, lo, none⟩) k lc) s2 ∧ w8.ownsRow C 3 1 (.slice za q zc) q (i1C zs)) := ⟨b8, own_fr H7.out.2.2 f8 (own_foot H7.out.1.1 H7.out.2.2 (by decide))⟩
                   clear b8 f8 HD1)
                | (go_at_call 23; refine (HSn.out _ H10.out).mono ?_; rintro e w11 ⟨g11, rfl, b11, f11⟩
                   have H11 : Hid (WB B b w w11 d k hh mi (.slice (some ⟨lb, lo, none⟩) k lc) s2) := b11
                   clear b11 f11)
                | (go_at_call 23; refine (HSn.out _ H8.out.1).mono ?_; rintro e w9 ⟨g9, rfl, b9, f9⟩
                   have H9 : Hid (WB B b w w9 d k hh mi (.slice (some ⟨lb, lo, none⟩) k lc) s2 ∧ w9.ownsRow C 3 1 (.slice za q zc) q (i1C zs)) := ⟨b9, own_fr H8.out.2 f9 (own_foot H8.out.1.1 H8.out.2 (by decide))⟩
                   clear b9 f9)
                | (go_at_call 28; refine (HMk.out _ H11.out).mono ?_; rintro e w12 ⟨g12, rfl, c12, b12⟩
                   have H12 : Hid (Fr [] w w12) := b12.2.2.2.1
                   clear b12))
              go_ret
              exact ⟨rfl, H12.out.below (by rw [HB.out.1]; exact Nat.le_refl _) (by simp)⟩

          · have HCT : Hid (dupB zs = true) := HQ.out.2.2.1.symm
            go_wp2_with (first
              | (at_builtin; refine wpList_append_keep _ rfl _ _ 22 rfl C 3 i0 _ 1 8 Try.underlying22 hi0 hz0 hz1 hz2 rfl (by omega) (.slice za q zc) q (i1C zs) rfl (HOz.out.alloc _) ⟨W6.heap.size, 0, none⟩ 1 1 [.int .i64 1] rfl (by simp) (World.news_of_block (cs := #[.int .i64 1]) (t := 3) (fr := (0, 0)) (heap_alloc_new W6 _)) (by simp [Value.oneCell']) (by unfold maxLen; omega) (by omega) (by simp; omega) (by omega) ?_; intro v7 w7 hown7 hgrow7 hkeep7
                 obtain ⟨a7, c7, hv7⟩ := own_shape hown7
                 subst hv7
                 have H7 : Hid (WB B b w w7 d k hh mi (.slice (some ⟨lb, lo, none⟩) k lc) s2 ∧ w7.ownsRow C 3 1 (.slice a7 (q + 1) c7) (q + 1) (i1C (zs ++ [1])) ∧ w7.ownsRow C 3 1 (.slice za q zc) q (i1C zs)) := by
                   have f7 : Fr (Value.slice za q zc).ownBlock.toList W6 w7 := ((Fr.refl _ _).alloc _).grown hgrow7 (fun x hx => Or.inl (by simp [hx]))
                   refine ⟨?_, by rw [i1C_push]; exact hown7, ?_⟩
                   · refine H5.out.step0 (HQ.out.2.2.2.2.1.trans f7 (fun x hx => Or.inr ?_))
                     rw [HC.out]
                     exact (HOz.out.lt x (by simpa using hx)).1
                   · exact own_prefix (by omega) (HOz.out.alloc _) (HOz.out.alloc _) (Nat.le_refl _) (by rw [List.take_of_length_le (by rw [HOz.out.1]; exact Nat.le_refl _)]) hown7 hgrow7 (hkeep7.imp_right And.left)
                 clear hown7 hgrow7 hkeep7)
              | (go_at_call 27; refine (HD2.out _ H9.out.1 H9.out.2).mono ?_; rintro e w10 ⟨u1, u2, u3⟩
                 obtain ⟨he, b10⟩ := u1 HCT.out
                 subst he
                 have H10 : Hid (WB B b w w10 d k hh mi (.slice (some ⟨lb, lo, none⟩) k lc) s2) := b10
                 clear b10
                 clear u1 u2 u3 HD2)
              | (go_at_call 27; refine (HD1.out _ _ _ H7.out.1 H7.out.2.1).mono ?_; rintro e w8 ⟨rfl, b8, f8⟩
                 have H8 : Hid (WB B b w w8 d k hh mi (.slice (some ⟨lb, lo, none⟩) k lc) s2 ∧ w8.ownsRow C 3 1 (.slice za q zc) q (i1C zs)) := ⟨b8, own_fr H7.out.2.2 f8 (own_foot H7.out.1.1 H7.out.2.2 (by decide))⟩
                 clear b8 f8 HD1)
              | (go_at_call 23; refine (HSn.out _ H10.out).mono ?_; rintro e w11 ⟨g11, rfl, b11, f11⟩
                 have H11 : Hid (WB B b w w11 d k hh mi (.slice (some ⟨lb, lo, none⟩) k lc) s2) := b11
                 clear b11 f11)
              | (go_at_call 23; refine (HSn.out _ H8.out.1).mono ?_; rintro e w9 ⟨g9, rfl, b9, f9⟩
                 have H9 : Hid (WB B b w w9 d k hh mi (.slice (some ⟨lb, lo, none⟩) k lc) s2 ∧ w9.ownsRow C 3 1 (.slice za q zc) q (i1C zs)) := ⟨b9, own_fr H8.out.2 f9 (own_foot H8.out.1.1 H8.out.2 (by decide))⟩
                 clear b9 f9)
              | (go_at_call 28; refine (HMk.out _ H11.out).mono ?_; rintro e w12 ⟨g12, rfl, c12, b12⟩
                 have H12 : Hid (Fr [] w w12) := b12.2.2.2.1
                 clear b12))
            go_ret
            exact ⟨rfl, H12.out.below (by rw [HB.out.1]; exact Nat.le_refl _) (by simp)⟩
end Go.Proofs.Ythdhegmlknpllaa
