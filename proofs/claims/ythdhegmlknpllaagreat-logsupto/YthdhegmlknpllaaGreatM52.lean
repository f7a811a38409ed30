import Derived.Test.YthdhegmlknpllaaGreatM46
import Derived.Test.YthdhegmlknpllaaGreatM36
import Derived.Test.YthdhegmlknpllaaGreatM13
import Derived.Test.YthdhegmlknpllaaGreatM09
import Derived.Test.YthdhegmlknpllaaGreatM33
import Derived.Test.YthdhegmlknpllaaGreatM50
import Derived.Test.YthdhegmlknpllaaGreatM51
import Derived.Test.YthdhegmlknpllaaGreatM45
import Derived.Test.YthdhegmlknpllaaGreatM34
namespace Go.Proofs.YthdhegmlknpllaaGreat
open Go.RowKit Go.Maps Go.MuLone
section
variable {O : Obj} {B : Nat} {w w1 w2 W : World} {db b rb : Nat} {s s' : Sto} {r r' : RSto} {q : Nat}
set_option maxRecDepth 100000 in
theorem p_recv (h : SD O B w db b rb s r) (m : Sim s r q) (tx : ByteArray) (hz : tx.size ≤ 2000000) (hq : q ≤ 2000000) :
  Calls Tryz.prog 52 #[.pointer (some ⟨b, 0, none⟩), .string tx] w (PC fI O B w db b rb s r q 53 #[.pointer (some ⟨rb, 0, none⟩), .string tx]) := by
 have hl12 := m.len
 have e2 := m.glen
 have e3 := m.mlen
 have hbl := m.bl
 have hcm := m.cm
 rcases read_both tx hz with ⟨f, t, mm, nb, l, ok, hP, hR⟩ | ⟨hP, hR⟩
 · obtain ⟨m1, m2, m3, m4, m5, m6, m7⟩ := ok.may
   have hlen := ok.len
   have hsize := ok.size
   have herr : ∀ (en : Int), (en == 0) = false → (∀ W v, Rep B W b 1 s → (∃ a n c, v = .slice a n c) → Calls Tryz.prog 80 #[.pointer (some ⟨b, 0, none⟩), .agg #[.int .i64 f, .int .i64 t, .int .i64 mm, .int .i64 (nb : Int), v]] W fun e w' => e = .returned (.int .i64 en) ∧ Fr [] W w') → (∀ W, RRep B W rb r → Calls Tryz.prog 53 #[.pointer (some ⟨rb, 0, none⟩), .string tx] W fun e w2 => e = .returned (fI (0, en)) ∧ Fr [] W w2) → Calls Tryz.prog 52 #[.pointer (some ⟨b, 0, none⟩), .string tx] w (PC fI O B w db b rb s r q 53 #[.pointer (some ⟨rb, 0, none⟩), .string tx]) := fun en hen hA hRR => by
    refine (receive_err B b s tx w h.rep f t mm nb l en hen hP hA).mono ?_
    rintro e9 w1 ⟨rfl, rp, f1⟩
    obtain ⟨b1, hr⟩ := h.pair rp f1 (fun k hk => Or.inl hk) (still2 (f := 53) (args := #[.pointer (some ⟨rb, 0, none⟩), .string tx]) (v := fI (0, en)) m hRR)
    exact ⟨(0, en), rfl, b1, hr⟩
   by_cases hnb : (nb : Int) = (s.vol.length : Int)
   · have hnbr : (nb : Int) = (r.blocks : Int) := by rw [hnb, hbl.1]
     have hnbn : nb = s.vol.length := by omega
     have hhs := m.hs t
     by_cases hth : Hs s t = true
     · -- there already
       have hh2 : (r.sh.any (fun x => x.guid == t) || r.ms.any (fun x => x.1 == t)) = true := by rw [hth] at hhs; exact hhs
       refine herr 7 rfl (fun W v hW hv => ?_) (fun W hW => rrecv_dup B rb r tx W hW f t mm nb l.length l hR (by omega) (by omega) hnbr hh2)
       rw [hnb]
       rcases fi_cases (fun y : Sn => y.guid == t) s.ss with e | ⟨j, hj, e, _⟩
       · rcases fi_cases (fun y : Int × Int => y.1 == t) s.ms with em | ⟨i, hi, em, _⟩
         · exfalso
           unfold Hs at hth
           rw [Bool.or_eq_true, List.any_eq_true, List.any_eq_true] at hth
           rcases hth with h1 | h1
           · obtain ⟨j, _, e9, _⟩ := fi_some (p := fun x : Sn => x.guid == t) s.ss 0 h1
             rw [e] at e9
             omega
           · obtain ⟨j, _, e9, _⟩ := fi_some (p := fun x : Int × Int => x.1 == t) s.ms 0 h1
             rw [em] at e9
             omega
         · exact accepts_dupm B b 1 s f t mm v W hW hl12.1 hl12.2 hv e i em
       · exact accepts_dup B b 1 s f t mm v j W hW hl12.1 hv e
     · have hth2 : Hs s t = false := by simpa using hth
       have hh2 : (r.sh.any (fun x => x.guid == t) || r.ms.any (fun x => x.1 == t)) = false := by rw [hth2] at hhs; exact hhs
       have hng : t ∉ gls s := fun hm => by
        have h9 := (hs_gls (s := s) t).2 hm
        rw [hth2] at h9
        cases h9
       have hsp := hth2
       unfold Hs at hsp
       rw [Bool.or_eq_false_iff, List.any_eq_false, List.any_eq_false] at hsp
       have f1 : fi (fun y : Sn => y.guid == t) 0 s.ss = -1 := fi_none _ _ (fun x hx => by simpa using hsp.1 x hx)
       have f2 : fi (fun y : Int × Int => y.1 == t) 0 s.ms = -1 := fi_none _ _ (fun x hx => by simpa using hsp.2 x hx)
       have hnw := m.newest
       by_cases hla : f = lastG s.ss
       · by_cases h12 : s.ss.length = 12
         · refine herr 5 rfl (fun W v hW hv => ?_) (fun W hW => rrecv_lf B rb r tx W hW f t mm nb l.length l hR (by omega) (by omega) hnbr hh2 5 (Or.inr ⟨by rw [hnw]; exact hla, by omega, rfl⟩))
           rw [hnb]
           exact accepts_full B b 1 s f t mm v W hW hl12.1 hl12.2 hv f1 f2 hla h12
         · -- taken in
           have hri : ∀ k (hk : k < l.length), 0 ≤ l[k].1 ∧ l[k].1 < s.vol.length := fun k hk => by
            have h1 := m7 k hk
            have h2 := rises_len m7 k (by omega)
            omega
           have hcn := m.cn
           have hlg := m.lg
           have hP' : ∀ W, Calls Tryz.prog 79 #[.string tx] W fun e w' => ∃ v, e = .returned (.tuple #[.agg #[.int .i64 f, .int .i64 t, .int .i64 mm, .int .i64 (s.vol.length : Int), v], .bool true]) ∧ w'.ownsRow W.heap.size 137 5 v l.length (blC l) ∧ Fr [] W w' := by rw [← hnb]; exact hP
           refine (receive_ok B b s tx w h.rep f t mm l hP' (by omega) hl12.2 f1 f2 hla hri hlen ⟨by omega, by omega⟩ ⟨by omega, by omega⟩ (by omega) hbl.2.2 (by unfold maxLen; omega) (by omega) (by omega)).mono ?_
           rintro e9 w1 ⟨rfl, sv, lv, rp, f1', o1, o2⟩
           have htx : tx.size ≤ 105 := by omega
           have hgr : 1 ≤ t ∧ t ≤ 999999999 := m2
           have htm : 0 ≤ mm ∧ mm ≤ 1073741824 := ⟨ok.m0, m4⟩
           obtain ⟨b1, hr⟩ := h.pair rp f1' (foot_up rfl rfl o1 (fun k hk => Or.inl hk) o2) (f := 53) (args := #[.pointer (some ⟨rb, 0, none⟩), .string tx]) (v := fI (t, 0)) (q := q) (fun W hW => by
            have hrn := m.rn
            have hri2 : ∀ k (hk : k < l.length), 0 ≤ l[k].1 ∧ l[k].1 < 16 := fun k hk => by have := hri k hk; omega
            by_cases h0 : s.ss.length = 0
            · have hf0 : f = 0 := by
                rw [hla]
                have : s.ss = [] := List.length_eq_zero_iff.1 h0
                rw [this]
                rfl
              subst hf0
              refine (rrecv_ok0 B rb r tx W hW 0 t mm nb l.length l hR (by omega) (by omega) hnbr hh2 (by rw [hnw]; exact hla) (by omega) rfl (by omega) hri2 (by omega) (by omega)).mono ?_
              rintro e w2 ⟨rfl, sv', rr, f2', o3⟩
              exact ⟨rfl, _, rr, f2', rfoot_up o3 (fun k hk => Or.inl hk), m.recv0 hW.d16 hW.b16 (by have := m6 rfl; omega) (by rw [← hnb]; exact m7) hng hgr htm (by omega) htx, LStep.by (r_recv0 hW.rwf tx sv' ok hP ⟨by omega, hhs.trans hth2, by rw [hnw]; exact hla, by omega⟩ (by omega))⟩
            · have hy : r.sh[r.sh.length - 1]? = some (r.sh[r.sh.length - 1]'(by omega)) := List.getElem?_eq_getElem (by omega)
              refine (rrecv_okn B rb r tx W hW f t mm nb l.length l hR (by omega) (by omega) hnbr hh2 (by rw [hnw]; exact hla) (by omega) rfl (by omega) hri2 (by omega) _ hy (by omega)).mono ?_
              rintro e w2 ⟨rfl, sv', rr, f2', o3⟩
              exact ⟨rfl, _, rr, f2', rfoot_up o3 (fun k hk => Or.inl hk), m.recvn hW.wf hla hy (by omega) hng hgr htm (by omega) htx, LStep.by (r_recvn hW.rwf tx sv' ok hP ⟨by omega, hhs.trans hth2, by rw [hnw]; exact hla, by omega⟩ hy)⟩)
           exact ⟨(t, 0), rfl, b1, hr⟩
       · refine herr 6 rfl (fun W v hW hv => ?_) (fun W hW => rrecv_lf B rb r tx W hW f t mm nb l.length l hR (by omega) (by omega) hnbr hh2 6 (Or.inl ⟨by rw [hnw]; exact hla, rfl⟩))
         rw [hnb]
         exact accepts_base B b 1 s f t mm v W hW hl12.1 hl12.2 hv f1 f2 hla
   · refine herr 6 rfl (fun W v hW hv => accepts_blocks B b 1 s f t mm v W hW hv nb hnb) (fun W hW => rrecv_base B rb r tx W hW f t mm nb l.length l hR (by rw [hbl.1]; exact hnb))
 · refine (receive_form B b s tx w h.rep hP).mono ?_
   rintro e9 w1 ⟨rfl, rp, f1⟩
   obtain ⟨b1, hr⟩ := h.pair rp f1 (fun k hk => Or.inl hk) (still2 (f := 53) (args := #[.pointer (some ⟨rb, 0, none⟩), .string tx]) (v := fI (0, 2)) m (fun W _ => rrecv_form rb tx W hR))
   exact ⟨(0, 2), rfl, b1, hr⟩
end
set_option maxRecDepth 100000 in
set_option maxHeartbeats 3200000 in
theorem sends_any (w0 : World) (B wb : Nat) (sv tv : Value) (T : List ByteArray) (kv mv : Value) (sds : List SdR) (K M : List (Nat × Nat × Nat)) (q : Nat) (i : Nat) (x : SdR) (at' a b : Int) (t : ByteArray) (lo : Option Addr) (n c : Nat) (w : World) (h : LS w0 none B w wb sv tv T kv mv sds K M q) (hx : sds[i]? = some x) (hq : q ≤ 2000000) :
  Calls Tryz.prog 17 #[.pointer (some ⟨wb, 0, none⟩), .pointer (some ⟨x.db, 0, none⟩), .agg #[.int .i64 12, .int .i64 at', .int .i64 a, .int .i64 b, .string t, .slice lo n c]] w fun e w' => e = .returned (.bool true) ∧ LP w0 (some i) B w' wb sv (sds.map SdR.db) (q + 1) := by
 obtain ⟨db, hdb⟩ : ∃ db, x.db = db := ⟨_, rfl⟩
 obtain ⟨xb, hxb⟩ : ∃ xb, x.b = xb := ⟨_, rfl⟩
 obtain ⟨rb, hrb⟩ : ∃ rb, x.rb = rb := ⟨_, rfl⟩
 obtain ⟨lnv, hlnv⟩ : ∃ v, x.lnv = v := ⟨_, rfl⟩
 obtain ⟨D, hD⟩ : ∃ D, sds.map SdR.db = D := ⟨_, rfl⟩
 obtain ⟨W1, hW1⟩ : ∃ W1, w.alloc (.cells #[.int .i64 12, .int .i64 at', .int .i64 a, .int .i64 b, .string t, .slice lo n c] 41) = W1 := ⟨_, rfl⟩
 obtain ⟨ob, hob⟩ : ∃ ob, w.heap.size = ob := ⟨_, rfl⟩
 have o1 : W1.heap[ob]? = some (.cells #[.int .i64 12, .int .i64 at', .int .i64 a, .int .i64 b, .string t, .slice lo n c] 41 (0, 0)) := by rw [← hW1, ← hob]; exact heap_alloc_new w _
 have h1 : LS w0 none B W1 wb sv tv T kv mv sds K M q := h.same (by rw [← hW1]; exact (Fr.refl _ _).alloc _)
 have d1 : W1.heap[db]? = some (sdO xb rb lnv) := by rw [← hdb, ← hxb, ← hrb, ← hlnv]; exact (h1.sd i x hx).1.blk
 have HCs : Hid (∀ W : World, W.heap[ob]? = some (.cells #[.int .i64 12, .int .i64 at', .int .i64 a, .int .i64 b, .string t, .slice lo n c] 41 (0, 0)) → W.heap[db]? = some (sdO xb rb lnv) → W.cell? ⟨ob, 2, none⟩ = some (.int .i64 a) ∧ W.cell? ⟨ob, 3, none⟩ = some (.int .i64 b) ∧ W.cell? ⟨ob, 4, none⟩ = some (.string t) ∧ W.cell? ⟨db, 0, none⟩ = some (.pointer (some ⟨xb, 0, none⟩)) ∧ W.cell? ⟨db, 1, none⟩ = some (.pointer (some ⟨rb, 0, none⟩))) := fun W e1 e2 => by
  refine ⟨?_, ?_, ?_, ?_, ?_⟩
  · rw [cell_of e1]; rfl
  · rw [cell_of e1]; rfl
  · rw [cell_of e1]; rfl
  · rw [cell_of e2]; rfl
  · rw [cell_of e2]; rfl
 obtain ⟨k2, k3, k4, k5, k6⟩ := HCs.out W1 o1 d1
 have HTl : Hid (T.length ≤ q ∧ q ≤ 2000000) := ⟨h.tl.1, hq⟩
 obtain ⟨j0, hj, jz0, jz1, jz2⟩ := info_parts info9
 have HP : Hid (∀ W, Fr [] W1 W → Calls Tryz.prog 50 #[.pointer (some ⟨xb, 0, none⟩), .int .i64 a, .int .i64 b] W fun e w1 => ∃ (u : ByteArray) (z : Int), u.size ≤ 1000 ∧ e = .returned (.tuple #[.string u, .int .i64 z]) ∧ w1.heap[db]? = some (sdO xb rb lnv) ∧ w1.heap[ob]? = some (.cells #[.int .i64 12, .int .i64 at', .int .i64 a, .int .i64 b, .string t, .slice lo n c] 41 (0, 0)) ∧ ∀ W, Fr [] w1 W → Calls Tryz.prog 51 #[.pointer (some ⟨rb, 0, none⟩), .int .i64 a, .int .i64 b] W fun e2 w2 => e2 = .returned (.tuple #[.string u, .int .i64 z]) ∧ LPT w0 (some i) B w2 wb sv tv T D (q + 1) ∧ w2.heap[db]? = some (sdO xb rb lnv) ∧ w2.heap[ob]? = some (.cells #[.int .i64 12, .int .i64 at', .int .i64 a, .int .i64 b, .string t, .slice lo n c] 41 (0, 0))) := fun W hW => by
  have hW2 := h1.same hW
  have oW : W.heap[ob]? = some (.cells #[.int .i64 12, .int .i64 at', .int .i64 a, .int .i64 b, .string t, .slice lo n c] 41 (0, 0)) := by rw [hW.block ob (Array.getElem?_eq_some_iff.1 o1).1 (by simp)]; exact o1
  rw [← hdb, ← hxb, ← hrb, ← hlnv, ← hD]
  refine (p_send (hW2.sd i x hx).1 (hW2.sd i x hx).2 a b).mono ?_
  rintro e w1 ⟨⟨⟨u, z⟩, hu⟩, rfl, ⟨b1, f1⟩, hr⟩
  refine ⟨u, z, hu, rfl, b1, ?_, fun W' hW' => ?_⟩
  · rw [f1.block ob (Array.getElem?_eq_some_iff.1 oW).1 ((hW2.sd i x hx).1.no oW (by decide))]
    exact oW
  · refine (hr W' hW').mono ?_
    rintro e2 w2 ⟨he2, sn⟩
    refine ⟨he2, hW2.sideT hx sn, ?_, sn.keep (hW2.sd i x hx).1 oW (by decide)⟩
    obtain ⟨s', r', sd', _⟩ := sn
    exact sd'.blk
 rw [hdb, hD]
 clear h h1 hx o1 d1 hdb hxb hrb hlnv hD
 go_enter Tryz.func17, Tryz.ntmps17
 go_wp2
 clear hW1 hob
 go_region_held3 (fun w' => w'.cell? ⟨ob, 2, none⟩ = some (.int .i64 a) ∧ w'.cell? ⟨ob, 3, none⟩ = some (.int .i64 b) ∧ w'.cell? ⟨db, 0, none⟩ = some (.pointer (some ⟨xb, 0, none⟩)))
  (first
   | exact ⟨y2, y3, y5⟩
   | go_keep)
  (first
   | (go_at_call 50; refine (HP.out _ Fr.dd).mono ?_; rintro e w4 ⟨u, z, hu, rfl, b4, o4, hr4⟩; have H4 : Hid (u.size ≤ 1000 ∧ ∀ W, Fr [] w4 W → Calls Tryz.prog 51 #[.pointer (some ⟨rb, 0, none⟩), .int .i64 a, .int .i64 b] W fun e2 w2 => e2 = .returned (.tuple #[.string u, .int .i64 z]) ∧ LPT w0 (some i) B w2 wb sv tv T D (q + 1) ∧ w2.heap[db]? = some (sdO xb rb lnv) ∧ w2.heap[ob]? = some (.cells #[.int .i64 12, .int .i64 at', .int .i64 a, .int .i64 b, .string t, .slice lo n c] 41 (0, 0))) := ⟨hu, hr4⟩; obtain ⟨y2, y3, y4, y5, y6⟩ := HCs.out w4 o4 b4; clear b4 o4 hr4 hu))
 all_goals
  by_cases hz : z = 0
  · subst hz
    go_wp2
    go_region_held3 (fun w' => w'.cell? ⟨ob, 2, none⟩ = some (.int .i64 a) ∧ w'.cell? ⟨ob, 3, none⟩ = some (.int .i64 b) ∧ w'.cell? ⟨db, 1, none⟩ = some (.pointer (some ⟨rb, 0, none⟩)))
     (first
      | exact ⟨z2, z3, z6⟩
      | go_keep)
     (first
      | (go_at_call 51; refine (H4.out.2 _ Fr.dd).mono ?_; rintro e w5 ⟨rfl, ⟨kv5, mv5, sds5, K5, M5, l5, e5⟩, b5, o5⟩; obtain ⟨z2, z3, z4, z5, z6⟩ := HCs.out w5 o5 b5; have H5 : Hid (LS w0 (some i) B w5 wb sv tv T kv5 mv5 sds5 K5 M5 (q + 1) ∧ sds5.map SdR.db = D) := ⟨l5, e5⟩; clear l5 e5 b5 o5))
    all_goals
     obtain ⟨ta, tc, htv⟩ := own_shape H5.out.1.wm.to
     obtain ⟨TL, hTL⟩ : ∃ TL, T.length = TL := ⟨_, rfl⟩
     rw [hTL] at htv
     subst htv
     have HRT : Hid (w5.ownsRow B 9 1 (.slice ta TL tc) TL (T.map Value.string)) := by
      have h9 := H5.out.1.wm.to
      rw [hTL] at h9
      exact h9
     have HTL : Hid (T.length = TL) := hTL
     have hTq : TL ≤ 2000000 := by have := HTl.out; omega
     have c51 : w5.cell? ⟨wb, 1, none⟩ = some (.slice ta TL tc) := by rw [cell_of H5.out.1.wm.blk]; rfl
     have hB5 := H5.out.1.hB
     clear hTL
     go_wp2_with (first
      | (at_builtin; refine wpList_append_own _ rfl _ _ 28 rfl B 9 j0 _ 1 16 Tryz.underlying28 hj jz0 jz1 jz2 rfl (by omega) (.slice ta TL tc) TL (T.map Value.string) rfl (HRT.out.alloc _) ⟨w5.heap.size, 0, none⟩ 1 1 [.string u] rfl (by simp) (World.news_of_block (cs := #[.string u]) (t := 9) (fr := (0, 0)) (heap_alloc_new w5 _)) (by simp [Value.oneCell']) (by unfold maxLen; omega) (by omega) (by simp; omega) ?_; intro v9 w9 hown9 hgrow9 hne9
         have HA := (H5.out.1.same ((Fr.refl _ _).alloc (.cells #[.string u] 9))).addT (by have := HTl.out.1; omega) hgrow9 H4.out.1 (tv' := v9) (by rw [HTL.out]; exact hown9)
         obtain ⟨va9, vc9, hv9⟩ := own_shape hown9
         subst hv9
         have H9 : Hid (LS w0 (some i) B (w9.setCell ⟨wb, 1, none⟩ (.slice va9 (TL + 1) vc9)) wb sv (.slice va9 (TL + 1) vc9) (T ++ [u]) kv5 mv5 sds5 K5 M5 (q + 1)) := HA.1
         have x91 := HA.2.1
         have z91 := HA.2.2
         clear HA hown9 hgrow9 hne9))
     all_goals
      go_ret
      exact ⟨rfl, ⟨_, _, _, _, _, _, _, H9.out, H5.out.2⟩⟩
  · have hz1 : (z == 0) = false := by simpa using hz
    go_wp2
    go_region_held3 (fun w' => w'.cell? ⟨ob, 2, none⟩ = some (.int .i64 a) ∧ w'.cell? ⟨ob, 3, none⟩ = some (.int .i64 b) ∧ w'.cell? ⟨db, 1, none⟩ = some (.pointer (some ⟨rb, 0, none⟩)))
     (first
      | exact ⟨z2, z3, z6⟩
      | go_keep)
     (first
      | (go_at_call 51; refine (H4.out.2 _ Fr.dd).mono ?_; rintro e w5 ⟨rfl, l5, b5, o5⟩; obtain ⟨z2, z3, z4, z5, z6⟩ := HCs.out w5 o5 b5; have H5 : Hid (LPT w0 (some i) B w5 wb sv tv T D (q + 1)) := l5; clear l5 b5 o5))
    all_goals
     go_wp2
     go_ret
     exact ⟨rfl, H5.out.lp⟩
set_option maxRecDepth 100000 in
set_option maxHeartbeats 3200000 in
theorem receives_neg (w0 : World) (B wb : Nat) (sv tv : Value) (T : List ByteArray) (kv mv : Value) (sds : List SdR) (K M : List (Nat × Nat × Nat)) (q : Nat) (i : Nat) (x : SdR) (at' a b : Int) (t : ByteArray) (lo : Option Addr) (n c : Nat) (w : World) (h : LS w0 none B w wb sv tv T kv mv sds K M q) (hx : sds[i]? = some x) (hq : q ≤ 2000000) (ht : t.size ≤ 2000000) (ha : a < 0) :
  Calls Tryz.prog 18 #[.pointer (some ⟨wb, 0, none⟩), .pointer (some ⟨x.db, 0, none⟩), .agg #[.int .i64 13, .int .i64 at', .int .i64 a, .int .i64 b, .string t, .slice lo n c]] w fun e w' => e = .returned (.bool true) ∧ LP w0 (some i) B w' wb sv (sds.map SdR.db) (q + 1) := by
 obtain ⟨db, hdb⟩ : ∃ db, x.db = db := ⟨_, rfl⟩
 obtain ⟨xb, hxb⟩ : ∃ xb, x.b = xb := ⟨_, rfl⟩
 obtain ⟨rb, hrb⟩ : ∃ rb, x.rb = rb := ⟨_, rfl⟩
 obtain ⟨lnv, hlnv⟩ : ∃ v, x.lnv = v := ⟨_, rfl⟩
 obtain ⟨D, hD⟩ : ∃ D, sds.map SdR.db = D := ⟨_, rfl⟩
 obtain ⟨W1, hW1⟩ : ∃ W1, w.alloc (.cells #[.int .i64 13, .int .i64 at', .int .i64 a, .int .i64 b, .string t, .slice lo n c] 41) = W1 := ⟨_, rfl⟩
 obtain ⟨ob, hob⟩ : ∃ ob, w.heap.size = ob := ⟨_, rfl⟩
 have o1 : W1.heap[ob]? = some (.cells #[.int .i64 13, .int .i64 at', .int .i64 a, .int .i64 b, .string t, .slice lo n c] 41 (0, 0)) := by rw [← hW1, ← hob]; exact heap_alloc_new w _
 have h1 : LS w0 none B W1 wb sv tv T kv mv sds K M q := h.same (by rw [← hW1]; exact (Fr.refl _ _).alloc _)
 have d1 : W1.heap[db]? = some (sdO xb rb lnv) := by rw [← hdb, ← hxb, ← hrb, ← hlnv]; exact (h1.sd i x hx).1.blk
 have HCs : Hid (∀ W : World, W.heap[ob]? = some (.cells #[.int .i64 13, .int .i64 at', .int .i64 a, .int .i64 b, .string t, .slice lo n c] 41 (0, 0)) → W.heap[db]? = some (sdO xb rb lnv) → W.cell? ⟨ob, 2, none⟩ = some (.int .i64 a) ∧ W.cell? ⟨ob, 3, none⟩ = some (.int .i64 b) ∧ W.cell? ⟨ob, 4, none⟩ = some (.string t) ∧ W.cell? ⟨db, 0, none⟩ = some (.pointer (some ⟨xb, 0, none⟩)) ∧ W.cell? ⟨db, 1, none⟩ = some (.pointer (some ⟨rb, 0, none⟩))) := fun W e1 e2 => by
  refine ⟨?_, ?_, ?_, ?_, ?_⟩
  · rw [cell_of e1]; rfl
  · rw [cell_of e1]; rfl
  · rw [cell_of e1]; rfl
  · rw [cell_of e2]; rfl
  · rw [cell_of e2]; rfl
 obtain ⟨k2, k3, k4, k5, k6⟩ := HCs.out W1 o1 d1
 obtain ⟨ta, tc, htv⟩ := own_shape h1.wm.to
 obtain ⟨TL, hTL⟩ : ∃ TL, T.length = TL := ⟨_, rfl⟩
 rw [hTL] at htv
 have k1 : W1.cell? ⟨wb, 1, none⟩ = some (.slice ta TL tc) := by rw [← htv, cell_of h1.wm.blk]; rfl
 have hd1 : decide (a ≥ 0) = false := by simp; omega
 have HP : Hid (∀ W, Fr [] W1 W → Calls Tryz.prog 52 #[.pointer (some ⟨xb, 0, none⟩), .string t] W (QC fI w0 i lnv B wb sv D q db xb rb ob (.cells #[.int .i64 13, .int .i64 at', .int .i64 a, .int .i64 b, .string t, .slice lo n c] 41 (0, 0)) 53 #[.pointer (some ⟨rb, 0, none⟩), .string t])) := fun W hW => by
  have hW2 := h1.same hW
  have oW : W.heap[ob]? = some (.cells #[.int .i64 13, .int .i64 at', .int .i64 a, .int .i64 b, .string t, .slice lo n c] 41 (0, 0)) := by rw [hW.block ob (Array.getElem?_eq_some_iff.1 o1).1 (by simp)]; exact o1
  rw [← hdb, ← hxb, ← hrb, ← hlnv, ← hD]
  exact (p_recv (hW2.sd i x hx).1 (hW2.sd i x hx).2 t (by omega) hq).mono fun e w1 p => p.q hW2 hx oW
 rw [hdb, hD]
 clear h h1 hx o1 d1 hdb hxb hrb hlnv hD
 go_enter Tryz.func18, Tryz.ntmps18
 go_wp2_with (first
  | (go_at_call 53; refine (H4.out _ Fr.dd).mono ?_; rintro e w5 ⟨rfl, l5, b5, o5⟩; have H5 : Hid (LP w0 (some i) B w5 wb sv D (q + 1)) := l5; obtain ⟨z2, z3, z4, z5, z6⟩ := HCs.out w5 o5 b5; clear l5 b5 o5)
  | (go_at_call 52; refine (HP.out _ Fr.dd).mono ?_; rintro e w4 ⟨⟨u, z⟩, rfl, b4, o4, hr4⟩; have H4 : Hid (∀ W, Fr [] w4 W → Calls Tryz.prog 53 #[.pointer (some ⟨rb, 0, none⟩), .string t] W fun e2 w2 => e2 = .returned (.tuple #[.int .i64 u, .int .i64 z]) ∧ LP w0 (some i) B w2 wb sv D (q + 1) ∧ w2.heap[db]? = some (sdO xb rb lnv) ∧ w2.heap[ob]? = some (.cells #[.int .i64 13, .int .i64 at', .int .i64 a, .int .i64 b, .string t, .slice lo n c] 41 (0, 0))) := hr4; obtain ⟨y2, y3, y4, y5, y6⟩ := HCs.out w4 o4 b4; rw [show fI (u, z) = Value.tuple #[.int .i64 u, .int .i64 z] from rfl]; clear b4 o4 hr4))
 go_ret
 exact ⟨rfl, H5.out⟩
set_option maxRecDepth 100000 in
set_option maxHeartbeats 3200000 in
theorem receives_nil (w0 : World) (B wb : Nat) (sv tv : Value) (T : List ByteArray) (kv mv : Value) (sds : List SdR) (K M : List (Nat × Nat × Nat)) (q : Nat) (i : Nat) (x : SdR) (at' a b : Int) (t : ByteArray) (lo : Option Addr) (n c : Nat) (w : World) (h : LS w0 none B w wb sv tv T kv mv sds K M q) (hx : sds[i]? = some x) (hq : q ≤ 2000000) (ht : t.size ≤ 2000000) (ha : 0 ≤ a) (hT : T.length = 0) :
  Calls Tryz.prog 18 #[.pointer (some ⟨wb, 0, none⟩), .pointer (some ⟨x.db, 0, none⟩), .agg #[.int .i64 13, .int .i64 at', .int .i64 a, .int .i64 b, .string t, .slice lo n c]] w fun e w' => e = .returned (.bool true) ∧ LP w0 (some i) B w' wb sv (sds.map SdR.db) (q + 1) := by
 obtain ⟨db, hdb⟩ : ∃ db, x.db = db := ⟨_, rfl⟩
 obtain ⟨xb, hxb⟩ : ∃ xb, x.b = xb := ⟨_, rfl⟩
 obtain ⟨rb, hrb⟩ : ∃ rb, x.rb = rb := ⟨_, rfl⟩
 obtain ⟨lnv, hlnv⟩ : ∃ v, x.lnv = v := ⟨_, rfl⟩
 obtain ⟨D, hD⟩ : ∃ D, sds.map SdR.db = D := ⟨_, rfl⟩
 obtain ⟨W1, hW1⟩ : ∃ W1, w.alloc (.cells #[.int .i64 13, .int .i64 at', .int .i64 a, .int .i64 b, .string t, .slice lo n c] 41) = W1 := ⟨_, rfl⟩
 obtain ⟨ob, hob⟩ : ∃ ob, w.heap.size = ob := ⟨_, rfl⟩
 have o1 : W1.heap[ob]? = some (.cells #[.int .i64 13, .int .i64 at', .int .i64 a, .int .i64 b, .string t, .slice lo n c] 41 (0, 0)) := by rw [← hW1, ← hob]; exact heap_alloc_new w _
 have h1 : LS w0 none B W1 wb sv tv T kv mv sds K M q := h.same (by rw [← hW1]; exact (Fr.refl _ _).alloc _)
 have d1 : W1.heap[db]? = some (sdO xb rb lnv) := by rw [← hdb, ← hxb, ← hrb, ← hlnv]; exact (h1.sd i x hx).1.blk
 have HCs : Hid (∀ W : World, W.heap[ob]? = some (.cells #[.int .i64 13, .int .i64 at', .int .i64 a, .int .i64 b, .string t, .slice lo n c] 41 (0, 0)) → W.heap[db]? = some (sdO xb rb lnv) → W.cell? ⟨ob, 2, none⟩ = some (.int .i64 a) ∧ W.cell? ⟨ob, 3, none⟩ = some (.int .i64 b) ∧ W.cell? ⟨ob, 4, none⟩ = some (.string t) ∧ W.cell? ⟨db, 0, none⟩ = some (.pointer (some ⟨xb, 0, none⟩)) ∧ W.cell? ⟨db, 1, none⟩ = some (.pointer (some ⟨rb, 0, none⟩))) := fun W e1 e2 => by
  refine ⟨?_, ?_, ?_, ?_, ?_⟩
  · rw [cell_of e1]; rfl
  · rw [cell_of e1]; rfl
  · rw [cell_of e1]; rfl
  · rw [cell_of e2]; rfl
  · rw [cell_of e2]; rfl
 obtain ⟨k2, k3, k4, k5, k6⟩ := HCs.out W1 o1 d1
 obtain ⟨ta, tc, htv⟩ := own_shape h1.wm.to
 obtain ⟨TL, hTL⟩ : ∃ TL, T.length = TL := ⟨_, rfl⟩
 rw [hTL] at htv
 have k1 : W1.cell? ⟨wb, 1, none⟩ = some (.slice ta TL tc) := by rw [← htv, cell_of h1.wm.blk]; rfl
 rw [hTL] at hT
 subst hT
 have hd1 : decide (a ≥ 0) = true := by simpa using ha
 have hd3 : (0 : Int) ≤ a := ha
 clear ha
 have HP : Hid (∀ W, Fr [] W1 W → Calls Tryz.prog 52 #[.pointer (some ⟨xb, 0, none⟩), .string t] W (QC fI w0 i lnv B wb sv D q db xb rb ob (.cells #[.int .i64 13, .int .i64 at', .int .i64 a, .int .i64 b, .string t, .slice lo n c] 41 (0, 0)) 53 #[.pointer (some ⟨rb, 0, none⟩), .string t])) := fun W hW => by
  have hW2 := h1.same hW
  have oW : W.heap[ob]? = some (.cells #[.int .i64 13, .int .i64 at', .int .i64 a, .int .i64 b, .string t, .slice lo n c] 41 (0, 0)) := by rw [hW.block ob (Array.getElem?_eq_some_iff.1 o1).1 (by simp)]; exact o1
  rw [← hdb, ← hxb, ← hrb, ← hlnv, ← hD]
  exact (p_recv (hW2.sd i x hx).1 (hW2.sd i x hx).2 t (by omega) hq).mono fun e w1 p => p.q hW2 hx oW
 rw [hdb, hD]
 clear h h1 hx o1 d1 hdb hxb hrb hlnv hD
 go_enter Tryz.func18, Tryz.ntmps18
 go_wp2_with (first
  | (go_at_call 53; refine (H4.out _ Fr.dd).mono ?_; rintro e w5 ⟨rfl, l5, b5, o5⟩; have H5 : Hid (LP w0 (some i) B w5 wb sv D (q + 1)) := l5; obtain ⟨z2, z3, z4, z5, z6⟩ := HCs.out w5 o5 b5; clear l5 b5 o5)
  | (go_at_call 52; refine (HP.out _ Fr.dd).mono ?_; rintro e w4 ⟨⟨u, z⟩, rfl, b4, o4, hr4⟩; have H4 : Hid (∀ W, Fr [] w4 W → Calls Tryz.prog 53 #[.pointer (some ⟨rb, 0, none⟩), .string t] W fun e2 w2 => e2 = .returned (.tuple #[.int .i64 u, .int .i64 z]) ∧ LP w0 (some i) B w2 wb sv D (q + 1) ∧ w2.heap[db]? = some (sdO xb rb lnv) ∧ w2.heap[ob]? = some (.cells #[.int .i64 13, .int .i64 at', .int .i64 a, .int .i64 b, .string t, .slice lo n c] 41 (0, 0))) := hr4; obtain ⟨y2, y3, y4, y5, y6⟩ := HCs.out w4 o4 b4; rw [show fI (u, z) = Value.tuple #[.int .i64 u, .int .i64 z] from rfl]; clear b4 o4 hr4))
 go_ret
 exact ⟨rfl, H5.out⟩
set_option maxRecDepth 100000 in
set_option maxHeartbeats 3200000 in
theorem receives_one (w0 : World) (B wb : Nat) (sv tv : Value) (T : List ByteArray) (kv mv : Value) (sds : List SdR) (K M : List (Nat × Nat × Nat)) (q : Nat) (i : Nat) (x : SdR) (at' a b : Int) (t : ByteArray) (lo : Option Addr) (n c : Nat) (w : World) (h : LS w0 none B w wb sv tv T kv mv sds K M q) (hx : sds[i]? = some x) (hq : q ≤ 2000000) (ha : 0 ≤ a) (ha64 : In64 a) (hT : 0 < T.length) :
  Calls Tryz.prog 18 #[.pointer (some ⟨wb, 0, none⟩), .pointer (some ⟨x.db, 0, none⟩), .agg #[.int .i64 13, .int .i64 at', .int .i64 a, .int .i64 b, .string t, .slice lo n c]] w fun e w' => e = .returned (.bool true) ∧ LP w0 (some i) B w' wb sv (sds.map SdR.db) (q + 1) := by
 obtain ⟨db, hdb⟩ : ∃ db, x.db = db := ⟨_, rfl⟩
 obtain ⟨xb, hxb⟩ : ∃ xb, x.b = xb := ⟨_, rfl⟩
 obtain ⟨rb, hrb⟩ : ∃ rb, x.rb = rb := ⟨_, rfl⟩
 obtain ⟨lnv, hlnv⟩ : ∃ v, x.lnv = v := ⟨_, rfl⟩
 obtain ⟨D, hD⟩ : ∃ D, sds.map SdR.db = D := ⟨_, rfl⟩
 obtain ⟨W1, hW1⟩ : ∃ W1, w.alloc (.cells #[.int .i64 13, .int .i64 at', .int .i64 a, .int .i64 b, .string t, .slice lo n c] 41) = W1 := ⟨_, rfl⟩
 obtain ⟨ob, hob⟩ : ∃ ob, w.heap.size = ob := ⟨_, rfl⟩
 have o1 : W1.heap[ob]? = some (.cells #[.int .i64 13, .int .i64 at', .int .i64 a, .int .i64 b, .string t, .slice lo n c] 41 (0, 0)) := by rw [← hW1, ← hob]; exact heap_alloc_new w _
 have h1 : LS w0 none B W1 wb sv tv T kv mv sds K M q := h.same (by rw [← hW1]; exact (Fr.refl _ _).alloc _)
 have d1 : W1.heap[db]? = some (sdO xb rb lnv) := by rw [← hdb, ← hxb, ← hrb, ← hlnv]; exact (h1.sd i x hx).1.blk
 have HCs : Hid (∀ W : World, W.heap[ob]? = some (.cells #[.int .i64 13, .int .i64 at', .int .i64 a, .int .i64 b, .string t, .slice lo n c] 41 (0, 0)) → W.heap[db]? = some (sdO xb rb lnv) → W.cell? ⟨ob, 2, none⟩ = some (.int .i64 a) ∧ W.cell? ⟨ob, 3, none⟩ = some (.int .i64 b) ∧ W.cell? ⟨ob, 4, none⟩ = some (.string t) ∧ W.cell? ⟨db, 0, none⟩ = some (.pointer (some ⟨xb, 0, none⟩)) ∧ W.cell? ⟨db, 1, none⟩ = some (.pointer (some ⟨rb, 0, none⟩))) := fun W e1 e2 => by
  refine ⟨?_, ?_, ?_, ?_, ?_⟩
  · rw [cell_of e1]; rfl
  · rw [cell_of e1]; rfl
  · rw [cell_of e1]; rfl
  · rw [cell_of e2]; rfl
  · rw [cell_of e2]; rfl
 obtain ⟨k2, k3, k4, k5, k6⟩ := HCs.out W1 o1 d1
 obtain ⟨ta, tc, htv⟩ := own_shape h1.wm.to
 obtain ⟨TL, hTL⟩ : ∃ TL, T.length = TL := ⟨_, rfl⟩
 rw [hTL] at htv
 have k1 : W1.cell? ⟨wb, 1, none⟩ = some (.slice ta TL tc) := by rw [← htv, cell_of h1.wm.blk]; rfl
 rw [hTL] at hT
 have hpk := pk_lt a TL (by omega)
 obtain ⟨j, hj⟩ : ∃ j : Nat, pk a TL = (j : Int) := ⟨(pk a TL).toNat, by omega⟩
 rw [hj] at hpk
 have hjl : j < T.length := by omega
 obtain ⟨tx, htx⟩ : ∃ tx, T[j] = tx := ⟨_, rfl⟩
 have htz : tx.size ≤ 1000 := by rw [← htx]; exact h.tl.2 _ (List.getElem_mem _)
 have htl := h.tl.1
 have HPk : Hid (∀ W, Calls Tryz.prog 8 #[.int .i64 a, .int .i64 TL] W fun e w' => e = .returned (.int .i64 j) ∧ w' = W) := fun W => by rw [← hj]; exact pick_any a TL W ha64 (by omega) (by omega)
 have hto := h1.wm.to
 rw [htv, hTL] at hto
 obtain ⟨tg, htg, htc, hcc⟩ := own_addr hto (by omega)
 subst htg
 have kj : W1.cell? ⟨tg, j, none⟩ = some (.string tx) := by rw [hcc j (by omega)]; simp [hjl, htx]
 have j0 : (0 : Int) ≤ (j : Int) := by omega
 have j1 : (j : Int) < (TL : Int) := by omega
 have hd1 : decide (a ≥ 0) = true := by simpa using ha
 have hd3 : (0 : Int) ≤ a := ha
 have hd2 : decide ((TL : Int) > 0) = true := by simp; omega
 have hd4 : (0 : Int) < (TL : Int) := by omega
 clear ha hcc hto hpk hj htx hTL htv
 have HP : Hid (∀ W, Fr [] W1 W → Calls Tryz.prog 52 #[.pointer (some ⟨xb, 0, none⟩), .string tx] W (QC fI w0 i lnv B wb sv D q db xb rb ob (.cells #[.int .i64 13, .int .i64 at', .int .i64 a, .int .i64 b, .string t, .slice lo n c] 41 (0, 0)) 53 #[.pointer (some ⟨rb, 0, none⟩), .string tx])) := fun W hW => by
  have hW2 := h1.same hW
  have oW : W.heap[ob]? = some (.cells #[.int .i64 13, .int .i64 at', .int .i64 a, .int .i64 b, .string t, .slice lo n c] 41 (0, 0)) := by rw [hW.block ob (Array.getElem?_eq_some_iff.1 o1).1 (by simp)]; exact o1
  rw [← hdb, ← hxb, ← hrb, ← hlnv, ← hD]
  exact (p_recv (hW2.sd i x hx).1 (hW2.sd i x hx).2 tx (by omega) hq).mono fun e w1 p => p.q hW2 hx oW
 rw [hdb, hD]
 clear h h1 hx o1 d1 hdb hxb hrb hlnv hD
 go_enter Tryz.func18, Tryz.ntmps18
 go_wp2
 go_region_held3 (fun w' => w'.cell? ⟨wb, 1, none⟩ = some (.slice (some ⟨tg, 0, none⟩) TL tc) ∧ w'.cell? ⟨ob, 2, none⟩ = some (.int .i64 a) ∧ w'.cell? ⟨tg, j, none⟩ = some (.string tx))
  (first
   | exact ⟨k1, k2, kj⟩
   | go_keep)
  (first
   | (go_at_call 8; refine (HPk.out _).mono ?_; rintro e w' ⟨rfl, hw'⟩; have hw'' := hw'.symm; subst hw''))
 go_wp2_with (first
  | (go_at_call 53; refine (H4.out _ Fr.dd).mono ?_; rintro e w5 ⟨rfl, l5, b5, o5⟩; have H5 : Hid (LP w0 (some i) B w5 wb sv D (q + 1)) := l5; obtain ⟨z2, z3, z4, z5, z6⟩ := HCs.out w5 o5 b5; clear l5 b5 o5)
  | (go_at_call 52; refine (HP.out _ Fr.dd).mono ?_; rintro e w4 ⟨⟨u, z⟩, rfl, b4, o4, hr4⟩; have H4 : Hid (∀ W, Fr [] w4 W → Calls Tryz.prog 53 #[.pointer (some ⟨rb, 0, none⟩), .string tx] W fun e2 w2 => e2 = .returned (.tuple #[.int .i64 u, .int .i64 z]) ∧ LP w0 (some i) B w2 wb sv D (q + 1) ∧ w2.heap[db]? = some (sdO xb rb lnv) ∧ w2.heap[ob]? = some (.cells #[.int .i64 13, .int .i64 at', .int .i64 a, .int .i64 b, .string t, .slice lo n c] 41 (0, 0))) := hr4; obtain ⟨y2, y3, y4, y5, y6⟩ := HCs.out w4 o4 b4; rw [show fI (u, z) = Value.tuple #[.int .i64 u, .int .i64 z] from rfl]; clear b4 o4 hr4))
 go_ret
 exact ⟨rfl, H5.out⟩
theorem receives_any (w0 : World) (B wb : Nat) (sv tv : Value) (T : List ByteArray) (kv mv : Value) (sds : List SdR) (K M : List (Nat × Nat × Nat)) (q : Nat) (i : Nat) (x : SdR) (at' a b : Int) (t : ByteArray) (lo : Option Addr) (n c : Nat) (w : World) (h : LS w0 none B w wb sv tv T kv mv sds K M q) (hx : sds[i]? = some x) (hq : q ≤ 2000000) (ht : t.size ≤ 2000000) (ha : In64 a) :
  Calls Tryz.prog 18 #[.pointer (some ⟨wb, 0, none⟩), .pointer (some ⟨x.db, 0, none⟩), .agg #[.int .i64 13, .int .i64 at', .int .i64 a, .int .i64 b, .string t, .slice lo n c]] w fun e w' => e = .returned (.bool true) ∧ LP w0 (some i) B w' wb sv (sds.map SdR.db) (q + 1) := by
 by_cases h0 : a < 0
 · exact receives_neg w0 B wb sv tv T kv mv sds K M q i x at' a b t lo n c w h hx hq ht h0
 · by_cases hT : T.length = 0
   · exact receives_nil w0 B wb sv tv T kv mv sds K M q i x at' a b t lo n c w h hx hq ht (by omega) hT
   · exact receives_one w0 B wb sv tv T kv mv sds K M q i x at' a b t lo n c w h hx hq (by omega) ha (by omega)
end Go.Proofs.YthdhegmlknpllaaGreat
