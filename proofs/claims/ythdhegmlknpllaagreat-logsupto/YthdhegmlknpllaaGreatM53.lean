import Derived.Test.YthdhegmlknpllaaGreatM49
namespace Go.Proofs.YthdhegmlknpllaaGreat
open Go.RowKit Go.Maps Go.MuLone
set_option maxRecDepth 100000 in
set_option maxHeartbeats 3200000 in
theorem opens_any (w0 : World) (B wb : Nat) (sv tv : Value) (T : List ByteArray) (kv mv : Value) (sds : List SdR) (K M : List (Nat × Nat × Nat)) (q : Nat) (i : Nat) (x : SdR) (k at' a b : Int) (t : ByteArray) (lo : Option Addr) (nn cc : Nat) (w : World) (h : LS w0 none B w wb sv tv T kv mv sds K M q) (hx : sds[i]? = some x) (hq : q ≤ 1900000) (ha : In64 a) :
  Calls Tryz.prog 19 #[.pointer (some ⟨wb, 0, none⟩), .pointer (some ⟨x.db, 0, none⟩), .agg #[.int .i64 k, .int .i64 at', .int .i64 a, .int .i64 b, .string t, .slice lo nn cc]] w fun e w' => e = .returned (.bool true) ∧ ∃ sds', LS w0 none B w' wb sv tv T kv mv sds' K M q ∧ sds'.map SdR.db = sds.map SdR.db := by
 obtain ⟨W1, hW1⟩ : ∃ W1, w.alloc (.cells #[.int .i64 k, .int .i64 at', .int .i64 a, .int .i64 b, .string t, .slice lo nn cc] 41) = W1 := ⟨_, rfl⟩
 obtain ⟨ob, hob⟩ : ∃ ob, w.heap.size = ob := ⟨_, rfl⟩
 have o1 : W1.heap[ob]? = some (.cells #[.int .i64 k, .int .i64 at', .int .i64 a, .int .i64 b, .string t, .slice lo nn cc] 41 (0, 0)) := by rw [← hW1, ← hob]; exact heap_alloc_new w _
 have h1 : LS w0 none B W1 wb sv tv T kv mv sds K M q := h.same (by rw [← hW1]; exact (Fr.refl _ _).alloc _)
 have lnx := h1.ln i x hx
 have sdx := (h1.sd i x hx).1
 have hlog := (h1.sd i x hx).2.lg
 obtain ⟨d, n0, hC⟩ := lnx.2.ch
 have hpos : 0 < x.ps.length := List.length_pos_iff.2 hC.ne
 obtain ⟨g0, lc, hlv0⟩ := own_shape lnx.1.row
 have hrow := lnx.1.row
 rw [hlv0] at hrow
 obtain ⟨g, hg, hnc, _⟩ := own_addr hrow hpos
 subst hg
 have hpre : ∀ (j : Nat) (p : Pt), x.ps[j]? = some p → 7 ≤ p.lg.length ∧ p.lg.length ≤ x.s.log.length ∧ ofL p.lg = (ofL x.s.log).extract 0 p.lg.length := fun j p hp => by
  obtain ⟨z, hzl⟩ : ∃ p, x.ps.getLast? = some p := ⟨_, List.getLast?_eq_some_getLast hC.ne⟩
  obtain ⟨ez, _⟩ := lnx.2.ex (by simp) z hzl
  have hj := (List.getElem?_eq_some_iff.1 hp).1
  have hpC : (x.ps.map Pt.lr)[j]? = some p.lr := by rw [List.getElem?_map, hp]; rfl
  obtain ⟨tl, htl⟩ := hC.pre j ((x.ps.map Pt.lr).length - 1 - j) p.lr z.lr hpC (by rw [show j + ((x.ps.map Pt.lr).length - 1 - j) = (x.ps.map Pt.lr).length - 1 by rw [List.length_map]; omega]; exact map_last hzl)
  have e1 : x.s.log = p.lg ++ tl := by rw [← ez]; exact htl
  obtain ⟨r0, hr0, _⟩ := hC.first
  have h7 := hC.mono (Nat.zero_le j) hr0 hpC
  rw [entN_len] at h7
  refine ⟨h7, by rw [e1, List.length_append]; omega, ?_⟩
  rw [ext_take, e1, List.take_left]
 have hL7 : 7 ≤ x.s.log.length := by
  obtain ⟨p0, hp0⟩ : ∃ p0, x.ps[0]? = some p0 := ⟨_, List.getElem?_eq_getElem hpos⟩
  have := hpre 0 p0 hp0
  omega
 have hTs : (ofL x.s.log).size = x.s.log.length := ofL_size _
 obtain ⟨L, hL⟩ : ∃ L, x.s.log.length = L := ⟨_, rfl⟩
 rw [hL] at hlog hL7
 have hLb : L ≤ 300000000 := by omega
 have hpk := pk_lt a (L + 1) (by omega)
 obtain ⟨c, hc⟩ : ∃ c : Nat, pk a (L + 1) = (c : Int) := ⟨(pk a (L + 1)).toNat, by omega⟩
 rw [hc] at hpk
 have hcL : c ≤ L := by omega
 obtain ⟨A1, hA1⟩ : ∃ A1 : World → Prop, (fun W => Rep B W x.b 0 x.s ∧ Fr (foot x.b x.s) W1 W) = A1 := ⟨_, rfl⟩
 obtain ⟨A2, hA2⟩ : ∃ A2 : Option Addr → Int → World → Prop, PO B W1 x q c = A2 := ⟨_, rfl⟩
 have HPk : Hid (∀ W, Calls Tryz.prog 8 #[.int .i64 a, .int .i64 ((L : Int) + 1)] W fun e w' => e = .returned (.int .i64 (c : Int)) ∧ w' = W) := fun W => by rw [← hc]; exact pick_any a (L + 1) W ha (by omega) (by omega)
 have HL14 : Hid (∀ W, Fr [] W1 W → Calls Tryz.prog 14 #[.pointer (some ⟨x.b, 0, none⟩)] W fun e w' => e = .returned (.string (ofL x.s.log)) ∧ A1 w') := fun W hW => by
  rw [← hA1]
  refine (log_any B x.b x.s W (sdx.rep.kept0 hW) (by omega)).mono ?_
  rintro e w' ⟨rfl, r', f'⟩
  exact ⟨rfl, r', (hW.mono (by simp)).trans f' (fun k hk => Or.inl hk)⟩
 have H20 : Hid (∀ W, A1 W → Calls Tryz.prog 20 #[.string ((ofL x.s.log).extract 0 c)] W fun e w2 => ∃ xp ev, e = .returned (.tuple #[.pointer xp, .int .i64 ev]) ∧ A2 xp ev w2) := fun W hW => by
  rw [← hA1] at hW
  rw [← hA2]
  exact h1.opensTo hx hq c (by omega) hW.1 hW.2
 have HA2s : Hid (∀ xp ev W W', A2 xp ev W → Fr [] W W' → A2 xp ev W') := by rw [← hA2]; exact fun xp ev W W' h f => PO.same h f
 have HA1s : Hid (∀ W W', A1 W → Fr [] W W' → A1 W') := by rw [← hA1]; exact fun W W' h f => ⟨h.1.kept0 f, h.2.trans f (by simp)⟩
 have HC : Hid (∀ W, Fr (foot x.b x.s) W1 W → W.cell? ⟨x.db, 0, none⟩ = some (.pointer (some ⟨x.b, 0, none⟩)) ∧ W.cell? ⟨x.db, 1, none⟩ = some (.pointer (some ⟨x.rb, 0, none⟩)) ∧ W.cell? ⟨x.db, 2, none⟩ = some (.slice (some ⟨g, 0, none⟩) x.ps.length lc) ∧ (∀ j, W.frozen? ⟨x.db, j, none⟩ = false) ∧ ∀ (j : Nat) (p : Pt), x.ps[j]? = some p → W.cell? ⟨g, j * 2, none⟩ = some (.int .i64 p.lg.length) ∧ W.cell? ⟨g, j * 2 + 1, none⟩ = some (.pointer (some ⟨p.c, 0, none⟩))) := fun W hW => by
  obtain ⟨ln, hblk⟩ := h1.lnW hx hW
  have hb : W.heap[x.db]? = some (.cells #[.pointer (some ⟨x.b, 0, none⟩), .pointer (some ⟨x.rb, 0, none⟩), x.lnv] 53 (0, 0)) := hblk
  rw [hlv0] at hb
  have hr := ln.row
  rw [hlv0] at hr
  obtain ⟨_, e1, _, hcc⟩ := own_addr hr hpos
  simp at e1
  subst e1
  refine ⟨by rw [cell_of hb]; rfl, by rw [cell_of hb]; rfl, by rw [cell_of hb]; rfl, fun j => froz_of hb j, fun j p hp => ?_⟩
  have hj := (List.getElem?_eq_some_iff.1 hp).1
  have h8 := ptC_get x.ps j p hp
  rw [hcc (j * 2) (by omega), hcc (j * 2 + 1) (by omega)]
  exact h8
 have HA2c : Hid (∀ xp ev W, A2 xp ev W → Fr (foot x.b x.s) W1 W) := by rw [← hA2]; exact fun xp ev W h => h.2.1
 have HNil : Hid (∀ ev W, A2 none ev W → la (x.ps.map fun p => p.lg.length) c x.ps.length = -1 ∧ ev = 2 ∧ ∃ sds', LS w0 none B W wb sv tv T kv mv sds' K M q ∧ sds'.map SdR.db = sds.map SdR.db) := by
  rw [← hA2]
  rintro ev W ⟨rp, f, ⟨e1, _, e2⟩ | ⟨j, p, b', _, _, e3, _⟩⟩
  · exact ⟨e1, e2, sds, h1.still hx rp f, rfl⟩
  · cases e3
 have HSome : Hid (∀ ad ev W, A2 (some ad) ev W → ∃ (j : Nat) (p : Pt) (b' : Nat), la (x.ps.map fun p => p.lg.length) c x.ps.length = (j : Int) ∧ j < x.ps.length ∧ x.ps[j]? = some p ∧ ad = ⟨b', 0, none⟩ ∧ ev = 0 ∧ S2 W1 x p q b' W) := by
  rw [← hA2]
  rintro ad ev W ⟨rp, f, ⟨_, e2, _⟩ | ⟨j, p, b', e1, e2, e3, e4, hS⟩⟩
  · cases e2
  · exact ⟨j, p, b', e1, (List.getElem?_eq_some_iff.1 e2).1, e2, Option.some.inj e3, e4, hS⟩
 have HIn : Hid (LS w0 none B W1 wb sv tv T kv mv sds K M q ∧ sds[i]? = some x ∧ x.lnv = .slice (some ⟨g, 0, none⟩) x.ps.length lc ∧ ∀ (j : Nat) (p : Pt), x.ps[j]? = some p → 7 ≤ p.lg.length ∧ p.lg.length ≤ L ∧ ofL p.lg = (ofL x.s.log).extract 0 p.lg.length) := ⟨h1, hx, hlv0, by rw [← hL]; exact hpre⟩
 obtain ⟨c0, c1, c2, _⟩ := HC.out W1 (Fr.refl _ _)
 have k2 : W1.cell? ⟨ob, 2, none⟩ = some (.int .i64 a) := by rw [cell_of o1]; rfl
 have HOb : Hid (∀ W, Fr (foot x.b x.s) W1 W → W.cell? ⟨ob, 2, none⟩ = some (.int .i64 a)) := fun W hW => by
  have : W.heap[ob]? = some (.cells #[.int .i64 k, .int .i64 at', .int .i64 a, .int .i64 b, .string t, .slice lo nn cc] 41 (0, 0)) := by
   rw [hW.block ob (Array.getElem?_eq_some_iff.1 o1).1 (fun hm => sdx.no o1 (by decide) (List.mem_append_left _ hm))]
   exact o1
  rw [cell_of this]
  rfl
 have HA1c : Hid (∀ W, A1 W → Fr (foot x.b x.s) W1 W) := by rw [← hA1]; exact fun W h => h.2
 obtain ⟨TT, hTT⟩ : ∃ TT, ofL x.s.log = TT := ⟨_, rfl⟩
 rw [hTT] at HL14 H20 hTs
 rw [hL] at hTs
 obtain ⟨n, hn⟩ : ∃ n, x.ps.length = n := ⟨_, rfl⟩
 obtain ⟨ls, hls⟩ : ∃ ls, (x.ps.map fun p => p.lg.length) = ls := ⟨_, rfl⟩
 rw [hn] at c2
 have HE : Hid (x.ps.length = n ∧ (x.ps.map fun p => p.lg.length) = ls ∧ ofL x.s.log = TT ∧ x.s.log.length = L) := ⟨hn, hls, hTT, hL⟩
 obtain ⟨db, hdb⟩ : ∃ db, x.db = db := ⟨_, rfl⟩
 obtain ⟨xb, hxb⟩ : ∃ xb, x.b = xb := ⟨_, rfl⟩
 obtain ⟨rb, hrb⟩ : ∃ rb, x.rb = rb := ⟨_, rfl⟩
 have HE2 : Hid (x.db = db ∧ x.b = xb ∧ x.rb = rb) := ⟨hdb, hxb, hrb⟩
 have hnp : n ≤ 2000000 := by have := lnx.2.len; omega
 have hls' : ∀ j, j < n → ls.getD j 0 ≤ L := fun j hj => by
  obtain ⟨p, hp⟩ : ∃ p, x.ps[j]? = some p := ⟨_, List.getElem?_eq_getElem (by omega)⟩
  rw [← hls, getD_map hp]
  exact (HIn.out.2.2.2 j p hp).2.1
 have HLs : Hid (∀ W, Fr (foot x.b x.s) W1 W → W.cell? ⟨db, 2, none⟩ = some (.slice (some ⟨g, 0, none⟩) n lc) ∧ ∀ j, j < n → W.cell? ⟨g, j * 2, none⟩ = some (.int .i64 (ls.getD j 0))) := fun W hW => by
  obtain ⟨_, _, x2, _, x4⟩ := HC.out W hW
  rw [hdb, hn] at x2
  refine ⟨x2, fun j hj => ?_⟩
  obtain ⟨p, hp⟩ : ∃ p, x.ps[j]? = some p := ⟨_, List.getElem?_eq_getElem (by omega)⟩
  rw [← hls, getD_map hp]
  exact (x4 j p hp).1
 rw [hdb] at c0 c1 c2
 rw [hxb] at c0
 rw [hrb] at c1
 rw [hxb] at HL14
 rw [hdb]
 clear h h1 hx o1 lnx sdx hlog hC hpos hlv0 hrow hnc hpre hL hTT hn hls hdb hxb hrb hA1 hA2 hc ha hq
 go_enter Tryz.func19, Tryz.ntmps19
 go_wp2_with (first
  | (go_at_call 20; refine (H20.out _ (by first | exact H2.out | exact HA1s.out _ _ H2.out (Fr.refl _ _).drew | exact HA1s.out _ _ H2.out ((Fr.refl _ _).drewN _))).mono ?_; rintro e w3 ⟨xp, ev, rfl, a3⟩; have H3 : Hid (A2 xp ev w3) := a3; clear a3)
  | (go_at_call 8; refine (HPk.out _).mono ?_; rintro e w' ⟨rfl, hw'⟩; have hw'' := hw'.symm; subst hw'')
  | (go_at_call 14; refine (HL14.out _ (by first | exact Fr.refl _ _ | exact (Fr.refl _ _).drew)).mono ?_; rintro e w2 ⟨rfl, a2⟩; have H2 : Hid (A1 w2) := a2; have x2 := HOb.out w2 (HA1c.out w2 a2); clear a2))
 clear HL14 HPk H20 H2 x2 c0 c1 c2 k2 hTs
 go_loopw [11, 12] (fun at' i wr => ∃ t : Nat, t ≤ n ∧ i = .int .i64 t ∧ at' = .int .i64 (la ls c t) ∧ Hid (A2 xp ev wr)) (fun _ i _ => n - (intOf i).toNat)
 case atStart => exact ⟨0, Nat.zero_le _, rfl, rfl, H3⟩
 case round =>
  obtain ⟨t, ht, rfl, rfl, HT⟩ := hrel
  obtain ⟨W3, hW3⟩ : ∃ W3, W3 = wr := ⟨_, rfl⟩
  subst hW3
  clear H3
  obtain ⟨d2, hcl⟩ := HLs.out W3 (HA2c.out _ _ _ HT.out)
  by_cases hlt : t < n
  · have hltz : (t : Int) < (n : Int) := by omega
    have t0 : (0 : Int) ≤ (t : Int) := by omega
    have l0 := hcl t hlt
    have hla : la ls c (t + 1) = if ls.getD t 0 ≤ c then (t : Int) else la ls c t := rfl
    obtain ⟨z, hz⟩ : ∃ z : Nat, ls.getD t 0 = z := ⟨_, rfl⟩
    rw [hz] at l0 hla
    clear hcl hz
    by_cases hzc : z ≤ c
    · have hzz : (z : Int) ≤ (c : Int) := by omega
      rw [if_pos hzc] at hla
      go_wp2
      go_roundw
      case rel => exact ⟨t + 1, by omega, by go_num, by rw [hla], HA2s.out _ _ _ _ HT.out Fr.dd⟩
      case measure => simp [intOf]; omega
    · have hzz : ¬ (z : Int) ≤ (c : Int) := by omega
      rw [if_neg hzc] at hla
      go_wp2
      go_roundw
      case rel => exact ⟨t + 1, by omega, by go_num, by rw [hla], HA2s.out _ _ _ _ HT.out Fr.dd⟩
      case measure => simp [intOf]; omega
  · have htt : t = n := by omega
    subst htt
    cases xp with
    | none =>
     obtain ⟨e1, e2, hfin⟩ := HNil.out ev W3 HT.out
     rw [HE.out.1, HE.out.2.1] at e1
     subst e2
     rw [e1]
     have HF : Hid (∃ sds', LS w0 none B W3 wb sv tv T kv mv sds' K M q ∧ sds'.map SdR.db = sds.map SdR.db) := hfin
     clear hfin e1
     go_wp2
     go_ret
     exact ⟨rfl, by
      obtain ⟨sds', l', e'⟩ := HF.out
      exact ⟨sds', by first | exact l' | exact l'.same (Fr.refl _ _).drew | exact l'.same ((Fr.refl _ _).drewN _), e'⟩⟩
    | some ad =>
     obtain ⟨j, p, b', e1, hj, hp, rfl, rfl, hS⟩ := HSome.out ad ev W3 HT.out
     rw [HE.out.1, HE.out.2.1] at e1
     rw [HE.out.1] at hj
     rw [e1]
     obtain ⟨h7, hpl, hpe⟩ := HIn.out.2.2.2 j p hp
     rw [HE.out.2.2.1] at hpe
     have hmem : p ∈ x.ps := List.mem_of_getElem? hp
     obtain ⟨pl, hpl'⟩ : ∃ pl, p.lg.length = pl := ⟨_, rfl⟩
     obtain ⟨pc, hpc⟩ : ∃ pc, p.c = pc := ⟨_, rfl⟩
     have hjz : (j : Int) < (t : Int) := by omega
     have j0 : (0 : Int) ≤ (j : Int) := by omega
     have HCj : Hid (∀ W, Fr (foot x.b x.s) W1 W → W.cell? ⟨db, 0, none⟩ = some (.pointer (some ⟨xb, 0, none⟩)) ∧ W.cell? ⟨db, 1, none⟩ = some (.pointer (some ⟨rb, 0, none⟩)) ∧ W.cell? ⟨db, 2, none⟩ = some (.slice (some ⟨g, 0, none⟩) t lc) ∧ W.frozen? ⟨db, 0, none⟩ = false ∧ W.frozen? ⟨db, 1, none⟩ = false ∧ W.frozen? ⟨db, 2, none⟩ = false ∧ W.cell? ⟨g, j * 2, none⟩ = some (.int .i64 pl) ∧ W.cell? ⟨g, j * 2 + 1, none⟩ = some (.pointer (some ⟨pc, 0, none⟩))) := fun W hW => by
      obtain ⟨x0, x1, x2, x3, x4⟩ := HC.out W hW
      rw [HE2.out.1] at x0 x1 x2 x3
      rw [HE2.out.2.1] at x0
      rw [HE2.out.2.2] at x1
      rw [HE.out.1] at x2
      obtain ⟨y0, y1⟩ := x4 j p hp
      rw [hpl'] at y0
      rw [hpc] at y1
      exact ⟨x0, x1, x2, x3 0, x3 1, x3 2, y0, y1⟩
     obtain ⟨A3, hA3⟩ : ∃ A3 : Nat → World → Prop, S3 B W1 x p q b' = A3 := ⟨_, rfl⟩
     have HS2 : Hid (S2 W1 x p q b' W3) := hS
     have H15 : Hid (∀ W, Fr [] W3 W → Calls Tryz.prog 15 #[.pointer (some ⟨pc, 0, none⟩)] W fun e w3 => ∃ cb, e = .returned (.pointer (some ⟨cb, 0, none⟩)) ∧ A3 cb w3) := fun W hW => by
      rw [← hA3, ← hpc]
      exact (HS2.out.same hW).clone HIn.out.1 HIn.out.2.1 hmem
     have H54 : Hid (∀ cb W, A3 cb W → Calls Tryz.prog 54 #[.pointer (some ⟨b', 0, none⟩), .pointer (some ⟨cb, 0, none⟩)] W fun e w4 => e = .returned (.bool true) ∧ A3 cb w4) := by rw [← hA3]; exact fun cb W h => S3.tells h
     have H14 : Hid (∀ cb W, A3 cb W → Calls Tryz.prog 14 #[.pointer (some ⟨b', 0, none⟩)] W fun e w5 => e = .returned (.string (TT.extract 0 pl)) ∧ A3 cb w5) := by rw [← hA3, ← hpl', ← hpe]; exact fun cb W h => S3.log h (by omega)
     have HA3c : Hid (∀ cb W, A3 cb W → Fr (foot x.b x.s) W1 W) := by
      rw [← hA3]
      rintro cb W ⟨s', rc, _, _, _, _, _, f⟩
      exact f
     have HFin : Hid (∀ cb W, A3 cb W → ∃ sds', LS w0 none B (((W.setCell ⟨db, 0, none⟩ (.pointer (some ⟨b', 0, none⟩))).setCell ⟨db, 1, none⟩ (.pointer (some ⟨cb, 0, none⟩))).setCell ⟨db, 2, none⟩ (.slice (some ⟨g, 0, none⟩) (j + 1) lc)) wb sv tv T kv mv sds' K M q ∧ sds'.map SdR.db = sds.map SdR.db) := by
      rw [← hA3, ← HE2.out.1]
      exact fun cb W h => HIn.out.1.opened HIn.out.2.1 hp HIn.out.2.2.1 h
     obtain ⟨_, _, _, _, _, _, _, l1⟩ := HCj.out W3 (HA2c.out _ _ _ HT.out)
     have hplL : pl ≤ L := by omega
     have hTL : TT.size = L := by rw [← HE.out.2.2.1, ofL_size]; exact HE.out.2.2.2
     have q1 : IntKind.i64.wrap ((j : Int) + 1) = (j : Int) + 1 := wrap_fit ⟨by omega, by omega⟩
     have j1 : (j : Int) + 1 ≤ (t : Int) := by omega
     have hlct : t ≤ lc := by
      obtain ⟨ln, _⟩ := HIn.out.1.lnW HIn.out.2.1 (HA2c.out _ _ _ HT.out)
      have hr := ln.row
      rw [HIn.out.2.2.1, HE.out.1] at hr
      obtain ⟨_, _, h3, _⟩ := own_addr hr (by omega)
      exact h3
     have j2 : (j : Int) + 1 ≤ (lc : Int) := by omega
     have j3 : (0 : Int) ≤ (j : Int) + 1 := by omega
     have j4 : ((j : Int) + 1).toNat = j + 1 := by omega
     clear hS hA3 hpl hpe hmem hpl' hpc e1 hcl HSome HNil
     go_wp2_with (first
      | (go_at_call 15; refine (H15.out _ Fr.dd).mono ?_; rintro e w4 ⟨cb, rfl, a4⟩; have H4 : Hid (A3 cb w4) := a4; clear a4)
      | (go_at_call 54; refine (H54.out cb w4 H4.out).mono ?_; rintro e w5 ⟨rfl, a5⟩; have H5 : Hid (A3 cb w5) := a5; clear a5)
      | (go_at_call 14; refine (H14.out cb w5 H5.out).mono ?_; rintro e w6 ⟨rfl, a6⟩; have H6 : Hid (A3 cb w6) := a6; obtain ⟨y0, y1, y2, y3, y4, y5, y6, y7⟩ := HCj.out w6 (HA3c.out cb w6 a6); clear a6))
     go_ret
     exact ⟨rfl, HFin.out cb w6 H6.out⟩
end Go.Proofs.YthdhegmlknpllaaGreat
