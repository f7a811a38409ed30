import Derived.Test.YthdhegmlknpllaaGreatM32
namespace Go.Proofs.YthdhegmlknpllaaGreat
open Go.RowKit Go.Maps Go.MuLone
attribute [-go_sem] Instr.loadAt Instr.storeAt Instr.build Instr.buildSlice
set_option maxRecDepth 100000 in
set_option maxHeartbeats 12800000 in
theorem rrecv_okn (B b : Nat) (s : RSto) (tx : ByteArray) (w : World) (h : RRep B w b s) (f t m : Int) (nb ln : Nat) (l : List (Int × B4)) (hp : ∀ W, Calls Tryz.prog 81 #[.string tx] W fun e w' => ∃ vN vD, e = .returned (.tuple #[.agg #[.int .i64 f, .int .i64 t, .int .i64 m, .int .i64 (nb : Int), vN, vD], .bool true]) ∧ w'.ownsRow W.heap.size 3 1 vN ln (l.map fun x => Value.int .i64 x.1) ∧ w'.ownsRow W.heap.size 9 1 vD ln (l.map fun x => Value.string x.2.ba) ∧ Fr [] W w') (hl : s.sh.length ≤ 12) (hml : s.ms.length ≤ 12) (hnb : (nb : Int) = s.blocks) (hhs : (s.sh.any (fun x => x.guid == t) || s.ms.any (fun x => x.1 == t)) = false) (hfn : f = rnewest s) (h12 : s.sh.length < 12) (hln : l.length = ln) (hl16 : ln ≤ 16) (hr : ∀ k (h : k < l.length), 0 ≤ l[k].1 ∧ l[k].1 < 16) (hnow : 0 ≤ s.now ∧ s.now ≤ 1000000000000) (y : RSh) (hy : s.sh[s.sh.length - 1]? = some y) (h0 : 0 < s.sh.length) :
  Calls Tryz.prog 53 #[.pointer (some ⟨b, 0, none⟩), .string tx] w fun e w' => e = .returned (.tuple #[.int .i64 t, .int .i64 0]) ∧ ∃ sv, RRep B w' b { s with now := s.now + 2, dat := fD y.dat l, born := fB (s.now + 1) y.born l, sh := s.sh ++ [⟨t, m, 0, s.now + 2, fD y.dat l, fB (s.now + 1) y.born l⟩], sv := sv } ∧ Fr (rfoot b s) w w' ∧ (∀ k, sv.ownBlock = some k → s.sv.ownBlock = some k ∨ w.heap.size ≤ k) := by
 have H81 : Hid (∀ W, Calls Tryz.prog 81 #[.string tx] W fun e w' => ∃ vN vD, e = .returned (.tuple #[.agg #[.int .i64 f, .int .i64 t, .int .i64 m, .int .i64 (nb : Int), vN, vD], .bool true]) ∧ w'.ownsRow W.heap.size 3 1 vN ln (l.map fun x => Value.int .i64 x.1) ∧ w'.ownsRow W.heap.size 9 1 vD ln (l.map fun x => Value.string x.2.ba) ∧ Fr [] W w') := hp
 have HR : Hid (RRep B w b s) := h
 obtain ⟨ao, cap, hsv⟩ := own_shape h.sh
 obtain ⟨sn, hsn⟩ : ∃ sn, s.sh.length = sn := ⟨_, rfl⟩
 rw [hsn] at hsv
 obtain ⟨sb, hsb⟩ : ∃ sb, s.blocks = sb := ⟨_, rfl⟩
 have HSV : Hid (s.sv = .slice ao sn cap) := hsv
 have HNB : Hid (s.blocks = sb) := hsb
 have hst := st143
 have l3 := la3
 have l83 := la80
 have hb2 : ((nb : Int) != (sb : Int)) = false := by rw [← hsb]; simp [hnb]
 have HHs : Hid (∀ W, RRep B W b s → Calls Tryz.prog 64 #[.pointer (some ⟨b, 0, none⟩), .int .i64 t] W fun e w' => e = .returned (.bool false) ∧ w' = W) := fun W hW => by
  have h8 := rhas_any B b s t W hW (by omega) (by omega)
  rw [hhs] at h8
  exact h8
 have HNw : Hid (∀ W, RRep B W b s → Calls Tryz.prog 82 #[.pointer (some ⟨b, 0, none⟩)] W fun e w' => e = .returned (.int .i64 (rnewest s)) ∧ Fr [] W w') := fun W hW => rnewest_any B b s W hW hl
 obtain ⟨nw, hnw⟩ : ∃ nw, rnewest s = nw := ⟨_, rfl⟩
 rw [hnw] at HNw hfn
 have hq : (f != nw) = false := by simpa using hfn
 rw [hsn] at h12 h0
 have hq2 : ¬ (12 : Int) ≤ (sn : Int) := by omega
 have HL : Hid (l.length = ln ∧ s.sh.length = sn ∧ ∀ k (h : k < l.length), 0 ≤ l[k].1 ∧ l[k].1 < 16) := ⟨hln, hsn, hr⟩
 obtain ⟨z0, hz0⟩ : ∃ z0, s.now = z0 := ⟨_, rfl⟩
 have HZ : Hid (s.now = z0) := hz0
 rw [hz0] at hnow
 have p4 : IntKind.i64.wrap (z0 + 1) = z0 + 1 := wrap_fit ⟨by omega, by omega⟩
 have p5 : IntKind.i64.wrap (z0 + 1 + 1) = z0 + 2 := by rw [show z0 + 1 + 1 = z0 + 2 by omega]; exact wrap_fit ⟨by omega, by omega⟩
 have l39 := la39
 have l28 := la28
 have l9 := la9
 have s3 := sa3
 have s9 := sa9
 have s83 := sa83
 obtain ⟨i0, hi0⟩ : ∃ i0, Tryz.prog.info? 117 = some i0 := by
  cases hq : Tryz.prog.info? 117 with
  | none => have := info108; rw [hq] at this; cases this
  | some i => exact ⟨i, rfl⟩
 have hi1 : i0.size = 36 ∧ i0.bytes = 416 := by have := info108; rw [hi0] at this; simpa using this
 obtain ⟨zz0, hzz0, hzs⟩ : ∃ z, i0.zero = some z ∧ z.cells.size = 36 := by
  have := info108z
  rw [hi0] at this
  simpa using this
 have HY : Hid (s.sh[s.sh.length - 1]? = some y) := hy
 clear hnb hhs hfn hnw hz0 hln hr hy
 clear h hp hsv
 go_enter Tryz.func53, Tryz.ntmps53
 go_wp2_with (first
  | (go_at_call 81; refine (H81.out _).mono ?_; rintro e w5 ⟨vN, vD, rfl, hN5, hD5, f5⟩
     obtain ⟨na, nc, hvN⟩ := own_shape hN5
     obtain ⟨da, dc, hvD⟩ := own_shape hD5
     subst hvN
     subst hvD
     have HR6 : Hid (RRep B (w5.alloc (.cells #[.int .i64 f, .int .i64 t, .int .i64 m, .int .i64 (nb : Int), .slice na ln nc, .slice da ln dc] 143)) b s ∧ Fr [] w (w5.alloc (.cells #[.int .i64 f, .int .i64 t, .int .i64 m, .int .i64 (nb : Int), .slice na ln nc, .slice da ln dc] 143))) := ⟨HR.out.kept0 (f5.alloc _), f5.alloc _⟩
     obtain ⟨_, c1, c2, c3, c36, c37⟩ := HR6.out.1.cells
     rw [HSV.out] at c36
     rw [HNB.out] at c1
     have hb6 : (w5.alloc (.cells #[.int .i64 f, .int .i64 t, .int .i64 m, .int .i64 (nb : Int), .slice na ln nc, .slice da ln dc] 143)).heap[w5.heap.size]? = some (.cells #[.int .i64 f, .int .i64 t, .int .i64 m, .int .i64 (nb : Int), .slice na ln nc, .slice da ln dc] 143 (0, 0)) := heap_alloc_new w5 _
     have x0 : (w5.alloc (.cells #[.int .i64 f, .int .i64 t, .int .i64 m, .int .i64 (nb : Int), .slice na ln nc, .slice da ln dc] 143)).cell? ⟨w5.heap.size, 0, none⟩ = some (.int .i64 f) := (by rw [cell_of hb6]; rfl)
     have x1 : (w5.alloc (.cells #[.int .i64 f, .int .i64 t, .int .i64 m, .int .i64 (nb : Int), .slice na ln nc, .slice da ln dc] 143)).cell? ⟨w5.heap.size, 1, none⟩ = some (.int .i64 t) := (by rw [cell_of hb6]; rfl)
     have x2 : (w5.alloc (.cells #[.int .i64 f, .int .i64 t, .int .i64 m, .int .i64 (nb : Int), .slice na ln nc, .slice da ln dc] 143)).cell? ⟨w5.heap.size, 2, none⟩ = some (.int .i64 m) := (by rw [cell_of hb6]; rfl)
     have x3 : (w5.alloc (.cells #[.int .i64 f, .int .i64 t, .int .i64 m, .int .i64 (nb : Int), .slice na ln nc, .slice da ln dc] 143)).cell? ⟨w5.heap.size, 3, none⟩ = some (.int .i64 nb) := (by rw [cell_of hb6]; rfl)
     have HB6 : Hid ((w5.alloc (.cells #[.int .i64 f, .int .i64 t, .int .i64 m, .int .i64 (nb : Int), .slice na ln nc, .slice da ln dc] 143)).heap[w5.heap.size]? = some (.cells #[.int .i64 f, .int .i64 t, .int .i64 m, .int .i64 (nb : Int), .slice na ln nc, .slice da ln dc] 143 (0, 0)) ∧ ((w5.alloc (.cells #[.int .i64 f, .int .i64 t, .int .i64 m, .int .i64 (nb : Int), .slice na ln nc, .slice da ln dc] 143)).ownsRow w.heap.size 3 1 (.slice na ln nc) ln (l.map fun x => Value.int .i64 x.1) ∧ (w5.alloc (.cells #[.int .i64 f, .int .i64 t, .int .i64 m, .int .i64 (nb : Int), .slice na ln nc, .slice da ln dc] 143)).ownsRow w.heap.size 9 1 (.slice da ln dc) ln (l.map fun x => Value.string x.2.ba))) := ⟨hb6, hN5.alloc _, hD5.alloc _⟩
     clear hb6 hN5 hD5 f5 c2 c3 c37))
 obtain ⟨bx, hbx⟩ : ∃ bx, w5.heap.size = bx := ⟨_, rfl⟩
 obtain ⟨W6, hW6⟩ : ∃ W6, w5.alloc (.cells #[.int .i64 f, .int .i64 t, .int .i64 m, .int .i64 (nb : Int), .slice na ln nc, .slice da ln dc] 143) = W6 := ⟨_, rfl⟩
 rw [hbx] at x0 x1 x2 x3 HB6
 rw [hW6] at HR6 c1 c36 x0 x1 x2 x3 HB6
 rw [hW6, hbx]
 clear hW6 hbx
 go_quiet (fail)
 obtain ⟨W7, hW7⟩ : ∃ W7, W6.drewN nq = W7 := ⟨_, rfl⟩
 have HF67 : Hid (Fr [] W6 W7) := by rw [← hW7]; exact (Fr.refl _ _).drewN _
 rw [hW7]
 clear hW7 c1 c36 x0 x1 x2 x3
 have HB7 : Hid (W7.heap[bx]? = some (.cells #[.int .i64 f, .int .i64 t, .int .i64 m, .int .i64 (nb : Int), .slice na ln nc, .slice da ln dc] 143 (0, 0)) ∧ (W7.ownsRow w.heap.size 3 1 (.slice na ln nc) ln (l.map fun x => Value.int .i64 x.1) ∧ W7.ownsRow w.heap.size 9 1 (.slice da ln dc) ln (l.map fun x => Value.string x.2.ba))) := ⟨by rw [HF67.out.block bx (Array.getElem?_eq_some_iff.1 HB6.out.1).1 (by simp)]; exact HB6.out.1, own_fr' HB6.out.2.1 HF67.out, own_fr' HB6.out.2.2 HF67.out⟩
 have HR7 : Hid (RRep B W7 b s ∧ Fr [] w W7) := ⟨HR6.out.1.kept0 HF67.out, HR6.out.2.trans HF67.out (by simp)⟩
 obtain ⟨_, c1, c2, c3, c36, c37⟩ := HR7.out.1.cells
 rw [HSV.out] at c36
 rw [HNB.out] at c1
 have x0 : W7.cell? ⟨bx, 0, none⟩ = some (.int .i64 f) := (by rw [cell_of HB7.out.1]; rfl)
 have x1 : W7.cell? ⟨bx, 1, none⟩ = some (.int .i64 t) := (by rw [cell_of HB7.out.1]; rfl)
 have x2 : W7.cell? ⟨bx, 2, none⟩ = some (.int .i64 m) := (by rw [cell_of HB7.out.1]; rfl)
 have x3 : W7.cell? ⟨bx, 3, none⟩ = some (.int .i64 nb) := (by rw [cell_of HB7.out.1]; rfl)
 clear HR6 HB6 HF67 c2 c3 c37
 go_wp2_with (first
  | (go_at_call 64; refine (HHs.out _ (by first | exact HR7.out.1)).mono ?_; rintro e w' ⟨rfl, hw'⟩; have hw'' := hw'.symm; subst hw''))
 have HNw2 : Hid (∀ W, Fr [] W7 W → Calls Tryz.prog 82 #[.pointer (some ⟨b, 0, none⟩)] W fun e w' => e = .returned (.int .i64 nw) ∧ Fr [] W7 w' ∧ w'.cell? ⟨bx, 0, none⟩ = some (.int .i64 f) ∧ w'.cell? ⟨b, 36, none⟩ = some (.slice ao sn cap)) := fun W hW => (HNw.out W (HR7.out.1.kept0 hW)).mono fun e w' ⟨h1, h2⟩ => ⟨h1, hW.trans h2 (by simp), by rw [cell_of (by rw [(hW.trans h2 (by simp)).block bx (Array.getElem?_eq_some_iff.1 HB7.out.1).1 (by simp)]; exact HB7.out.1)]; rfl, by rw [← HSV.out]; exact (HR7.out.1.kept0 (hW.trans h2 (by simp))).cells.2.2.2.2.1⟩
 go_region_held3 (fun w' => w'.cell? ⟨bx, 0, none⟩ = some (.int .i64 f))
  (first | exact x0 | go_keep)
  (first
   | (go_at_call 82; refine (HNw2.out _ Fr.dd).mono ?_; rintro e w8 ⟨rfl, f8, x0, c36⟩; have H8 : Hid (Fr [] W7 w8) := f8; clear f8))
 all_goals
  have HT8 : Hid (RTk B b s w w8 s bx f t m nb na nc da dc ln l) := by
   refine RTk.same (W := W7) ?_ H8.out
   exact ⟨HR7.out.1, Fr.mono HR7.out.2 (by simp), HB7.out.1, HB7.out.2.1, HB7.out.2.2⟩
  obtain ⟨W1, hW1⟩ : ∃ W1, w8.setCell ⟨b, 2, none⟩ (.int .i64 (z0 + 1)) = W1 := ⟨_, rfl⟩
  have HT1 : Hid (RTk B b s w W1 { s with now := z0 + 1 } bx f t m nb na nc da dc ln l) := by rw [← hW1]; exact HT8.out.now (z0 + 1)
  have d2 : w8.cell? ⟨b, 2, none⟩ = some (.int .i64 z0) := by rw [← HZ.out]; exact HT8.out.rep.cells.2.2.1
  have e2 := HT8.out.rep.frozen 2
  have d36 : W1.cell? ⟨b, 36, none⟩ = some (.slice ao sn cap) := by rw [← HSV.out]; exact HT1.out.rep.cells.2.2.2.2.1
  clear c1
  have hq3 : (0 : Int) < (sn : Int) := by omega
  obtain ⟨gg0, hgg0, hcap0, _⟩ := own_addr' (by have h9 := HT1.out.rep.sh; rw [show ({ s with now := z0 + 1 } : RSto).sv = s.sv from rfl, HSV.out, show ({ s with now := z0 + 1 } : RSto).sh.length = s.sh.length from rfl, HL.out.2.1] at h9; exact h9) (by omega : 0 < sn)
  subst hgg0
  obtain ⟨p, hp⟩ : ∃ p, sn - 1 = p := ⟨_, rfl⟩
  have hp1 : IntKind.i64.wrap ((sn : Int) - 1) = (p : Int) := by rw [show (sn : Int) - 1 = (p : Int) by omega]; exact wrap_fit ⟨by omega, by omega⟩
  have hp0 : (0 : Int) ≤ (p : Int) := by omega
  have hp2 : (p : Int) < (sn : Int) := by omega
  have hps : p < s.sh.length := by rw [HL.out.2.1]; omega
  have hyp : s.sh[p] = y := by
   have h8 := (List.getElem?_eq_some_iff.1 HY.out).2
   have e8 : s.sh.length - 1 = p := by rw [HL.out.2.1]; exact hp
   simp only [e8] at h8
   exact h8
  have hyw : y.wf := HT8.out.rep.wf y (by rw [← hyp]; exact List.getElem_mem _)
  have hcy : (datC y.dat ++ bornC y.born).length = 32 := by simp [datC, bornC, hyw.1, hyw.2]
  have hrg : W1.rangeAt gg0 (p * 36 + 4) (datC y.dat ++ bornC y.born) := fun j v hv => by
   have hj : j < 32 := by have := (List.getElem?_eq_some_iff.1 hv).1; omega
   have h9 := HT1.out.rep.shotC (gg := gg0) (cap := cap) (by rw [show ({ s with now := z0 + 1 } : RSto).sv = s.sv from rfl, HSV.out, show ({ s with now := z0 + 1 } : RSto).sh.length = s.sh.length from rfl, HL.out.2.1]) p hps (4 + j) (by omega)
   rw [show p * 36 + 4 + j = p * 36 + (4 + j) by omega, h9]
   show (s.sh[p].cells)[4 + j]? = some v
   rw [hyp]
   unfold RSh.cells
   rw [List.getElem?_append_right (by simp), show 4 + j - [Value.int .i64 y.guid, .int .i64 y.time, .int .i64 y.holds, .int .i64 y.came].length = j by simp]
   exact hv
  have hlA := run_loadAt_mid (P := Tryz.prog) W1 gg0 (p * 36 + 4) 82 _ _ hrg Tryz.underlying82 rfl (by rw [hcy]; exact size79)
  have hlB := run_loadAt_mid (P := Tryz.prog) W1.drew gg0 (p * 36 + 4) 82 _ _ hrg Tryz.underlying82 rfl (by rw [hcy]; exact size79)
  have hone : (datC y.dat ++ bornC y.born).toArray.all (·.oneCell') = true := all_oneCell_toArray (fun u hu => by
   simp only [List.mem_append, datC, bornC, List.mem_map] at hu
   rcases hu with ⟨_, _, rfl⟩ | ⟨_, _, rfl⟩ <;> rfl)
  have htr : W1.there b 4 (datC y.dat ++ bornC y.born).toArray.size := by
   rw [List.size_toArray, hcy]
   exact HT1.out.rep.thereV
  have hsA := run_storeAt_mid (P := Tryz.prog) W1 b 4 82 (datC y.dat ++ bornC y.born).toArray htr (by rw [List.size_toArray, hcy]; exact size79) hone
  have hsB := run_storeAt_mid (P := Tryz.prog) W1.drew b 4 82 (datC y.dat ++ bornC y.born).toArray htr (by rw [List.size_toArray, hcy]; exact size79) hone
  rw [List.toList_toArray] at hsA hsB
  obtain ⟨W2, hW2⟩ : ∃ W2, W1.setCells b 4 (datC y.dat ++ bornC y.born) = W2 := ⟨_, rfl⟩
  obtain ⟨W2d, hW2d⟩ : ∃ W2d, W1.drew.setCells b 4 (datC y.dat ++ bornC y.born) = W2d := ⟨_, rfl⟩
  have HT2 : Hid (RTk B b s w W2 { s with now := z0 + 1, dat := y.dat, born := y.born } bx f t m nb na nc da dc ln l) := by rw [← hW2]; exact HT1.out.vol y.dat y.born hyw.1 hyw.2
  have HT2d : Hid (RTk B b s w W2d { s with now := z0 + 1, dat := y.dat, born := y.born } bx f t m nb na nc da dc ln l) := by rw [← hW2d]; exact (HT1.out.same (Fr.refl _ _).drew).vol y.dat y.born hyw.1 hyw.2
  obtain ⟨V0, hV0⟩ : ∃ V0, Value.agg (datC y.dat ++ bornC y.born).toArray = V0 := ⟨_, rfl⟩
  rw [hV0] at hlA hlB hsA hsB
  rw [hW2] at hsA
  rw [hW2d] at hsB
  clear hV0 hW2 hW2d hone htr hrg hcy hyw hyp hps hp
  go_wp2
  go_region
  go_wp2
  clear d2 e2 d36 hW1 hq2 hq3 hlA hlB hsA hsB hp0 hp1 hp2 W2 HT2
  have HTL : Hid (RTk B b s w W2d { s with now := z0 + 1, dat := fD y.dat (l.take 0), born := fB (z0 + 1) y.born (l.take 0) } bx f t m nb na nc da dc ln l) := HT2d.out
  go_loopw [9] (fun i wr => ∃ k : Nat, k ≤ ln ∧ i = .int .i64 k ∧ Hid (RTk B b s w wr { s with now := z0 + 1, dat := fD y.dat (l.take k), born := fB (z0 + 1) y.born (l.take k) } bx f t m nb na nc da dc ln l)) (fun i _ => ln - (intOf i).toNat)
  case atStart => exact ⟨0, Nat.zero_le _, rfl, HTL⟩
  case round =>
   obtain ⟨k, hk, rfl, HK⟩ := hrel
   obtain ⟨W3, hW3⟩ : ∃ W3, W3 = wr := ⟨_, rfl⟩
   subst hW3
   obtain ⟨x0, x1, x2, x3, x4, x5⟩ := HK.out.xs
   by_cases hlt : k < ln
   · have hltz : (k : Int) < (ln : Int) := by omega
     have hk0 : (0 : Int) ≤ (k : Int) := by omega
     have hll : k < l.length := by rw [HL.out.1]; exact hlt
     have hnr := HK.out.nr
     have hdr := HK.out.dr
     obtain ⟨ng, hng, hc9, hcn⟩ := own_addr' hnr (by omega)
     obtain ⟨dg, hdg, hc8, hcd⟩ := own_addr' hdr (by omega)
     obtain ⟨j, hj⟩ : ∃ j : Nat, l[k].1 = (j : Int) := ⟨l[k].1.toNat, by have := HL.out.2.2 k hll; omega⟩
     have hj16 : j < 16 := by have := HL.out.2.2 k hll; omega
     obtain ⟨xd, hxd⟩ : ∃ xd, l[k].2.ba = xd := ⟨_, rfl⟩
     have j0 : (0 : Int) ≤ (j : Int) := by omega
     have j1 : (j : Int) < 16 := by omega
     rw [hng] at x4
     rw [hdg] at x5
     have n0 : W3.cell? ⟨ng, k, none⟩ = some (.int .i64 j) := by rw [hcn k (by omega)]; simp [hll, hj]
     have n1 : W3.cell? ⟨dg, k, none⟩ = some (.string xd) := by rw [hcd k (by omega)]; simp [hll, hxd]
     have v2 : W3.cell? ⟨b, 2, none⟩ = some (.int .i64 (z0 + 1)) := HK.out.rep.cells.2.2.1
     obtain ⟨o4, v4⟩ : ∃ o4, W3.cell? ⟨b, 4 + j, none⟩ = some (.string o4) := ⟨_, HK.out.rep.dat j hj16⟩
     have e4 := HK.out.rep.frozen (4 + j)
     obtain ⟨g1, g2, g3⟩ := HK.out.far
     have g2' : ng ≠ b := g2 ng (by rw [hng]; rfl)
     have HB4 := HK.out.blk j hj16 xd (z0 + 1)
     obtain ⟨W4, hW4⟩ : ∃ W4, W3.setCell ⟨b, 4 + j, none⟩ (.string xd) = W4 := ⟨_, rfl⟩
     have R4 : RRep B W4 b { s with now := z0 + 1, dat := (fD y.dat (l.take k)).set j xd, born := fB (z0 + 1) y.born (l.take k) } := by rw [← hW4]; exact HK.out.rep.put (4 + j) (.string xd) (cset_dat _ HK.out.rep.d16 j hj16 xd) (by simp [HK.out.rep.d16]) HK.out.rep.b16 rfl rfl rfl rfl
     have u2 : W4.cell? ⟨b, 2, none⟩ = some (.int .i64 (z0 + 1)) := R4.cells.2.2.1
     obtain ⟨o20, u20⟩ : ∃ o20, W4.cell? ⟨b, 20 + j, none⟩ = some (.int .i64 o20) := ⟨_, R4.bornAt j hj16⟩
     have e20 := R4.frozen (20 + j)
     have ux4 : W4.cell? ⟨bx, 4, none⟩ = some (.slice (some ⟨ng, 0, none⟩) ln nc) := by rw [← hW4, World.cell?_of_block (heap_setCell_other _ _ _ _ g1)]; exact x4
     have un0 : W4.cell? ⟨ng, k, none⟩ = some (.int .i64 j) := by rw [← hW4, World.cell?_of_block (heap_setCell_other _ _ _ _ g2')]; exact n0
     rw [hW4] at HB4
     have HE : Hid (RTk B b s w (W4.setCell ⟨b, 20 + j, none⟩ (.int .i64 (z0 + 1))) { s with now := z0 + 1, dat := fD y.dat (l.take (k + 1)), born := fB (z0 + 1) y.born (l.take (k + 1)) } bx f t m nb na nc da dc ln l) := by
      rw [fD_succ _ _ _ hll, fB_succ _ _ _ _ hll, hj, hxd]
      exact HB4
     clear hnr hdr hcn hcd HB4 R4 hj hxd g1 g2 g3 g2' hng hdg HK
     go_wp2
     go_region
     all_goals
      go_wp2
      go_region
      all_goals
       go_wp2
       go_roundw
       case rel => exact ⟨k + 1, by omega, by go_num, by first | exact HE.out | exact HE.out.same (Fr.refl _ _).drew | exact HE.out.same (Fr.refl _ _).drew.drew⟩
       case measure => simp [intOf]; omega
   · have hkk : k = ln := by omega
     subst hkk
     have htk : l.take k = l := List.take_of_length_le (by have := HL.out.1; omega)
     obtain ⟨D1, hD1⟩ : ∃ D1, fD y.dat l = D1 := ⟨_, rfl⟩
     obtain ⟨B1, hB1⟩ : ∃ B1, fB (z0 + 1) y.born l = B1 := ⟨_, rfl⟩
     rw [htk, hD1, hB1] at HK
     have HDB : Hid (fD y.dat l = D1 ∧ fB (z0 + 1) y.born l = B1) := ⟨hD1, hB1⟩
     clear htk hD1 hB1
     obtain ⟨W5, hW5⟩ : ∃ W5, W3.setCell ⟨b, 2, none⟩ (.int .i64 (z0 + 2)) = W5 := ⟨_, rfl⟩
     have HT5 : Hid (RTk B b s w W5 { s with now := z0 + 2, dat := D1, born := B1 } bx f t m nb na nc da dc k l) := by rw [← hW5]; exact HK.out.now (z0 + 2)
     have v2 : W3.cell? ⟨b, 2, none⟩ = some (.int .i64 (z0 + 1)) := HK.out.rep.cells.2.2.1
     have e2 := HK.out.rep.frozen 2
     have R5 := HT5.out.rep
     have hd16 : D1.length = 16 := R5.d16
     have hb16 : B1.length = 16 := R5.b16
     have v52 : W5.cell? ⟨b, 2, none⟩ = some (.int .i64 (z0 + 2)) := R5.cells.2.2.1
     have v536 : W5.cell? ⟨b, 36, none⟩ = some (.slice (some ⟨gg0, 0, none⟩) sn cap) := by rw [← HSV.out]; exact R5.cells.2.2.2.2.1
     have f36 := R5.frozen 36
     obtain ⟨_, y1, y2, _, _, _⟩ := HT5.out.xs
     have hcl : (datC D1 ++ bornC B1).length = 32 := by simp [datC, bornC, hd16, hb16]
     have hldA := run_loadAt_mid (P := Tryz.prog) W5 b 4 82 _ _ (fun j v hv => R5.range j v hv) Tryz.underlying82 rfl (by rw [hcl]; exact size79)
     have hldB := run_loadAt_mid (P := Tryz.prog) W5.drew b 4 82 _ _ (fun j v hv => R5.range j v hv) Tryz.underlying82 rfl (by rw [hcl]; exact size79)
     have hbd0 : ∀ W, _ := fun W => run_build108 t m (z0 + 2) W _ hcl
     obtain ⟨X, hX⟩ : ∃ X, (Value.int .i64 t :: .int .i64 m :: .int .i64 0 :: .int .i64 (z0 + 2) :: (datC D1 ++ bornC B1)) = X := ⟨_, rfl⟩
     have hXl : X.length = 36 := by rw [← hX]; simp only [List.length_cons, hcl]
     have hbs0 : ∀ W, _ := fun W => run_bslice80 W X hXl
     rw [hX] at hbd0
     have hX1 : ∀ u ∈ X, u.oneCell' = true := by
      rw [← hX]
      intro u hu
      simp only [List.mem_cons, List.mem_append, datC, bornC, List.mem_map] at hu
      rcases hu with rfl | rfl | rfl | rfl | ⟨_, _, rfl⟩ | ⟨_, _, rfl⟩ <;> rfl
     obtain ⟨V, hV⟩ : ∃ V, Value.agg (datC D1 ++ bornC B1).toArray = V := ⟨_, rfl⟩
     obtain ⟨U, hU⟩ : ∃ U, Value.agg X.toArray = U := ⟨_, rfl⟩
     have hla : (Instr.loadAt 82 (.pointer (some ⟨b, 4, none⟩))).run Tryz.prog W5 = .ok V W5 := by rw [← hV]; exact hldA
     have hlb : (Instr.loadAt 82 (.pointer (some ⟨b, 4, none⟩))).run Tryz.prog W5.drew = .ok V W5.drew := by rw [← hV]; exact hldB
     have hbd : ∀ W, (Instr.build 117 #[(0, .int .i64 t), (1, .int .i64 m), (3, .int .i64 (z0 + 2)), (4, V)]).run Tryz.prog W = .ok U W := by rw [← hV, ← hU]; exact hbd0
     have hbs : ∀ W, (Instr.buildSlice 83 1 #[(0, U)]).run Tryz.prog W = .ok (.slice (some ⟨W.heap.size, 0, none⟩) 1 1) (W.alloc (.cells X.toArray 117)) := by rw [← hU]; exact hbs0
     have HX : Hid ((⟨t, m, 0, z0 + 2, D1, B1⟩ : RSh).cells = X ∧ (⟨t, m, 0, z0 + 2, D1, B1⟩ : RSh).wf) := ⟨hX, hd16, hb16⟩
     have HO : Hid (W5.ownsRow B 117 36 (.slice (some ⟨gg0, 0, none⟩) sn cap) sn (rshC s.sh)) := by
      have h9 := R5.sh
      rw [show ({ s with now := z0 + 2, dat := D1, born := B1 } : RSto).sv = s.sv from rfl, HSV.out, show ({ s with now := z0 + 2, dat := D1, born := B1 } : RSto).sh.length = s.sh.length from rfl, HL.out.2.1] at h9
      exact h9
     have hne : (Value.slice (some ⟨gg0, 0, none⟩) sn cap).ownBlock ≠ some b := fun e => (R5.apart.1 b (by rw [show ({ s with now := z0 + 2, dat := D1, born := B1 } : RSto).sv = s.sv from rfl, HSV.out]; exact e)).1 rfl
     have hnx : (Value.slice (some ⟨gg0, 0, none⟩) sn cap).ownBlock ≠ some bx := fun e => by
      obtain ⟨_, cur, h4⟩ := own_tag HO.out e
      rw [HT5.out.box] at h4
      simp at h4
     have lb' : b < W5.heap.size := (R5.lt b (by simp [rfoot])).2
     have lx' : bx < W5.heap.size := (Array.getElem?_eq_some_iff.1 HT5.out.box).1
     have hBw : B ≤ W5.heap.size := by have := R5.hb; omega
     have HSS : Hid (∀ W : World, W.heap[b]? = W5.heap[b]? → W.heap[bx]? = W5.heap[bx]? → (W.cell? ⟨bx, 1, none⟩ = some (.int .i64 t) ∧ W.cell? ⟨bx, 2, none⟩ = some (.int .i64 m) ∧ W.cell? ⟨b, 2, none⟩ = some (.int .i64 (z0 + 2)) ∧ (Instr.loadAt 82 (.pointer (some ⟨b, 4, none⟩))).run Tryz.prog W = .ok V W)) := fun W e1 e2 => by
      refine ⟨?_, ?_, ?_, ?_⟩
      · rw [World.cell?_of_block e2]; exact y1
      · rw [World.cell?_of_block e2]; exact y2
      · rw [World.cell?_of_block e1]; exact v52
      · rw [← hV]
        exact run_loadAt_mid (P := Tryz.prog) W b 4 82 _ _ (fun j v hv => by rw [World.cell?_of_block e1]; exact R5.range j v hv) Tryz.underlying82 rfl (by rw [hcl]; exact size79)
     have HSF : Hid (∀ (w9 : World) (v9 : Value), w9.heap[b]? = W5.heap[b]? → w9.heap[bx]? = W5.heap[bx]? → ((w9.setCell ⟨b, 36, none⟩ v9).cell? ⟨bx, 1, none⟩ = some (.int .i64 t) ∧ (w9.setCell ⟨b, 36, none⟩ v9).cell? ⟨bx, 2, none⟩ = some (.int .i64 m) ∧ (w9.setCell ⟨b, 36, none⟩ v9).cell? ⟨b, 2, none⟩ = some (.int .i64 (z0 + 2)) ∧ (Instr.loadAt 82 (.pointer (some ⟨b, 4, none⟩))).run Tryz.prog (w9.setCell ⟨b, 36, none⟩ v9) = .ok V (w9.setCell ⟨b, 36, none⟩ v9))) := fun w9 v9 e1 e2 => by
      have hb9 : w9.heap[b]? = some (.cells ({ s with now := z0 + 2, dat := D1, born := B1 } : RSto).cells.toArray 86 (0, 0)) := by rw [e1]; exact R5.blk
      have hnb9 : bx ≠ b := HT5.out.far.1
      have h36 := heap_setCell_same w9 b 36 _ _ v9 hb9
      have c36 := cset_sv ({ s with now := z0 + 2, dat := D1, born := B1 } : RSto) hd16 hb16 v9
      have hcell : ∀ j, j ≠ 36 → (w9.setCell ⟨b, 36, none⟩ v9).cell? ⟨b, j, none⟩ = W5.cell? ⟨b, j, none⟩ := fun j hj => by
       rw [cell_of h36, cell_of R5.blk]
       simp [Ne.symm hj]
      have e3 : (w9.setCell ⟨b, 36, none⟩ v9).heap[bx]? = W5.heap[bx]? := by rw [heap_setCell_other _ _ _ _ hnb9]; exact e2
      refine ⟨?_, ?_, ?_, ?_⟩
      · rw [World.cell?_of_block e3]; exact y1
      · rw [World.cell?_of_block e3]; exact y2
      · rw [hcell 2 (by omega)]; exact v52
      · rw [← hV]
        refine run_loadAt_mid (P := Tryz.prog) _ b 4 82 _ _ (fun j v hv => ?_) Tryz.underlying82 rfl (by rw [hcl]; exact size79)
        have hj : j < 32 := by have := (List.getElem?_eq_some_iff.1 hv).1; omega
        rw [hcell (4 + j) (by omega)]
        exact R5.range j v hv
     have q0 := HSS.out W5 rfl rfl
     have q1 := HSS.out W5.drew rfl rfl
     have q2 := HSS.out (W5.alloc (.cells X.toArray 117)) (Below.heap_alloc W5 _ b lb') (Below.heap_alloc W5 _ bx lx')
     have q3 := HSS.out (W5.alloc (.cells X.toArray 117)).drew (Below.heap_alloc W5 _ b lb') (Below.heap_alloc W5 _ bx lx')
     clear hldA hldB hbd0 hbs0 hU hX R5 HHs HNw HNw2 H81 HR7 HB7 H8 HT8 HT1 HTL HK
     go_wp2
     clear v2 e2 hW5 p5 s3 l39 l28 l9 s9 hst hb2 hq p4 x0 x1 x2 x3 x4 x5 hla hlb hV hcl hd16 hb16
     obtain ⟨AG, hAG⟩ : ∃ AG, Value.agg #[.int .i64 f, .int .i64 t, .int .i64 m, .int .i64 (nb : Int), .slice na k nc, .slice da k dc] = AG := ⟨_, rfl⟩
     rw [hAG]
     obtain ⟨TU, hTU⟩ : ∃ TU, Value.tuple #[AG, .bool true] = TU := ⟨_, rfl⟩
     rw [hTU]
     clear hAG hTU
     refine wp_region_held_drew (S := (fun w' => w'.cell? ⟨bx, 1, none⟩ = some (.int .i64 t) ∧ w'.cell? ⟨bx, 2, none⟩ = some (.int .i64 m) ∧ w'.cell? ⟨b, 2, none⟩ = some (.int .i64 (z0 + 2)) ∧ (Instr.loadAt 82 (.pointer (some ⟨b, 4, none⟩))).run Tryz.prog w' = .ok V w')) (by kernel_rfl) q1 (fun hHeld => ?_)
     refine wpAnyH_take (i := 0) (v := ?_) rfl (by kernel_rfl) (by kernel_rfl) (by kernel_rfl) (fun _ _ _ h => h) (Or.inl ⟨by rfl, ?_⟩) (by assumption) ?_
     rotate_left
     · intro w hSw
       (try dsimp only at hSw)
       go_simp
       try with_reducible rfl
     try simp only [Act.put]
     refine wpAnyH_take (i := 1) (v := ?_) rfl (by kernel_rfl) (by kernel_rfl) (by kernel_rfl) (fun _ _ _ h => h) (Or.inl ⟨by rfl, ?_⟩) (by assumption) ?_
     rotate_left
     · intro w hSw
       (try dsimp only at hSw)
       go_simp
       try with_reducible rfl
     try simp only [Act.put]
     refine wpAnyH_take (i := 2) (v := ?_) rfl (by kernel_rfl) (by kernel_rfl) (by kernel_rfl) (fun _ _ _ h => h) (Or.inl ⟨by rfl, ?_⟩) (by assumption) ?_
     rotate_left
     · intro w hSw
       (try dsimp only at hSw)
       go_simp
       try with_reducible rfl
     try simp only [Act.put]
     refine wpAnyH_take (i := 3) (v := ?_) rfl (by kernel_rfl) (by kernel_rfl) (by kernel_rfl) (fun _ _ _ h => h) (Or.inl ⟨by rfl, ?_⟩) (by assumption) ?_
     rotate_left
     · intro w hSw
       (try dsimp only at hSw)
       go_simp
       try with_reducible rfl
     try simp only [Act.put]
     refine wpAnyH_take (i := 5) (v := ?_) rfl (by kernel_rfl) (by kernel_rfl) (by kernel_rfl) (fun _ _ _ h => h) (Or.inl ⟨by rfl, ?_⟩) (by assumption) ?_
     rotate_left
     · intro w hSw
       (try dsimp only at hSw)
       go_simp
       try with_reducible rfl
     try simp only [Act.put]
     refine wpAnyH_take (i := 6) (v := ?_) rfl (by kernel_rfl) (by kernel_rfl) (by kernel_rfl) (fun _ _ _ h => h) (Or.inl ⟨by rfl, ?_⟩) (by assumption) ?_
     rotate_left
     · intro w hSw
       (try dsimp only at hSw)
       go_simp
       try with_reducible rfl
     try simp only [Act.put]
     refine wpAnyH_take (i := 7) (v := ?_) rfl (by kernel_rfl) (by kernel_rfl) (by kernel_rfl) (fun _ _ _ h => h) (Or.inl ⟨by rfl, ?_⟩) (by assumption) ?_
     rotate_left
     · intro w hSw
       (try dsimp only at hSw)
       go_simp
       try with_reducible rfl
     try simp only [Act.put]
     refine wpAnyH_take (i := 8) (v := ?_) rfl (by kernel_rfl) (by kernel_rfl) (by kernel_rfl) (fun _ _ _ h => h) (Or.inl ⟨by rfl, ?_⟩) (by assumption) ?_
     rotate_left
     · intro w hSw
       (try dsimp only at hSw)
       go_simp
       try with_reducible rfl
     try simp only [Act.put]
     refine wpAnyH_take (i := 9) (v := ?_) rfl (by kernel_rfl) (by kernel_rfl) (by kernel_rfl) (fun _ _ _ h => h) (Or.inl ⟨by rfl, ?_⟩) (by assumption) ?_
     rotate_left
     · intro w hSw
       (try dsimp only at hSw)
       go_simp
       try with_reducible rfl
     try simp only [Act.put]
     refine wpAnyH_take (i := 10) (v := ?_) rfl (by kernel_rfl) (by kernel_rfl) (by kernel_rfl) (fun _ _ _ h => h) (Or.inl ⟨by rfl, ?_⟩) (by assumption) ?_
     rotate_left
     · intro w hSw
       (try dsimp only at hSw)
       go_simp
       try with_reducible rfl
     try simp only [Act.put]
     refine wpAnyH_take (i := 11) (v := ?_) rfl (by kernel_rfl) (by kernel_rfl) (by kernel_rfl) (fun _ _ _ h => h) (Or.inl ⟨by rfl, ?_⟩) (by assumption) ?_
     rotate_left
     · intro w hSw
       (try dsimp only at hSw)
       go_simp
       try with_reducible rfl
     try simp only [Act.put]
     refine wpAnyH_take (i := 12) (v := ?_) rfl (by kernel_rfl) (by kernel_rfl) (by kernel_rfl) (fun _ _ _ h => h) (Or.inl ⟨by rfl, ?_⟩) (by assumption) ?_
     rotate_left
     · intro w hSw
       (try dsimp only at hSw)
       go_simp
       try with_reducible rfl
     try simp only [Act.put]
     refine wpAnyH_take (i := 13) (v := ?_) rfl (by kernel_rfl) (by kernel_rfl) (by kernel_rfl) (fun _ _ _ h => h) (Or.inl ⟨by rfl, ?_⟩) (by assumption) ?_
     rotate_left
     · intro w hSw
       (try dsimp only at hSw)
       go_simp
       try with_reducible rfl
     try simp only [Act.put]
     refine wpAnyH_take (i := 14) (v := ?_) rfl (by kernel_rfl) (by kernel_rfl) (by kernel_rfl) (fun _ _ _ h => h) (Or.inl ⟨by rfl, ?_⟩) (by assumption) ?_
     rotate_left
     · intro w hSw
       (try dsimp only at hSw)
       go_simp
       try with_reducible rfl
     try simp only [Act.put]
     refine wpAnyH_take (i := 15) (v := ?_) rfl (by kernel_rfl) (by kernel_rfl) (by kernel_rfl) (fun _ _ _ h => h) (Or.inl ⟨by rfl, ?_⟩) (by assumption) ?_
     rotate_left
     · intro w hSw
       (try dsimp only at hSw)
       go_simp
       try with_reducible rfl
     try simp only [Act.put]
     refine wpAnyH_take (i := 16) (v := ?_) rfl (by kernel_rfl) (by kernel_rfl) (by kernel_rfl) (fun _ _ _ h => h) (Or.inl ⟨by rfl, ?_⟩) (by assumption) ?_
     rotate_left
     · intro w hSw
       (try dsimp only at hSw)
       go_simp
       try with_reducible rfl
     try simp only [Act.put]
     refine wpAnyH_take (i := 17) (v := ?_) rfl (by kernel_rfl) (by kernel_rfl) (by kernel_rfl) (fun _ _ _ h => h) (Or.inl ⟨by rfl, ?_⟩) (by assumption) ?_
     rotate_left
     · intro w hSw
       (try dsimp only at hSw)
       go_simp
       try with_reducible rfl
     try simp only [Act.put]
     have a536 : (W5.alloc (.cells X.toArray 117)).drew.cell? ⟨b, 36, none⟩ = some (.slice (some ⟨gg0, 0, none⟩) sn cap) := (World.cell?_of_block (Below.heap_alloc W5 _ b lb')).trans v536
     have d536 : W5.drew.cell? ⟨b, 36, none⟩ = some (.slice (some ⟨gg0, 0, none⟩) sn cap) := v536
     refine wpAnyH_ready (rs := [4, 18]) (by kernel_rfl) (by simp) ?_
     refine AllReadyH.cons rfl (fun K hK => ?_) (AllReadyH.cons rfl (fun K hK => ?_) AllReadyH.nil)
     · go_simp
       refine hK.out _ _ q1 (fun hHeld => ?_)
       clear hK K
       try simp only [Act.put]
       refine wpAnyH_ready (rs := [18]) (by kernel_rfl) (by simp) ?_
       refine AllReadyH.cons rfl (fun K hK => ?_) AllReadyH.nil
       go_simp
       refine hK.out _ _ q3 (fun hHeld => ?_)
       clear hK K
       try simp only [Act.put]
       refine wpAnyH_ready (rs := [19]) (by kernel_rfl) (by simp) ?_
       refine AllReadyH.cons rfl (fun K hK => ?_) AllReadyH.nil
       (refine step_append_lies _ (by rfl) _ _ _ (by rfl) B 117 i0 _ 36 416 Tryz.underlying83 hi0 hzz0 hi1.1 hi1.2 hzs (by omega) (.slice (some ⟨gg0, 0, none⟩) sn cap) sn (rshC s.sh) (by rfl) ((HO.out.alloc _).drew) ⟨W5.heap.size, 0, none⟩ 1 1 X (by rfl) (by rw [hXl]) (World.news_of_block (cs := X.toArray) (t := 117) (fr := (0, 0)) (heap_alloc_new W5 _)) hX1 (by omega) (by unfold maxLen; omega) (by omega) (by simp; omega) (W5.heap.size + 1) (by simp) ?_; intro gg cap1 w9 hown9 hgrow hat hlt9; have f9 : w9.frozen? ⟨b, 36, none⟩ = false := (hgrow.frozen_far ⟨b, 36, none⟩ (by simp; omega) (Ne.symm hne)).trans (froz_alloc lb' f36); have c9 : w9.cell? ⟨b, 36, none⟩ = some (.slice (some ⟨gg0, 0, none⟩) sn cap) := (hgrow.cell_far ⟨b, 36, none⟩ (by simp; omega) (Ne.symm hne)).trans ((World.cell?_of_block (Below.heap_alloc W5 _ b lb')).trans v536); have eb9 : w9.heap[b]? = W5.heap[b]? := (hgrow.block b (by simp; omega) (Ne.symm hne)).trans (Below.heap_alloc W5 _ b lb'); have ex9 : w9.heap[bx]? = W5.heap[bx]? := (hgrow.block bx (by simp; omega) (Ne.symm hnx)).trans (Below.heap_alloc W5 _ bx lx'); have q4 := HSS.out w9 eb9 ex9; have q5 := HSF.out w9 (.slice (some ⟨gg, 0, none⟩) (sn + 1) cap1) eb9 ex9)
       refine hK.out _ _ q4 (fun hHeld => ?_)
       clear hK K
       try simp only [Act.put]
       refine wpAnyH_take (i := 20) (v := ?_) rfl (by kernel_rfl) (by kernel_rfl) (by kernel_rfl) (fun _ _ _ h => h) (Or.inl ⟨by rfl, ?_⟩) (by assumption) ?_
       rotate_left
       · intro w hSw
         (try dsimp only at hSw)
         go_simp
         try with_reducible rfl
       try simp only [Act.put]
       refine wpAnyH_take (i := 21) (v := ?_) rfl (by kernel_rfl) (by kernel_rfl) (by kernel_rfl) (fun _ _ _ h => h) (Or.inl ⟨by rfl, ?_⟩) (by assumption) ?_
       rotate_left
       · intro w hSw
         (try dsimp only at hSw)
         go_simp
         try with_reducible rfl
       try simp only [Act.put]
       refine wpAnyH_ready (rs := [22]) (by kernel_rfl) (by simp) ?_
       refine AllReadyH.cons rfl (fun K hK => ?_) AllReadyH.nil
       go_simp
       refine hK.out _ _ q5 (fun hHeld => ?_)
       clear hK K
       try simp only [Act.put]
       refine wpAnyH_done (by kernel_rfl) ?_ _
       go_wp2
       go_ret2
       refine ⟨rfl, ?_⟩
       rw [HZ.out, HDB.out.1, HDB.out.2]
       exact rtk_end HT5.out.rep HT5.out.fr HSV.out HL.out.2.1 rfl rfl HX.out.1 HX.out.2 hown9 hgrow hat
     · go_simp
       refine hK.out _ _ q3 (fun hHeld => ?_)
       clear hK K
       try simp only [Act.put]
       refine wpAnyH_ready (rs := [4]) (by kernel_rfl) (by simp) ?_
       refine AllReadyH.cons rfl (fun K hK => ?_) AllReadyH.nil
       go_simp
       refine hK.out _ _ q3 (fun hHeld => ?_)
       clear hK K
       try simp only [Act.put]
       refine wpAnyH_ready (rs := [19]) (by kernel_rfl) (by simp) ?_
       refine AllReadyH.cons rfl (fun K hK => ?_) AllReadyH.nil
       (refine step_append_lies _ (by rfl) _ _ _ (by rfl) B 117 i0 _ 36 416 Tryz.underlying83 hi0 hzz0 hi1.1 hi1.2 hzs (by omega) (.slice (some ⟨gg0, 0, none⟩) sn cap) sn (rshC s.sh) (by rfl) ((HO.out.alloc _).drew) ⟨W5.heap.size, 0, none⟩ 1 1 X (by rfl) (by rw [hXl]) (World.news_of_block (cs := X.toArray) (t := 117) (fr := (0, 0)) (heap_alloc_new W5 _)) hX1 (by omega) (by unfold maxLen; omega) (by omega) (by simp; omega) (W5.heap.size + 1) (by simp) ?_; intro gg cap1 w9 hown9 hgrow hat hlt9; have f9 : w9.frozen? ⟨b, 36, none⟩ = false := (hgrow.frozen_far ⟨b, 36, none⟩ (by simp; omega) (Ne.symm hne)).trans (froz_alloc lb' f36); have c9 : w9.cell? ⟨b, 36, none⟩ = some (.slice (some ⟨gg0, 0, none⟩) sn cap) := (hgrow.cell_far ⟨b, 36, none⟩ (by simp; omega) (Ne.symm hne)).trans ((World.cell?_of_block (Below.heap_alloc W5 _ b lb')).trans v536); have eb9 : w9.heap[b]? = W5.heap[b]? := (hgrow.block b (by simp; omega) (Ne.symm hne)).trans (Below.heap_alloc W5 _ b lb'); have ex9 : w9.heap[bx]? = W5.heap[bx]? := (hgrow.block bx (by simp; omega) (Ne.symm hnx)).trans (Below.heap_alloc W5 _ bx lx'); have q4 := HSS.out w9 eb9 ex9; have q5 := HSF.out w9 (.slice (some ⟨gg, 0, none⟩) (sn + 1) cap1) eb9 ex9)
       refine hK.out _ _ q4 (fun hHeld => ?_)
       clear hK K
       try simp only [Act.put]
       refine wpAnyH_take (i := 20) (v := ?_) rfl (by kernel_rfl) (by kernel_rfl) (by kernel_rfl) (fun _ _ _ h => h) (Or.inl ⟨by rfl, ?_⟩) (by assumption) ?_
       rotate_left
       · intro w hSw
         (try dsimp only at hSw)
         go_simp
         try with_reducible rfl
       try simp only [Act.put]
       refine wpAnyH_take (i := 21) (v := ?_) rfl (by kernel_rfl) (by kernel_rfl) (by kernel_rfl) (fun _ _ _ h => h) (Or.inl ⟨by rfl, ?_⟩) (by assumption) ?_
       rotate_left
       · intro w hSw
         (try dsimp only at hSw)
         go_simp
         try with_reducible rfl
       try simp only [Act.put]
       refine wpAnyH_ready (rs := [22]) (by kernel_rfl) (by simp) ?_
       refine AllReadyH.cons rfl (fun K hK => ?_) AllReadyH.nil
       go_simp
       refine hK.out _ _ q5 (fun hHeld => ?_)
       clear hK K
       try simp only [Act.put]
       refine wpAnyH_done (by kernel_rfl) ?_ _
       go_wp2
       go_ret2
       refine ⟨rfl, ?_⟩
       rw [HZ.out, HDB.out.1, HDB.out.2]
       exact rtk_end HT5.out.rep HT5.out.fr HSV.out HL.out.2.1 rfl rfl HX.out.1 HX.out.2 hown9 hgrow hat
end Go.Proofs.YthdhegmlknpllaaGreat
