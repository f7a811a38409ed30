import Derived.Test.YthdhegmlknpllaaGreatM11
import Derived.Test.YthdhegmlknpllaaGreatM29
import Derived.Test.YthdhegmlknpllaaGreatM34
import Derived.Test.YthdhegmlknpllaaGreatM35
namespace Go.Proofs.YthdhegmlknpllaaGreat
open Go.RowKit Go.Maps Go.MuLone
set_option maxRecDepth 100000 in
set_option maxHeartbeats 6400000 in
theorem parse_four (t : ByteArray) (w : World) (h4 : t.size ≤ 4) (hc : ((t.extract (ckAt t) t.size).toList == (chk (t.extract 0 (ckAt t)).data.toList).ba.toList) = true) :
  Calls Tryz.prog 79 #[.string t] w fun e w' => e = .returned (.tuple #[zeroS, .bool false]) ∧ Fr [] w w' := by
 obtain ⟨i0, hi, hz0, hz1, hz2⟩ := info_parts info137
 have hca : ckAt t = 0 := by unfold ckAt; omega
 have e00 : t.extract 0 0 = ByteArray.empty := by simp
 rw [hca, e00] at hc
 have HC : Hid (∀ W, Calls Tryz.prog 107 #[.string ByteArray.empty] W fun e w' => e = .returned (.string (chk ByteArray.empty.data.toList).ba) ∧ Fr [] W w') := fun W => checkOf_any _ W (by show 0 ≤ 2000000; omega)
 obtain ⟨ck, hck⟩ : ∃ ck, (chk ByteArray.empty.data.toList).ba = ck := ⟨_, rfl⟩
 rw [hck] at HC hc
 obtain ⟨n, hn⟩ : ∃ n, t.size = n := ⟨_, rfl⟩
 rw [hn] at hc h4
 have hneg : (n : Int) - 4 ≤ 0 := by omega
 obtain ⟨w0, hw0⟩ : ∃ w0, w.alloc (.cells #[.int .i64 0, .int .i64 0, .int .i64 0, .int .i64 0, .slice none 0 0] 135) = w0 := ⟨_, rfl⟩
 obtain ⟨bx, hbx⟩ : ∃ bx, w.heap.size = bx := ⟨_, rfl⟩
 have b0 : w0.heap[bx]? = some z116 := by rw [← hw0, ← hbx]; exact heap_alloc_new w _
 have HB : Hid (w0.heap[bx]? = some z116 ∧ Fr [] w w0 ∧ w.heap.size = bx ∧ ByteArray.empty.size ≤ 2000000) := ⟨b0, by rw [← hw0]; exact (Fr.refl _ _).alloc _, hbx, by show 0 ≤ 2000000; omega⟩
 have HNR : Hid (∀ W, Calls Tryz.prog 84 #[.string ByteArray.empty] W fun e w' => e = .returned (.pointer (some ⟨W.heap.size, 0, none⟩)) ∧ Rdr w' W.heap.size ByteArray.empty false ∧ Fr [] W w') := fun W => newReader_any _ W
 have HT0 : Hid (∀ W rb, PJ w W bx rb (ByteArray.empty, false) → Calls Tryz.prog 88 #[.pointer (some ⟨rb, 0, none⟩), .int .i64 4] W fun e w' => e = .returned (.string (rdT ByteArray.empty 4)) ∧ PJ w w' bx rb (q1 ByteArray.empty) ∧ Fr [rb] W w') := fun W rb h => h.text
 have HN1 : Hid (∀ W rb, PJ w W bx rb (q1 ByteArray.empty) → Calls Tryz.prog 86 #[.pointer (some ⟨rb, 0, none⟩)] W fun e w' => e = .returned (.int .i64 (qf ByteArray.empty : Int)) ∧ PJ w w' bx rb (q2 ByteArray.empty) ∧ Fr [rb] W w') := fun W rb h => h.number
 have HN2 : Hid (∀ W rb, PJ w W bx rb (q2 ByteArray.empty) → Calls Tryz.prog 86 #[.pointer (some ⟨rb, 0, none⟩)] W fun e w' => e = .returned (.int .i64 (qt ByteArray.empty : Int)) ∧ PJ w w' bx rb (q3 ByteArray.empty) ∧ Fr [rb] W w') := fun W rb h => h.number
 have HN3 : Hid (∀ W rb, PJ w W bx rb (q3 ByteArray.empty) → Calls Tryz.prog 86 #[.pointer (some ⟨rb, 0, none⟩)] W fun e w' => e = .returned (.int .i64 (qm ByteArray.empty : Int)) ∧ PJ w w' bx rb (q4 ByteArray.empty) ∧ Fr [rb] W w') := fun W rb h => h.number
 have HN4 : Hid (∀ W rb, PJ w W bx rb (q4 ByteArray.empty) → Calls Tryz.prog 85 #[.pointer (some ⟨rb, 0, none⟩)] W fun e w' => e = .returned (.int .i64 (qb ByteArray.empty : Int)) ∧ PJ w w' bx rb (q5 ByteArray.empty) ∧ Fr [rb] W w') := fun W rb h => h.byte
 have HN5 : Hid (∀ W rb bs f t' m nb vf l, PK w W bx rb bs (q5 ByteArray.empty) f t' m nb vf l → Calls Tryz.prog 85 #[.pointer (some ⟨rb, 0, none⟩)] W fun e w' => e = .returned (.int .i64 (qn ByteArray.empty : Int)) ∧ PK w w' bx rb bs (q6 ByteArray.empty) f t' m nb vf l) := fun W rb bs f t' m nb vf l h => h.pj.byte.mono fun _ _ ⟨e, a, b⟩ => ⟨e, h.read a b⟩
 have hqn : qn ByteArray.empty < 256 := val_byte _ (rdT_size _ 1)
 have HQ : Hid (((rdBs (q6 ByteArray.empty) (qn ByteArray.empty)).1 = ql ByteArray.empty) ∧ (rdBs (q6 ByteArray.empty) (qn ByteArray.empty)).2 = qe ByteArray.empty) := ⟨rfl, rfl⟩
 obtain ⟨fv, hfv⟩ : ∃ fv, qf ByteArray.empty = fv := ⟨_, rfl⟩
 obtain ⟨tv, htv⟩ : ∃ tv, qt ByteArray.empty = tv := ⟨_, rfl⟩
 obtain ⟨mv, hmv⟩ : ∃ mv, qm ByteArray.empty = mv := ⟨_, rfl⟩
 obtain ⟨nv, hnv⟩ : ∃ nv, qb ByteArray.empty = nv := ⟨_, rfl⟩
 obtain ⟨N, hN⟩ : ∃ N, qn ByteArray.empty = N := ⟨_, rfl⟩
 obtain ⟨r6, hr6⟩ : ∃ r6, q6 ByteArray.empty = r6 := ⟨_, rfl⟩
 obtain ⟨lL, hlL⟩ : ∃ lL, ql ByteArray.empty = lL := ⟨_, rfl⟩
 rw [hfv] at HN1
 rw [htv] at HN2
 rw [hmv] at HN3
 rw [hnv] at HN4
 rw [hN, hr6] at HN5
 rw [hN] at hqn
 rw [hN, hr6, hlL] at HQ
 have hw0' := hw0
 clear hw0 b0 hck hca e00 hfv htv hmv hnv hN hr6 hlL
 go_enter Tryz.func79, Tryz.ntmps79
 go_wp2
 go_region_with
  (first
   | (go_at_call 107; refine (HC.out _).mono ?_; rintro e w5 ⟨rfl, f5⟩; have F5 : Hid (Fr [] w0 w5) := ((Fr.refl [] w0).drew).tr f5; clear f5))
 go_wp2_with (first
     | (go_at_call 84; refine (HNR.out _).mono ?_; rintro e w6 ⟨rfl, r6, f6⟩; have H6 : Hid (PJ w w6 bx w5.heap.size (ByteArray.empty, false)) := ⟨r6, (HB.out.2.1.tr F5.out).tr f6, (by rw [(F5.out.tr f6).block bx (Array.getElem?_eq_some_iff.1 HB.out.1).1 (by simp)]; exact HB.out.1), (HB.out.2.1.tr F5.out).size, HB.out.2.2.2⟩; clear r6 f6)
     | (go_at_call 88; refine (HT0.out _ _ H6.out).mono ?_; rintro e w7 ⟨rfl, r7, f7⟩; have H7 : Hid (PJ w w7 bx w5.heap.size (q1 ByteArray.empty)) := r7; clear r7 f7)
     | (go_at_call 86; refine (HN3.out _ _ H9.out).mono ?_; rintro e w10 ⟨rfl, r10, f10⟩; have H10 : Hid (PJ w w10 bx w5.heap.size (q4 ByteArray.empty)) := r10; clear r10 f10)
     | (go_at_call 86; refine (HN2.out _ _ H8.out).mono ?_; rintro e w9 ⟨rfl, r9, f9⟩; have H9 : Hid (PJ w w9 bx w5.heap.size (q3 ByteArray.empty)) := r9; clear r9 f9)
     | (go_at_call 86; refine (HN1.out _ _ H7.out).mono ?_; rintro e w8 ⟨rfl, r8, f8⟩; have H8 : Hid (PJ w w8 bx w5.heap.size (q2 ByteArray.empty)) := r8; clear r8 f8)
     | (go_at_call 85; refine (HN5.out _ _ _ _ _ _ _ _ _ HX.out).mono ?_; rintro e w12 ⟨rfl, r12⟩; have H12 : Hid (PK w w12 bx w5.heap.size w11.heap.size r6 fv tv mv nv (.slice none 0 0) []) := r12; clear r12)
     | (go_at_call 85; refine (HN4.out _ _ H10.out).mono ?_; rintro e w11 ⟨rfl, r11, f11⟩; have HX : Hid (PK w (w11.alloc (.cells #[.int .i64 fv, .int .i64 tv, .int .i64 mv, .int .i64 nv, .slice none 0 0] 135)) bx w5.heap.size w11.heap.size (q5 ByteArray.empty) fv tv mv nv (.slice none 0 0) []) := ⟨r11.alloc _, heap_alloc_new w11 _, World.ownsRow_nil _ _ _ _, r11.fr.size, Nat.ne_of_gt (Array.getElem?_eq_some_iff.1 r11.box).1⟩; clear r11 f11))
 obtain ⟨sg, hsg⟩ : ∃ sg, ((rdT ByteArray.empty 4).toList == [83, 78, 68, 49]) = sg := ⟨_, rfl⟩
 have HSG : Hid (((rdT ByteArray.empty 4).toList == [83, 78, 68, 49]) = sg) := hsg
 rw [hsg]
 obtain ⟨rb, hrb⟩ : ∃ rb, w5.heap.size = rb := ⟨_, rfl⟩
 obtain ⟨bs, hbs⟩ : ∃ bs, w11.heap.size = bs := ⟨_, rfl⟩
 rw [hrb, hbs] at H12
 rw [hrb, hbs]
 clear hsg hrb hbs HX H10 H9 H8 H7 H6 HN1 HN2 HN3 HN4 HN5 HT0 HNR HC F5 hw0' hc hneg h4
 go_loopw [40] (fun i wr => ∃ (k : Nat) (vf : Value), k ≤ N ∧ i = .int .i64 k ∧ Hid (PK w wr bx rb bs (rdBs r6 k).2 fv tv mv nv vf (rdBs r6 k).1)) (fun i _ => N - (intOf i).toNat)
 case atStart => exact ⟨0, _, Nat.zero_le _, rfl, H12⟩
 case round =>
  obtain ⟨k, vf, hk, rfl, HK⟩ := hrel
  obtain ⟨W3, hW3⟩ : ∃ W3, W3 = wr := ⟨_, rfl⟩
  subst hW3
  clear H12
  have hlen := rdBs_len r6 k
  obtain ⟨fa, fc, hsh⟩ := own_shape HK.out.row
  rw [hlen] at hsh
  subst hsh
  by_cases hlt : k < N
  · have hltz : (k : Int) < (N : Int) := by omega
    have hsucc := rdBs_succ r6 k
    obtain ⟨l, hl⟩ : ∃ l, (rdBs r6 k).1 = l := ⟨_, rfl⟩
    obtain ⟨r, hr⟩ : ∃ r, (rdBs r6 k).2 = r := ⟨_, rfl⟩
    rw [hl, hr] at HK
    rw [hl] at hlen
    rw [hl, hr] at hsucc
    have HBy : Hid (Calls Tryz.prog 85 #[.pointer (some ⟨rb, 0, none⟩)] W3 fun e w' => e = .returned (.int .i64 (valN (rdT r.1 1).data.toList : Int)) ∧ PK w w' bx rb bs (rdN r 1) fv tv mv nv (.slice fa k fc) l) := HK.out.pj.byte.mono fun _ _ ⟨e, a, b⟩ => ⟨e, HK.out.read a b⟩
    have HTx : Hid (∀ W, PK w W bx rb bs (rdN r 1) fv tv mv nv (.slice fa k fc) l → Calls Tryz.prog 88 #[.pointer (some ⟨rb, 0, none⟩), .int .i64 4] W fun e w' => e = .returned (.string (rdT (rdN r 1).1 4)) ∧ PK w w' bx rb bs (rdN (rdN r 1) 4) fv tv mv nv (.slice fa k fc) l ∧ Fr [rb] W w') := fun W h => h.pj.text.mono fun _ _ ⟨e, a, b⟩ => ⟨e, h.read a b, b⟩
    have hxs := rdT_two (rdN r 1).1 4
    obtain ⟨z, hz⟩ : ∃ z, valN (rdT r.1 1).data.toList = z := ⟨_, rfl⟩
    obtain ⟨x, hx⟩ : ∃ x, rdT (rdN r 1).1 4 = x := ⟨_, rfl⟩
    obtain ⟨r1, hr1⟩ : ∃ r1, rdN r 1 = r1 := ⟨_, rfl⟩
    rw [hz] at HBy
    rw [hx] at HTx hxs
    rw [hz, hx] at hsucc
    rw [hr1] at HBy HTx hsucc
    have HS : Hid (rdBs r6 (k + 1) = (l ++ [((z : Int), b4 x)], rdN r1 4) ∧ l.length = k ∧ (x.size = 0 ∨ x.size = 4)) := ⟨hsucc, hlen, hxs⟩
    obtain ⟨y, hy⟩ : ∃ y, b4 x = y := ⟨_, rfl⟩
    have HCP : Hid (∀ (w : World) (b8 : Nat), w.heap[b8]? = some (.cells #[.int .i64 (z : Int), .int .u8 0, .int .u8 0, .int .u8 0, .int .u8 0] 137 (0, 0)) → ∃ w', (∀ ty, (Builtin.copy_ #[74, 9] ty #[.slice (some ⟨b8, 1, none⟩) 4 4, .string x]).run Tryz.prog w = .ok (goInt x.size) w') ∧ w'.heap[b8]? = some (.cells #[.int .i64 (z : Int), .int .u8 (y.a.toNat : Int), .int .u8 (y.b.toNat : Int), .int .u8 (y.c.toNat : Int), .int .u8 (y.d.toNat : Int)] 137 (0, 0)) ∧ Fr [b8] w w') := fun w b8 h => by
     obtain ⟨w', a, b, c⟩ := copy4 w b8 z x h hxs
     rw [hy] at b
     exact ⟨w', a, b, c⟩
    rw [hy] at HS
    clear hlen hsucc hxs hl hr hz hx hr1 hy HK
    go_wp2_with (go_at_call 85; refine HBy.out.mono ?_; rintro e w13 ⟨rfl, r13⟩; have H13 : Hid (PK w (w13.alloc (.cells #[.int .i64 (z : Int), .int .u8 0, .int .u8 0, .int .u8 0, .int .u8 0] 137)) bx rb bs r1 fv tv mv nv (.slice fa k fc) l ∧ PK w w13 bx rb bs r1 fv tv mv nv (.slice fa k fc) l) := ⟨r13.alloc _, r13⟩; clear r13)
    obtain ⟨b8, hb8⟩ : ∃ b8, w13.heap.size = b8 := ⟨_, rfl⟩
    have H8 : Hid ((w13.alloc (.cells #[.int .i64 (z : Int), .int .u8 0, .int .u8 0, .int .u8 0, .int .u8 0] 137)).heap[b8]? = some (.cells #[.int .i64 (z : Int), .int .u8 0, .int .u8 0, .int .u8 0, .int .u8 0] 137 (0, 0)) ∧ (b8 ≠ bx ∧ b8 ≠ rb ∧ b8 ≠ bs) ∧ (∀ k', (Value.slice fa k fc).ownBlock = some k' → k' ≠ b8) ∧ w.heap.size ≤ b8) := by
     obtain ⟨l1, l2, l3, l4⟩ := H13.out.2.lts
     refine ⟨by rw [← hb8]; exact heap_alloc_new w13 _, ⟨by omega, by omega, by omega⟩, fun k' hk' => by have := l4 k' hk'; omega, by rw [← hb8]; exact H13.out.2.pj.fr.size⟩
    rw [hb8]
    have H13' : Hid (PK w (w13.alloc (.cells #[.int .i64 (z : Int), .int .u8 0, .int .u8 0, .int .u8 0, .int .u8 0] 137)) bx rb bs r1 fv tv mv nv (.slice fa k fc) l) := H13.out.1
    obtain ⟨wa, hwa⟩ : ∃ wa, w13.alloc (.cells #[.int .i64 (z : Int), .int .u8 0, .int .u8 0, .int .u8 0, .int .u8 0] 137) = wa := ⟨_, rfl⟩
    rw [hwa] at H8 H13'
    rw [hwa]
    clear hwa hb8 H13 HBy
    go_region_with
     (first
      | (go_at_call 88; refine (HTx.out _ H13'.out.drew).mono ?_; rintro e w14 ⟨rfl, r14, f14⟩
         obtain ⟨w15, hcp, hb15, f15⟩ := HCP.out w14 b8 (by rw [f14.block b8 (Array.getElem?_eq_some_iff.1 H8.out.1).1 (by simpa using H8.out.2.1.2.1)]; exact H8.out.1)
         have H15 : Hid (PK w w15 bx rb bs (rdN r1 4) fv tv mv nv (.slice fa k fc) l ∧ w15.heap[b8]? = some (.cells #[.int .i64 (z : Int), .int .u8 (y.a.toNat : Int), .int .u8 (y.b.toNat : Int), .int .u8 (y.c.toNat : Int), .int .u8 (y.d.toNat : Int)] 137 (0, 0))) := ⟨r14.other f15 H8.out.2.1 H8.out.2.2.1 H8.out.2.2.2, hb15⟩
         clear r14 f14 f15 hb15))
    all_goals
     clear hcp
     have e0 : w15.cell? ⟨b8, 0, none⟩ = some (.int .i64 (z : Int)) := by rw [cell_of H15.out.2]; rfl
     have e1 : w15.cell? ⟨b8, 1, none⟩ = some (.int .u8 (y.a.toNat : Int)) := by rw [cell_of H15.out.2]; rfl
     have e2 : w15.cell? ⟨b8, 2, none⟩ = some (.int .u8 (y.b.toNat : Int)) := by rw [cell_of H15.out.2]; rfl
     have e3 : w15.cell? ⟨b8, 3, none⟩ = some (.int .u8 (y.c.toNat : Int)) := by rw [cell_of H15.out.2]; rfl
     have e4 : w15.cell? ⟨b8, 4, none⟩ = some (.int .u8 (y.d.toNat : Int)) := by rw [cell_of H15.out.2]; rfl
     have x4 : w15.cell? ⟨bs, 4, none⟩ = some (.slice fa k fc) := by rw [cell_of H15.out.1.box]; rfl
     have lbs : bs < w15.heap.size := World.block_lt_of_cell? _ _ x4
     have HNW : Hid (∀ j u, [Value.int .i64 (z : Int), .int .u8 (y.a.toNat : Int), .int .u8 (y.b.toNat : Int), .int .u8 (y.c.toNat : Int), .int .u8 (y.d.toNat : Int)][j]? = some u → (w15.alloc (.cells #[.int .i64 (z : Int), .int .u8 (y.a.toNat : Int), .int .u8 (y.b.toNat : Int), .int .u8 (y.c.toNat : Int), .int .u8 (y.d.toNat : Int)] 137)).cell? ((⟨w15.heap.size, 0, none⟩ : Addr).add j) = some u) := World.news_of_block (cs := #[.int .i64 (z : Int), .int .u8 (y.a.toNat : Int), .int .u8 (y.b.toNat : Int), .int .u8 (y.c.toNat : Int), .int .u8 (y.d.toNat : Int)]) (t := 137) (fr := (0, 0)) (heap_alloc_new w15 _)
     have HRow : Hid (w15.ownsRow w.heap.size 137 5 (.slice fa k fc) k (blC l)) := by
      have := H15.out.1.row
      rw [HS.out.2.1] at this
      exact this
     have hwle : w.heap.size ≤ w15.heap.size := H15.out.1.pj.fr.size
     go_wp2_with (at_builtin; refine wpList_append_own _ rfl _ _ 133 rfl w.heap.size 137 i0 _ 5 16 Tryz.underlying133 hi hz0 hz1 hz2 rfl (by omega) (.slice fa k fc) k (blC l) rfl (HRow.out.alloc _) ⟨w15.heap.size, 0, none⟩ 1 1 [.int .i64 (z : Int), .int .u8 (y.a.toNat : Int), .int .u8 (y.b.toNat : Int), .int .u8 (y.c.toNat : Int), .int .u8 (y.d.toNat : Int)] rfl rfl HNW.out (by simp [Value.oneCell']) (by unfold maxLen; omega) (by omega) (by simp; omega) ?_; intro v9 w9 hown9 hgrow9 hne9; obtain ⟨a9, k9, hv9⟩ := own_shape hown9; subst hv9; have HP := (H15.out.1.alloc (.cells #[.int .i64 (z : Int), .int .u8 (y.a.toNat : Int), .int .u8 (y.b.toNat : Int), .int .u8 (y.c.toNat : Int), .int .u8 (y.d.toNat : Int)] 137)).push (x := ((z : Int), y)) (by rw [HS.out.2.1]; exact hown9) hgrow9; have H9 : Hid (PK w (w9.setCell ⟨bs, 4, none⟩ (.slice a9 (k + 1) k9)) bx rb bs (rdN r1 4) fv tv mv nv (.slice a9 (k + 1) k9) (l ++ [((z : Int), y)])) := HP.1; have x9 := HP.2.1; have z9 := HP.2.2; clear HP hown9 hgrow9 hne9)
     go_roundw
     case rel => exact ⟨k + 1, _, by omega, by go_num, by rw [HS.out.1]; exact H9⟩
     case measure => simp [intOf]; omega
  · have hkk : k = N := by omega
    subst hkk
    rw [HQ.out.1, HQ.out.2] at HK
    rw [HQ.out.1] at hlen
    have HX : Hid (lL.length = k) := hlen
    clear hlen
    have y0 : W3.cell? ⟨bx, 0, none⟩ = some (.int .i64 0) := by have := HK.out.pj.box; unfold z116 at this; rw [cell_of this]; rfl
    have y1 : W3.cell? ⟨bx, 1, none⟩ = some (.int .i64 0) := by have := HK.out.pj.box; unfold z116 at this; rw [cell_of this]; rfl
    have y2 : W3.cell? ⟨bx, 2, none⟩ = some (.int .i64 0) := by have := HK.out.pj.box; unfold z116 at this; rw [cell_of this]; rfl
    have y3 : W3.cell? ⟨bx, 3, none⟩ = some (.int .i64 0) := by have := HK.out.pj.box; unfold z116 at this; rw [cell_of this]; rfl
    have y4 : W3.cell? ⟨bx, 4, none⟩ = some (.slice none 0 0) := by have := HK.out.pj.box; unfold z116 at this; rw [cell_of this]; rfl
    have zz : ∀ j, W3.frozen? ⟨bx, j, none⟩ = false := fun j => by have := HK.out.pj.box; unfold z116 at this; exact froz_of this j
    have z0 := zz 0
    have z1 := zz 1
    have z2 := zz 2
    have z3 := zz 3
    have z4 := zz 4
    clear zz
    have HE : Hid (Calls Tryz.prog 87 #[.pointer (some ⟨rb, 0, none⟩)] W3 fun e w' => e = .returned (.bool (decide ((qe ByteArray.empty).1.size = 0) && !(qe ByteArray.empty).2)) ∧ w' = W3) := ended_any rb _ _ W3 HK.out.pj.rd
    have hbs : w.heap.size ≤ bx := Nat.le_of_eq HB.out.2.2.1
    have HF5 : Hid (∀ W a b c' d e, Fr [] w W → Fr [] w (((((W.setCell ⟨bx, 0, none⟩ a).setCell ⟨bx, 1, none⟩ b).setCell ⟨bx, 2, none⟩ c').setCell ⟨bx, 3, none⟩ d).setCell ⟨bx, 4, none⟩ e)) := fun W a b c' d e h => ((((h.setCell _ (Or.inr hbs)).setCell _ (Or.inr hbs)).setCell _ (Or.inr hbs)).setCell _ (Or.inr hbs)).setCell _ (Or.inr hbs)
    cases sg with
    | false =>
     go_wp2
     refine bodyPost_ret (v := .tuple #[zeroS, .bool false]) ?_ rfl ⟨rfl, HF5.out _ _ _ _ _ _ HK.out.pj.fr⟩
     rw [results_cell_tmp rfl]
     go_simp
     rfl
    | true =>
     exfalso
     have h9 := HSG.out
     rw [ByteArray.toList_eq] at h9
     have h8 : (rdT ByteArray.empty 4).data.toList = [] := by
      unfold rdT
      rw [if_pos (by show 0 < 4; omega)]
     rw [h8] at h9
     cases h9
theorem rdBs_small (r : RS) : ∀ k, ∀ x ∈ (rdBs r k).1, 0 ≤ x.1 ∧ x.1 < 256
 | 0, x, hx => by simp [rdBs] at hx
 | k + 1, x, hx => by
  rw [rdBs_succ] at hx
  rcases List.mem_append.1 hx with hx | hx
  · exact rdBs_small r k x hx
  · have e := List.mem_singleton.1 hx
    rw [e]
    have := val_byte (rdT (rdBs r k).2.1 1) (rdT_size _ 1)
    show 0 ≤ ((valN (rdT (rdBs r k).2.1 1).data.toList : Nat) : Int) ∧ ((valN (rdT (rdBs r k).2.1 1).data.toList : Nat) : Int) < 256
    omega
structure StrOk (tx : ByteArray) (f t m : Int) (nb : Nat) (l : List (Int × B4)) : Prop where
 may : MayB f t m nb l
 size : tx.size = 22 + 5 * l.length
 len : l.length ≤ 16
 m0 : 0 ≤ m
theorem read_both (tx : ByteArray) (hz : tx.size ≤ 2000000) :
  (∃ f t m nb l, StrOk tx f t m nb l ∧ (∀ W, Calls Tryz.prog 79 #[.string tx] W fun e w' => ∃ v, e = .returned (.tuple #[.agg #[.int .i64 f, .int .i64 t, .int .i64 m, .int .i64 (nb : Int), v], .bool true]) ∧ w'.ownsRow W.heap.size 137 5 v l.length (blC l) ∧ Fr [] W w') ∧ ∀ W, Calls Tryz.prog 81 #[.string tx] W fun e w' => ∃ vN vD, e = .returned (.tuple #[.agg #[.int .i64 f, .int .i64 t, .int .i64 m, .int .i64 (nb : Int), vN, vD], .bool true]) ∧ w'.ownsRow W.heap.size 3 1 vN l.length (l.map fun x => Value.int .i64 x.1) ∧ w'.ownsRow W.heap.size 9 1 vD l.length (l.map fun x => Value.string x.2.ba) ∧ Fr [] W w') ∨
  ((∀ W, Calls Tryz.prog 79 #[.string tx] W fun e w' => e = .returned (.tuple #[zeroS, .bool false]) ∧ Fr [] W w') ∧ ∀ W, Calls Tryz.prog 81 #[.string tx] W fun e w' => (∃ x, e = .returned (.tuple #[.agg x, .bool false]) ∧ SixV x) ∧ Fr [] W w') := by
 obtain ⟨u, hu⟩ : ∃ u, tx.extract 0 (ckAt tx) = u := ⟨_, rfl⟩
 have husz : u.size = tx.size - 4 := by rw [← hu, ByteArray.size_extract]; unfold ckAt; omega
 have hql : (ql u).length = qn u := by unfold ql; exact rdBs_len _ _
 have hqn : qn u < 256 := by unfold qn; exact val_byte _ (rdT_size _ 1)
 have hsm : ∀ x ∈ ql u, 0 ≤ x.1 ∧ x.1 < 256 := fun x hx => by unfold ql at hx; exact rdBs_small _ _ x hx
 have prog : ∀ (mb ok : Bool), (mb = true ↔ MayB (qf u) (qt u) (qm u) (qb u) (ql u)) → (ok = true ↔ rdT u 4 = ⟨#[83, 78, 68, 49]⟩ ∧ (qe u).2 = false ∧ (qe u).1.size = 0 ∧ mb = true) → 5 ≤ tx.size → ((tx.extract (ckAt tx) tx.size).toList == (chk u.data.toList).ba.toList) = true → ∀ W, Calls Tryz.prog 79 #[.string tx] W fun e w' => (ok = false → e = .returned (.tuple #[zeroS, .bool false])) ∧ (ok = true → ∃ v, e = .returned (.tuple #[.agg #[.int .i64 (qf u : Int), .int .i64 (qt u : Int), .int .i64 (qm u : Int), .int .i64 (qb u : Int), v], .bool true]) ∧ w'.ownsRow W.heap.size 137 5 v (ql u).length (blC (ql u))) ∧ Fr [] W w' := fun mb ok hmb hok h5 hc W => by
  have h8 := parse_any tx W hz h5 (by rw [hu]; exact hc) ok mb (by rw [hu]; exact hok) (by
   rw [hu]
   intro W' v ho
   exact mayBe_any (qf u) (qt u) (qm u) (qb u) (ql u) v _ W' ho (by omega) (by omega) hsm mb hmb)
  rw [hu] at h8
  exact h8
 have no : ∀ (_ : 5 ≤ tx.size) (_ : ((tx.extract (ckAt tx) tx.size).toList == (chk u.data.toList).ba.toList) = true), ¬ (rdT u 4 = ⟨#[83, 78, 68, 49]⟩ ∧ (qe u).2 = false ∧ (qe u).1.size = 0 ∧ MayB (qf u) (qt u) (qm u) (qb u) (ql u)) → ∀ W, Calls Tryz.prog 79 #[.string tx] W fun e w' => e = .returned (.tuple #[zeroS, .bool false]) ∧ Fr [] W w' := fun h5 hc hn W => by
  by_cases hM : MayB (qf u) (qt u) (qm u) (qb u) (ql u)
  · exact (prog true false ⟨fun _ => hM, fun _ => rfl⟩ ⟨fun h => (by cases h), fun h => absurd ⟨h.1, h.2.1, h.2.2.1, hM⟩ hn⟩ h5 hc W).mono fun e w' ⟨a, _, c⟩ => ⟨a rfl, c⟩
  · exact (prog false false ⟨fun h => (by cases h), fun h => absurd h hM⟩ ⟨fun h => (by cases h), fun h => (by cases h.2.2.2)⟩ h5 hc W).mono fun e w' ⟨a, _, c⟩ => ⟨a rfl, c⟩
 by_cases h22 : 22 ≤ tx.size
 · obtain ⟨a0, a1, a2, a3, a4, a5, a6⟩ := q_same tx h22
   rw [hu] at a0 a1 a2 a3 a4 a5 a6
   by_cases hc : ((tx.extract (ckAt tx) tx.size).toList == (chk u.data.toList).ba.toList) = true
   · have hc' : ((chk (tx.extract 0 (ckAt tx)).data.toList).ba.toList == (tx.extract (ckAt tx) tx.size).toList) = true := by rw [hu, beq_swap]; exact hc
     by_cases hs : ((tx.extract 0 4).toList == [83, 78, 68, 49]) = true
     · have hs' : rdT u 4 = ⟨#[83, 78, 68, 49]⟩ := by
         rw [a0]
         rw [ByteArray.toList_eq] at hs
         refine ofL_ext ?_
         simpa using hs
       by_cases hsz : tx.size = 22 + 5 * qn u
       · obtain ⟨b1, b2, b3⟩ := a6 hsz
         by_cases hM : MayB (qf u) (qt u) (qm u) (qb u) (ql u)
         · left
           obtain ⟨m1, m2, m3, m4, m5, m6, m7⟩ := hM
           have hle := rises_le m7 (by omega)
           refine ⟨qf u, qt u, qm u, qb u, ql u, ⟨⟨m1, m2, m3, m4, m5, m6, m7⟩, by rw [hql]; exact hsz, by omega, by omega⟩, fun W => ?_, fun W => ?_⟩
           · exact (prog true true ⟨fun _ => ⟨m1, m2, m3, m4, m5, m6, m7⟩, fun _ => rfl⟩ ⟨fun _ => ⟨hs', b1, b2, rfl⟩, fun _ => rfl⟩ (by omega) hc W).mono fun e w' ⟨_, a, c⟩ => by
               obtain ⟨v, e1, e2⟩ := a rfl
               exact ⟨v, e1, e2, c⟩
           · have h8 := rread_main tx W hz h22 hs hc' (qf u) (qt u) (qm u) (qb u) (qn u) (by rw [a1]) (by rw [a2]) (by rw [a3]) (by rw [a4]) a5 hqn hsz m5 m2 ⟨by omega, by omega⟩ m3 m4 true ⟨fun _ => ⟨by rw [← b3]; exact m7, ?_⟩, fun _ => rfl⟩
             · rw [← b3] at h8
               refine h8.mono fun e w' ⟨_, a, c⟩ => ?_
               obtain ⟨vN, vD, e1, e2, e3⟩ := a rfl
               rw [← hql] at e2 e3
               exact ⟨vN, vD, e1, e2, e3, c⟩
             · by_cases hf0 : (qf u : Int) = 0
               · right
                 have := m6 hf0
                 omega
               · exact Or.inl hf0
         · right
           refine ⟨no (by omega) hc (fun h => hM h.2.2.2), fun W => ?_⟩
           by_cases k : ¬ (qb u : Int) < 1 ∧ ¬ 16 < (qb u : Int) ∧ ¬ (qt u : Int) < 1 ∧ ¬ 999999999 < (qt u : Int) ∧ ¬ 999999999 < (qf u : Int) ∧ ¬ (qf u : Int) = (qt u : Int) ∧ ¬ 1073741824 < (qm u : Int)
           · have h8 := rread_main tx W hz h22 hs hc' (qf u) (qt u) (qm u) (qb u) (qn u) (by rw [a1]) (by rw [a2]) (by rw [a3]) (by rw [a4]) a5 hqn hsz ⟨by omega, by omega⟩ ⟨by omega, by omega⟩ ⟨by omega, by omega⟩ k.2.2.2.2.2.1 (by omega) false ⟨fun h => (by cases h), fun h => ?_⟩
             · exact h8.mono fun e w' ⟨a, _, c⟩ => ⟨a rfl, c⟩
             · exfalso
               refine hM ⟨?_, ⟨by omega, by omega⟩, k.2.2.2.2.2.1, by omega, ⟨by omega, by omega⟩, fun h0 => ?_, by rw [b3]; exact h.1⟩
               · by_cases h0 : (qf u : Int) = 0
                 · exact Or.inl h0
                 · exact Or.inr ⟨by omega, by omega⟩
               · have := h.2
                 omega
           · exact rread_off tx W hz h22 hs hc' (qf u) (qt u) (qm u) (qb u) (qn u) (by rw [a1]) (by rw [a2]) (by rw [a3]) (by rw [a4]) a5 hqn (fun h => k h.2)
       · right
         refine ⟨no (by omega) hc (fun h => hsz ?_), fun W => rread_off tx W hz h22 hs hc' (qf u) (qt u) (qm u) (qb u) (qn u) (by rw [a1]) (by rw [a2]) (by rw [a3]) (by rw [a4]) a5 hqn (fun h => hsz h.1)⟩
         have := qe_size h.2.1 h.2.2.1
         omega
     · have hs2 : ((tx.extract 0 4).toList == [83, 78, 68, 49]) = false := by simpa using hs
       right
       refine ⟨no (by omega) hc (fun h => hs ?_), fun W => rread_sign tx W h22 hs2⟩
       rw [← a0, h.1, ByteArray.toList_eq]
       rfl
   · have hc2 : ((tx.extract (ckAt tx) tx.size).toList == (chk u.data.toList).ba.toList) = false := by simpa using hc
     right
     refine ⟨fun W => parse_bad tx W hz (by rw [hu]; exact hc2), fun W => ?_⟩
     by_cases hs : ((tx.extract 0 4).toList == [83, 78, 68, 49]) = true
     · exact rread_check tx W hz h22 hs (by rw [hu, beq_swap]; exact hc2)
     · exact rread_sign tx W h22 (by simpa using hs)
 · right
   refine ⟨fun W => ?_, fun W => rread_short tx W (by omega)⟩
   by_cases hc : ((tx.extract (ckAt tx) tx.size).toList == (chk u.data.toList).ba.toList) = true
   · by_cases h5 : 5 ≤ tx.size
     · exact no h5 hc (fun h => by
         have := qe_size h.2.1 h.2.2.1
         omega) W
     · exact parse_four tx W (by omega) (by rw [hu]; exact hc)
   · exact parse_bad tx W hz (by rw [hu]; simpa using hc)
end Go.Proofs.YthdhegmlknpllaaGreat
