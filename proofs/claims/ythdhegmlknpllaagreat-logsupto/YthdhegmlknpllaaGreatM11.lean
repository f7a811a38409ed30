import Derived.Test.YthdhegmlknpllaaGreatM09
import Derived.Test.YthdhegmlknpllaaGreatM10
namespace Go.Proofs.YthdhegmlknpllaaGreat
open Go.RowKit Go.Maps Go.MuLone
theorem rdBs_succ (r : RS) (k : Nat) : rdBs r (k + 1) = ((rdBs r k).1 ++ [((valN (rdT (rdBs r k).2.1 1).data.toList : Int), b4 (rdT (rdN (rdBs r k).2 1).1 4))], rdN (rdN (rdBs r k).2 1) 4) := rfl
theorem val_byte (x : ByteArray) (h : x.size ≤ 1) : valN x.data.toList < 256 := by
 have hl : x.data.toList.length ≤ 1 := by rw [Array.length_toList]; exact h
 have := valN_lt x.data.toList x.data.toList.length (Nat.le_refl _)
 rw [List.take_length] at this
 have h2 : 256 ^ x.data.toList.length ≤ 256 ^ 1 := Nat.pow_le_pow_right (by omega) hl
 omega
set_option maxRecDepth 100000 in
set_option maxHeartbeats 6400000 in
theorem parse_any (t : ByteArray) (w : World) (ht : t.size ≤ 2000000) (h5 : 5 ≤ t.size) (hc : ((t.extract (ckAt t) t.size).toList == (chk (t.extract 0 (ckAt t)).data.toList).ba.toList) = true) (ok mb : Bool)
  (h1 : ok = true ↔ rdT (t.extract 0 (ckAt t)) 4 = ⟨#[83, 78, 68, 49]⟩ ∧ (qe (t.extract 0 (ckAt t))).2 = false ∧ (qe (t.extract 0 (ckAt t))).1.size = 0 ∧ mb = true)
  (h2 : ∀ W v, W.ownsRow w.heap.size 137 5 v (ql (t.extract 0 (ckAt t))).length (blC (ql (t.extract 0 (ckAt t)))) → Calls Tryz.prog 108 #[.agg #[.int .i64 (qf (t.extract 0 (ckAt t)) : Int), .int .i64 (qt (t.extract 0 (ckAt t)) : Int), .int .i64 (qm (t.extract 0 (ckAt t)) : Int), .int .i64 (qb (t.extract 0 (ckAt t)) : Int), v]] W fun e w' => e = .returned (.bool mb) ∧ Fr [] W w') :
  Calls Tryz.prog 79 #[.string t] w fun e w' => (ok = false → e = .returned (.tuple #[zeroS, .bool false])) ∧ (ok = true → ∃ v, e = .returned (.tuple #[.agg #[.int .i64 (qf (t.extract 0 (ckAt t)) : Int), .int .i64 (qt (t.extract 0 (ckAt t)) : Int), .int .i64 (qm (t.extract 0 (ckAt t)) : Int), .int .i64 (qb (t.extract 0 (ckAt t)) : Int), v], .bool true]) ∧ w'.ownsRow w.heap.size 137 5 v (ql (t.extract 0 (ckAt t))).length (blC (ql (t.extract 0 (ckAt t))))) ∧ Fr [] w w' := by
 obtain ⟨i0, hi, hz0, hz1, hz2⟩ := info_parts info137
 obtain ⟨c, hcc⟩ : ∃ c, ckAt t = c := ⟨_, rfl⟩
 have hce : c = t.size - 4 := by rw [← hcc]; rfl
 rw [hcc] at hc h1 h2 ⊢
 have HC : Hid (∀ W, Calls Tryz.prog 107 #[.string (t.extract 0 c)] W fun e w' => e = .returned (.string (chk (t.extract 0 c).data.toList).ba) ∧ Fr [] W w') := fun W => checkOf_any _ W (by rw [ByteArray.size_extract]; omega)
 obtain ⟨ck, hck⟩ : ∃ ck, (chk (t.extract 0 c).data.toList).ba = ck := ⟨_, rfl⟩
 rw [hck] at HC hc
 obtain ⟨n, hn⟩ : ∃ n, t.size = n := ⟨_, rfl⟩
 rw [hn] at hce hc ht h5
 have c0 : (0 : Int) ≤ (c : Int) := by omega
 have c1 : (c : Int) ≤ (n : Int) := by omega
 have hnc : (n : Int) - 4 = (c : Int) := by omega
 have cpos : ¬ (c : Int) ≤ 0 := by omega
 have cpos2 : (0 : Int) < (c : Int) := by omega
 obtain ⟨w0, hw0⟩ : ∃ w0, w.alloc (.cells #[.int .i64 0, .int .i64 0, .int .i64 0, .int .i64 0, .slice none 0 0] 135) = w0 := ⟨_, rfl⟩
 obtain ⟨bx, hbx⟩ : ∃ bx, w.heap.size = bx := ⟨_, rfl⟩
 have b0 : w0.heap[bx]? = some z116 := by rw [← hw0, ← hbx]; exact heap_alloc_new w _
 have HB : Hid (w0.heap[bx]? = some z116 ∧ Fr [] w w0 ∧ w.heap.size = bx ∧ (t.extract 0 c).size ≤ 2000000) := ⟨b0, by rw [← hw0]; exact (Fr.refl _ _).alloc _, hbx, by rw [ByteArray.size_extract]; omega⟩
 have HNR : Hid (∀ W, Calls Tryz.prog 84 #[.string (t.extract 0 c)] W fun e w' => e = .returned (.pointer (some ⟨W.heap.size, 0, none⟩)) ∧ Rdr w' W.heap.size (t.extract 0 c) false ∧ Fr [] W w') := fun W => newReader_any _ W
 have HT0 : Hid (∀ W rb, PJ w W bx rb ((t.extract 0 c), false) → Calls Tryz.prog 88 #[.pointer (some ⟨rb, 0, none⟩), .int .i64 4] W fun e w' => e = .returned (.string (rdT (t.extract 0 c) 4)) ∧ PJ w w' bx rb (q1 (t.extract 0 c)) ∧ Fr [rb] W w') := fun W rb h => h.text
 have HN1 : Hid (∀ W rb, PJ w W bx rb (q1 (t.extract 0 c)) → Calls Tryz.prog 86 #[.pointer (some ⟨rb, 0, none⟩)] W fun e w' => e = .returned (.int .i64 (qf (t.extract 0 c) : Int)) ∧ PJ w w' bx rb (q2 (t.extract 0 c)) ∧ Fr [rb] W w') := fun W rb h => h.number
 have HN2 : Hid (∀ W rb, PJ w W bx rb (q2 (t.extract 0 c)) → Calls Tryz.prog 86 #[.pointer (some ⟨rb, 0, none⟩)] W fun e w' => e = .returned (.int .i64 (qt (t.extract 0 c) : Int)) ∧ PJ w w' bx rb (q3 (t.extract 0 c)) ∧ Fr [rb] W w') := fun W rb h => h.number
 have HN3 : Hid (∀ W rb, PJ w W bx rb (q3 (t.extract 0 c)) → Calls Tryz.prog 86 #[.pointer (some ⟨rb, 0, none⟩)] W fun e w' => e = .returned (.int .i64 (qm (t.extract 0 c) : Int)) ∧ PJ w w' bx rb (q4 (t.extract 0 c)) ∧ Fr [rb] W w') := fun W rb h => h.number
 have HN4 : Hid (∀ W rb, PJ w W bx rb (q4 (t.extract 0 c)) → Calls Tryz.prog 85 #[.pointer (some ⟨rb, 0, none⟩)] W fun e w' => e = .returned (.int .i64 (qb (t.extract 0 c) : Int)) ∧ PJ w w' bx rb (q5 (t.extract 0 c)) ∧ Fr [rb] W w') := fun W rb h => h.byte
 have HN5 : Hid (∀ W rb bs f t' m nb vf l, PK w W bx rb bs (q5 (t.extract 0 c)) f t' m nb vf l → Calls Tryz.prog 85 #[.pointer (some ⟨rb, 0, none⟩)] W fun e w' => e = .returned (.int .i64 (qn (t.extract 0 c) : Int)) ∧ PK w w' bx rb bs (q6 (t.extract 0 c)) f t' m nb vf l) := fun W rb bs f t' m nb vf l h => h.pj.byte.mono fun _ _ ⟨e, a, b⟩ => ⟨e, h.read a b⟩
 have hqn : qn (t.extract 0 c) < 256 := val_byte _ (rdT_size _ 1)
 have HQ : Hid (((rdBs (q6 (t.extract 0 c)) (qn (t.extract 0 c))).1 = ql (t.extract 0 c)) ∧ (rdBs (q6 (t.extract 0 c)) (qn (t.extract 0 c))).2 = qe (t.extract 0 c)) := ⟨rfl, rfl⟩
 have H012 : Hid ((ok = true ↔ rdT (t.extract 0 c) 4 = ⟨#[83, 78, 68, 49]⟩ ∧ (qe (t.extract 0 c)).2 = false ∧ (qe (t.extract 0 c)).1.size = 0 ∧ mb = true) ∧ (∀ W v, W.ownsRow w.heap.size 137 5 v (ql (t.extract 0 c)).length (blC (ql (t.extract 0 c))) → Calls Tryz.prog 108 #[.agg #[.int .i64 (qf (t.extract 0 c) : Int), .int .i64 (qt (t.extract 0 c) : Int), .int .i64 (qm (t.extract 0 c) : Int), .int .i64 (qb (t.extract 0 c) : Int), v]] W fun e w' => e = .returned (.bool mb) ∧ Fr [] W w')) := ⟨h1, h2⟩
 obtain ⟨fv, hfv⟩ : ∃ fv, qf (t.extract 0 c) = fv := ⟨_, rfl⟩
 obtain ⟨tv, htv⟩ : ∃ tv, qt (t.extract 0 c) = tv := ⟨_, rfl⟩
 obtain ⟨mv, hmv⟩ : ∃ mv, qm (t.extract 0 c) = mv := ⟨_, rfl⟩
 obtain ⟨nv, hnv⟩ : ∃ nv, qb (t.extract 0 c) = nv := ⟨_, rfl⟩
 obtain ⟨N, hN⟩ : ∃ N, qn (t.extract 0 c) = N := ⟨_, rfl⟩
 obtain ⟨r6, hr6⟩ : ∃ r6, q6 (t.extract 0 c) = r6 := ⟨_, rfl⟩
 obtain ⟨lL, hlL⟩ : ∃ lL, ql (t.extract 0 c) = lL := ⟨_, rfl⟩
 rw [hfv] at HN1
 rw [htv] at HN2
 rw [hmv] at HN3
 rw [hnv] at HN4
 rw [hN, hr6] at HN5
 rw [hN] at hqn
 rw [hN, hr6, hlL] at HQ
 rw [hfv, htv, hmv, hnv, hlL] at H012
 rw [hfv, htv, hmv, hnv, hlL]
 have hw0' := hw0
 clear hw0 b0 hck hcc hce h1 h2 hfv htv hmv hnv hN hr6 hlL
 go_enter Tryz.func79, Tryz.ntmps79
 go_wp2
 go_region_with
  (first
   | (go_at_call 107; refine (HC.out _).mono ?_; rintro e w5 ⟨rfl, f5⟩; have F5 : Hid (Fr [] w0 w5) := ((Fr.refl [] w0).drew).tr f5; clear f5))
 go_wp2_with (first
     | (go_at_call 84; refine (HNR.out _).mono ?_; rintro e w6 ⟨rfl, r6, f6⟩; have H6 : Hid (PJ w w6 bx w5.heap.size ((t.extract 0 c), false)) := ⟨r6, (HB.out.2.1.tr F5.out).tr f6, (by rw [(F5.out.tr f6).block bx (Array.getElem?_eq_some_iff.1 HB.out.1).1 (by simp)]; exact HB.out.1), (HB.out.2.1.tr F5.out).size, HB.out.2.2.2⟩; clear r6 f6)
     | (go_at_call 88; refine (HT0.out _ _ H6.out).mono ?_; rintro e w7 ⟨rfl, r7, f7⟩; have H7 : Hid (PJ w w7 bx w5.heap.size (q1 (t.extract 0 c))) := r7; clear r7 f7)
     | (go_at_call 86; refine (HN3.out _ _ H9.out).mono ?_; rintro e w10 ⟨rfl, r10, f10⟩; have H10 : Hid (PJ w w10 bx w5.heap.size (q4 (t.extract 0 c))) := r10; clear r10 f10)
     | (go_at_call 86; refine (HN2.out _ _ H8.out).mono ?_; rintro e w9 ⟨rfl, r9, f9⟩; have H9 : Hid (PJ w w9 bx w5.heap.size (q3 (t.extract 0 c))) := r9; clear r9 f9)
     | (go_at_call 86; refine (HN1.out _ _ H7.out).mono ?_; rintro e w8 ⟨rfl, r8, f8⟩; have H8 : Hid (PJ w w8 bx w5.heap.size (q2 (t.extract 0 c))) := r8; clear r8 f8)
     | (go_at_call 85; refine (HN5.out _ _ _ _ _ _ _ _ _ HX.out).mono ?_; rintro e w12 ⟨rfl, r12⟩; have H12 : Hid (PK w w12 bx w5.heap.size w11.heap.size r6 fv tv mv nv (.slice none 0 0) []) := r12; clear r12)
     | (go_at_call 85; refine (HN4.out _ _ H10.out).mono ?_; rintro e w11 ⟨rfl, r11, f11⟩; have HX : Hid (PK w (w11.alloc (.cells #[.int .i64 fv, .int .i64 tv, .int .i64 mv, .int .i64 nv, .slice none 0 0] 135)) bx w5.heap.size w11.heap.size (q5 (t.extract 0 c)) fv tv mv nv (.slice none 0 0) []) := ⟨r11.alloc _, heap_alloc_new w11 _, World.ownsRow_nil _ _ _ _, r11.fr.size, Nat.ne_of_gt (Array.getElem?_eq_some_iff.1 r11.box).1⟩; clear r11 f11))
 obtain ⟨sg, hsg⟩ : ∃ sg, ((rdT (t.extract 0 c) 4).toList == [83, 78, 68, 49]) = sg := ⟨_, rfl⟩
 have HSG : Hid (((rdT (t.extract 0 c) 4).toList == [83, 78, 68, 49]) = sg) := hsg
 rw [hsg]
 obtain ⟨rb, hrb⟩ : ∃ rb, w5.heap.size = rb := ⟨_, rfl⟩
 obtain ⟨bs, hbs⟩ : ∃ bs, w11.heap.size = bs := ⟨_, rfl⟩
 rw [hrb, hbs] at H12
 rw [hrb, hbs]
 clear hsg hrb hbs HX H10 H9 H8 H7 H6 HN1 HN2 HN3 HN4 HN5 HT0 HNR HC F5 hw0' hc c0 c1 hnc cpos cpos2 ht h5
 go_loopw [40] (fun i wr => ∃ (k : Nat) (vf : Value), k ≤ N ∧ i = .int .i64 k ∧ Hid (PK w wr bx rb bs (rdBs r6 k).2 fv tv mv nv vf (rdBs r6 k).1)) (fun i _ => N - (intOf i).toNat)
 case atStart => exact ⟨0, _, Nat.zero_le _, rfl, H12⟩
 case round =>
  obtain ⟨k, vf, hk, rfl, HK⟩ := hrel
  obtain ⟨W3, hW3⟩ : ∃ W3, W3 = wr := ⟨_, rfl⟩
  subst hW3
  clear H12
  have hlen := rdBs_len r6 k
  obtain ⟨fa, fc, hsh⟩ := own_shape HK.out.row
  rw [hlen] at hsh
  subst hsh
  by_cases hlt : k < N
  · have hltz : (k : Int) < (N : Int) := by omega
    have hsucc := rdBs_succ r6 k
    obtain ⟨l, hl⟩ : ∃ l, (rdBs r6 k).1 = l := ⟨_, rfl⟩
    obtain ⟨r, hr⟩ : ∃ r, (rdBs r6 k).2 = r := ⟨_, rfl⟩
    rw [hl, hr] at HK
    rw [hl] at hlen
    rw [hl, hr] at hsucc
    have HBy : Hid (Calls Tryz.prog 85 #[.pointer (some ⟨rb, 0, none⟩)] W3 fun e w' => e = .returned (.int .i64 (valN (rdT r.1 1).data.toList : Int)) ∧ PK w w' bx rb bs (rdN r 1) fv tv mv nv (.slice fa k fc) l) := HK.out.pj.byte.mono fun _ _ ⟨e, a, b⟩ => ⟨e, HK.out.read a b⟩
    have HTx : Hid (∀ W, PK w W bx rb bs (rdN r 1) fv tv mv nv (.slice fa k fc) l → Calls Tryz.prog 88 #[.pointer (some ⟨rb, 0, none⟩), .int .i64 4] W fun e w' => e = .returned (.string (rdT (rdN r 1).1 4)) ∧ PK w w' bx rb bs (rdN (rdN r 1) 4) fv tv mv nv (.slice fa k fc) l ∧ Fr [rb] W w') := fun W h => h.pj.text.mono fun _ _ ⟨e, a, b⟩ => ⟨e, h.read a b, b⟩
    have hxs := rdT_two (rdN r 1).1 4
    obtain ⟨z, hz⟩ : ∃ z, valN (rdT r.1 1).data.toList = z := ⟨_, rfl⟩
    obtain ⟨x, hx⟩ : ∃ x, rdT (rdN r 1).1 4 = x := ⟨_, rfl⟩
    obtain ⟨r1, hr1⟩ : ∃ r1, rdN r 1 = r1 := ⟨_, rfl⟩
    rw [hz] at HBy
    rw [hx] at HTx hxs
    rw [hz, hx] at hsucc
    rw [hr1] at HBy HTx hsucc
    have HS : Hid (rdBs r6 (k + 1) = (l ++ [((z : Int), b4 x)], rdN r1 4) ∧ l.length = k ∧ (x.size = 0 ∨ x.size = 4)) := ⟨hsucc, hlen, hxs⟩
    obtain ⟨y, hy⟩ : ∃ y, b4 x = y := ⟨_, rfl⟩
    have HCP : Hid (∀ (w : World) (b8 : Nat), w.heap[b8]? = some (.cells #[.int .i64 (z : Int), .int .u8 0, .int .u8 0, .int .u8 0, .int .u8 0] 137 (0, 0)) → ∃ w', (∀ ty, (Builtin.copy_ #[74, 9] ty #[.slice (some ⟨b8, 1, none⟩) 4 4, .string x]).run Tryz.prog w = .ok (goInt x.size) w') ∧ w'.heap[b8]? = some (.cells #[.int .i64 (z : Int), .int .u8 (y.a.toNat : Int), .int .u8 (y.b.toNat : Int), .int .u8 (y.c.toNat : Int), .int .u8 (y.d.toNat : Int)] 137 (0, 0)) ∧ Fr [b8] w w') := fun w b8 h => by
     obtain ⟨w', a, b, c⟩ := copy4 w b8 z x h hxs
     rw [hy] at b
     exact ⟨w', a, b, c⟩
    rw [hy] at HS
    clear hlen hsucc hxs hl hr hz hx hr1 hy HK
    go_wp2_with (go_at_call 85; refine HBy.out.mono ?_; rintro e w13 ⟨rfl, r13⟩; have H13 : Hid (PK w (w13.alloc (.cells #[.int .i64 (z : Int), .int .u8 0, .int .u8 0, .int .u8 0, .int .u8 0] 137)) bx rb bs r1 fv tv mv nv (.slice fa k fc) l ∧ PK w w13 bx rb bs r1 fv tv mv nv (.slice fa k fc) l) := ⟨r13.alloc _, r13⟩; clear r13)
    obtain ⟨b8, hb8⟩ : ∃ b8, w13.heap.size = b8 := ⟨_, rfl⟩
    have H8 : Hid ((w13.alloc (.cells #[.int .i64 (z : Int), .int .u8 0, .int .u8 0, .int .u8 0, .int .u8 0] 137)).heap[b8]? = some (.cells #[.int .i64 (z : Int), .int .u8 0, .int .u8 0, .int .u8 0, .int .u8 0] 137 (0, 0)) ∧ (b8 ≠ bx ∧ b8 ≠ rb ∧ b8 ≠ bs) ∧ (∀ k', (Value.slice fa k fc).ownBlock = some k' → k' ≠ b8) ∧ w.heap.size ≤ b8) := by
     obtain ⟨l1, l2, l3, l4⟩ := H13.out.2.lts
     refine ⟨by rw [← hb8]; exact heap_alloc_new w13 _, ⟨by omega, by omega, by omega⟩, fun k' hk' => by have := l4 k' hk'; omega, by rw [← hb8]; exact H13.out.2.pj.fr.size⟩
    rw [hb8]
    have H13' : Hid (PK w (w13.alloc (.cells #[.int .i64 (z : Int), .int .u8 0, .int .u8 0, .int .u8 0, .int .u8 0] 137)) bx rb bs r1 fv tv mv nv (.slice fa k fc) l) := H13.out.1
    obtain ⟨wa, hwa⟩ : ∃ wa, w13.alloc (.cells #[.int .i64 (z : Int), .int .u8 0, .int .u8 0, .int .u8 0, .int .u8 0] 137) = wa := ⟨_, rfl⟩
    rw [hwa] at H8 H13'
    rw [hwa]
    clear hwa hb8 H13 HBy
    go_region_with
     (first
      | (go_at_call 88; refine (HTx.out _ H13'.out.drew).mono ?_; rintro e w14 ⟨rfl, r14, f14⟩
         obtain ⟨w15, hcp, hb15, f15⟩ := HCP.out w14 b8 (by rw [f14.block b8 (Array.getElem?_eq_some_iff.1 H8.out.1).1 (by simpa using H8.out.2.1.2.1)]; exact H8.out.1)
         have H15 : Hid (PK w w15 bx rb bs (rdN r1 4) fv tv mv nv (.slice fa k fc) l ∧ w15.heap[b8]? = some (.cells #[.int .i64 (z : Int), .int .u8 (y.a.toNat : Int), .int .u8 (y.b.toNat : Int), .int .u8 (y.c.toNat : Int), .int .u8 (y.d.toNat : Int)] 137 (0, 0))) := ⟨r14.other f15 H8.out.2.1 H8.out.2.2.1 H8.out.2.2.2, hb15⟩
         clear r14 f14 f15 hb15))
    all_goals
     clear hcp
     have e0 : w15.cell? ⟨b8, 0, none⟩ = some (.int .i64 (z : Int)) := by rw [cell_of H15.out.2]; rfl
     have e1 : w15.cell? ⟨b8, 1, none⟩ = some (.int .u8 (y.a.toNat : Int)) := by rw [cell_of H15.out.2]; rfl
     have e2 : w15.cell? ⟨b8, 2, none⟩ = some (.int .u8 (y.b.toNat : Int)) := by rw [cell_of H15.out.2]; rfl
     have e3 : w15.cell? ⟨b8, 3, none⟩ = some (.int .u8 (y.c.toNat : Int)) := by rw [cell_of H15.out.2]; rfl
     have e4 : w15.cell? ⟨b8, 4, none⟩ = some (.int .u8 (y.d.toNat : Int)) := by rw [cell_of H15.out.2]; rfl
     have x4 : w15.cell? ⟨bs, 4, none⟩ = some (.slice fa k fc) := by rw [cell_of H15.out.1.box]; rfl
     have lbs : bs < w15.heap.size := World.block_lt_of_cell? _ _ x4
     have HNW : Hid (∀ j u, [Value.int .i64 (z : Int), .int .u8 (y.a.toNat : Int), .int .u8 (y.b.toNat : Int), .int .u8 (y.c.toNat : Int), .int .u8 (y.d.toNat : Int)][j]? = some u → (w15.alloc (.cells #[.int .i64 (z : Int), .int .u8 (y.a.toNat : Int), .int .u8 (y.b.toNat : Int), .int .u8 (y.c.toNat : Int), .int .u8 (y.d.toNat : Int)] 137)).cell? ((⟨w15.heap.size, 0, none⟩ : Addr).add j) = some u) := World.news_of_block (cs := #[.int .i64 (z : Int), .int .u8 (y.a.toNat : Int), .int .u8 (y.b.toNat : Int), .int .u8 (y.c.toNat : Int), .int .u8 (y.d.toNat : Int)]) (t := 137) (fr := (0, 0)) (heap_alloc_new w15 _)
     have HRow : Hid (w15.ownsRow w.heap.size 137 5 (.slice fa k fc) k (blC l)) := by
      have := H15.out.1.row
      rw [HS.out.2.1] at this
      exact this
     have hwle : w.heap.size ≤ w15.heap.size := H15.out.1.pj.fr.size
     go_wp2_with (at_builtin; refine wpList_append_own _ rfl _ _ 133 rfl w.heap.size 137 i0 _ 5 16 Tryz.underlying133 hi hz0 hz1 hz2 rfl (by omega) (.slice fa k fc) k (blC l) rfl (HRow.out.alloc _) ⟨w15.heap.size, 0, none⟩ 1 1 [.int .i64 (z : Int), .int .u8 (y.a.toNat : Int), .int .u8 (y.b.toNat : Int), .int .u8 (y.c.toNat : Int), .int .u8 (y.d.toNat : Int)] rfl rfl HNW.out (by simp [Value.oneCell']) (by unfold maxLen; omega) (by omega) (by simp; omega) ?_; intro v9 w9 hown9 hgrow9 hne9; obtain ⟨a9, k9, hv9⟩ := own_shape hown9; subst hv9; have HP := (H15.out.1.alloc (.cells #[.int .i64 (z : Int), .int .u8 (y.a.toNat : Int), .int .u8 (y.b.toNat : Int), .int .u8 (y.c.toNat : Int), .int .u8 (y.d.toNat : Int)] 137)).push (x := ((z : Int), y)) (by rw [HS.out.2.1]; exact hown9) hgrow9; have H9 : Hid (PK w (w9.setCell ⟨bs, 4, none⟩ (.slice a9 (k + 1) k9)) bx rb bs (rdN r1 4) fv tv mv nv (.slice a9 (k + 1) k9) (l ++ [((z : Int), y)])) := HP.1; have x9 := HP.2.1; have z9 := HP.2.2; clear HP hown9 hgrow9 hne9)
     go_roundw
     case rel => exact ⟨k + 1, _, by omega, by go_num, by rw [HS.out.1]; exact H9⟩
     case measure => simp [intOf]; omega
  · have hkk : k = N := by omega
    subst hkk
    rw [HQ.out.1, HQ.out.2] at HK
    rw [HQ.out.1] at hlen
    have HX : Hid (lL.length = k) := hlen
    clear hlen
    have y0 : W3.cell? ⟨bx, 0, none⟩ = some (.int .i64 0) := by have := HK.out.pj.box; unfold z116 at this; rw [cell_of this]; rfl
    have y1 : W3.cell? ⟨bx, 1, none⟩ = some (.int .i64 0) := by have := HK.out.pj.box; unfold z116 at this; rw [cell_of this]; rfl
    have y2 : W3.cell? ⟨bx, 2, none⟩ = some (.int .i64 0) := by have := HK.out.pj.box; unfold z116 at this; rw [cell_of this]; rfl
    have y3 : W3.cell? ⟨bx, 3, none⟩ = some (.int .i64 0) := by have := HK.out.pj.box; unfold z116 at this; rw [cell_of this]; rfl
    have y4 : W3.cell? ⟨bx, 4, none⟩ = some (.slice none 0 0) := by have := HK.out.pj.box; unfold z116 at this; rw [cell_of this]; rfl
    have zz : ∀ j, W3.frozen? ⟨bx, j, none⟩ = false := fun j => by have := HK.out.pj.box; unfold z116 at this; exact froz_of this j
    have z0 := zz 0
    have z1 := zz 1
    have z2 := zz 2
    have z3 := zz 3
    have z4 := zz 4
    clear zz
    have HE : Hid (Calls Tryz.prog 87 #[.pointer (some ⟨rb, 0, none⟩)] W3 fun e w' => e = .returned (.bool (decide ((qe (t.extract 0 c)).1.size = 0) && !(qe (t.extract 0 c)).2)) ∧ w' = W3) := ended_any rb _ _ W3 HK.out.pj.rd
    have hbs : w.heap.size ≤ bx := Nat.le_of_eq HB.out.2.2.1
    have HF5 : Hid (∀ W a b c' d e, Fr [] w W → Fr [] w (((((W.setCell ⟨bx, 0, none⟩ a).setCell ⟨bx, 1, none⟩ b).setCell ⟨bx, 2, none⟩ c').setCell ⟨bx, 3, none⟩ d).setCell ⟨bx, 4, none⟩ e)) := fun W a b c' d e h => ((((h.setCell _ (Or.inr hbs)).setCell _ (Or.inr hbs)).setCell _ (Or.inr hbs)).setCell _ (Or.inr hbs)).setCell _ (Or.inr hbs)
    cases sg with
    | false =>
     have hok : ok = false := by
      cases ok
      · rfl
      · exfalso
        have h9 := HSG.out
        rw [(H012.out.1.1 rfl).1, ByteArray.toList_eq] at h9
        cases h9
     subst hok
     go_wp2
     refine bodyPost_ret (v := .tuple #[zeroS, .bool false]) ?_ rfl ⟨rfl, HF5.out _ _ _ _ _ _ HK.out.pj.fr⟩
     rw [results_cell_tmp rfl]
     go_simp
     rfl
    | true =>
     by_cases hb : (decide ((qe (t.extract 0 c)).1.size = 0) && !(qe (t.extract 0 c)).2) = false
     · have hok : ok = false := by
         cases ok
         · rfl
         · exfalso
           have h9 := H012.out.1.1 rfl
           rw [h9.2.1, h9.2.2.1] at hb
           cases hb
       subst hok
       rw [hb] at HE
       clear hb
       go_wp2_with (go_at_call 87; refine HE.out.mono ?_; rintro e w' ⟨rfl, hw'⟩; have hw' := hw'.symm; subst hw')
       refine bodyPost_ret (v := .tuple #[zeroS, .bool false]) ?_ rfl ⟨rfl, HF5.out _ _ _ _ _ _ HK.out.pj.fr⟩
       rw [results_cell_tmp rfl]
       go_simp
       rfl
     · have hb2 : (decide ((qe (t.extract 0 c)).1.size = 0) && !(qe (t.extract 0 c)).2) = true := by
         cases h8 : (decide ((qe (t.extract 0 c)).1.size = 0) && !(qe (t.extract 0 c)).2)
         · exact absurd h8 hb
         · rfl
       rw [hb2] at HE
       have HEN : Hid ((qe (t.extract 0 c)).2 = false ∧ (qe (t.extract 0 c)).1.size = 0) := by
        rw [Bool.and_eq_true, decide_eq_true_eq, Bool.not_eq_true'] at hb2
        exact And.intro hb2.2 hb2.1
       clear hb hb2
       cases mb with
       | false =>
        have hok : ok = false := by
         cases ok
         · rfl
         · exact absurd (H012.out.1.1 rfl).2.2.2 (by simp)
        subst hok
        have HM : Hid (Calls Tryz.prog 108 #[.agg #[.int .i64 (fv : Int), .int .i64 (tv : Int), .int .i64 (mv : Int), .int .i64 (nv : Int), .slice fa k fc]] W3 fun e w' => e = .returned (.bool false) ∧ Fr [] W3 w') := H012.out.2 W3 _ HK.out.row
        have u0 : W3.cell? ⟨bs, 0, none⟩ = some (.int .i64 (fv : Int)) := by rw [cell_of HK.out.box]; rfl
        have u1 : W3.cell? ⟨bs, 1, none⟩ = some (.int .i64 (tv : Int)) := by rw [cell_of HK.out.box]; rfl
        have u2 : W3.cell? ⟨bs, 2, none⟩ = some (.int .i64 (mv : Int)) := by rw [cell_of HK.out.box]; rfl
        have u3 : W3.cell? ⟨bs, 3, none⟩ = some (.int .i64 (nv : Int)) := by rw [cell_of HK.out.box]; rfl
        have u4 : W3.cell? ⟨bs, 4, none⟩ = some (.slice fa k fc) := by rw [cell_of HK.out.box]; rfl
        have HBX : Hid (∀ W, Fr [] W3 W → W.heap[bx]? = some z116 ∧ W.heap[bs]? = some (.cells #[.int .i64 fv, .int .i64 tv, .int .i64 mv, .int .i64 nv, .slice fa k fc] 135 (0, 0)) ∧ W.ownsRow w.heap.size 137 5 (.slice fa k fc) lL.length (blC lL)) := fun W h => by
         obtain ⟨l1, l2, l3, l4⟩ := HK.out.lts
         refine ⟨by rw [h.block bx l1 (by simp)]; exact HK.out.pj.box, by rw [h.block bs l3 (by simp)]; exact HK.out.box, own_fr' HK.out.row h⟩
        go_wp2_with (first
         | (go_at_call 87; refine HE.out.mono ?_; rintro e w' ⟨rfl, hw'⟩; have hw' := hw'.symm; subst hw')
         | (go_at_call 108; refine HM.out.mono ?_; rintro e w17 ⟨rfl, f17⟩
            have H17 : Hid (Fr [] w w17 ∧ w17.heap[bx]? = some z116 ∧ w17.ownsRow w.heap.size 137 5 (.slice fa k fc) lL.length (blC lL)) := ⟨HK.out.pj.fr.tr f17, (HBX.out _ f17).1, (HBX.out _ f17).2.2⟩
            have hq := (HBX.out _ f17).1
            unfold z116 at hq
            have hq2 := (HBX.out _ f17).2.1
            have y0 : w17.cell? ⟨bx, 0, none⟩ = some (.int .i64 0) := (by rw [cell_of hq]; rfl)
            have y1 : w17.cell? ⟨bx, 1, none⟩ = some (.int .i64 0) := (by rw [cell_of hq]; rfl)
            have y2 : w17.cell? ⟨bx, 2, none⟩ = some (.int .i64 0) := (by rw [cell_of hq]; rfl)
            have y3 : w17.cell? ⟨bx, 3, none⟩ = some (.int .i64 0) := (by rw [cell_of hq]; rfl)
            have y4 : w17.cell? ⟨bx, 4, none⟩ = some (.slice none 0 0) := (by rw [cell_of hq]; rfl)
            have z0 := froz_of hq 0
            have z1 := froz_of hq 1
            have z2 := froz_of hq 2
            have z3 := froz_of hq 3
            have z4 := froz_of hq 4
            have u0 : w17.cell? ⟨bs, 0, none⟩ = some (.int .i64 (fv : Int)) := (by rw [cell_of hq2]; rfl)
            have u1 : w17.cell? ⟨bs, 1, none⟩ = some (.int .i64 (tv : Int)) := (by rw [cell_of hq2]; rfl)
            have u2 : w17.cell? ⟨bs, 2, none⟩ = some (.int .i64 (mv : Int)) := (by rw [cell_of hq2]; rfl)
            have u3 : w17.cell? ⟨bs, 3, none⟩ = some (.int .i64 (nv : Int)) := (by rw [cell_of hq2]; rfl)
            have u4 : w17.cell? ⟨bs, 4, none⟩ = some (.slice fa k fc) := (by rw [cell_of hq2]; rfl)
            clear f17 hq hq2))
        refine bodyPost_ret (v := .tuple #[zeroS, .bool false]) ?_ rfl ⟨rfl, HF5.out _ _ _ _ _ _ H17.out.1⟩
        rw [results_cell_tmp rfl]
        go_simp
        rfl
       | true =>
        have hok : ok = true := H012.out.1.2 ⟨by
         have h9 := HSG.out
         rw [ByteArray.toList_eq] at h9
         refine ofL_ext ?_
         simpa using h9, HEN.out.1, HEN.out.2, rfl⟩
        subst hok
        have HM : Hid (Calls Tryz.prog 108 #[.agg #[.int .i64 (fv : Int), .int .i64 (tv : Int), .int .i64 (mv : Int), .int .i64 (nv : Int), .slice fa k fc]] W3 fun e w' => e = .returned (.bool true) ∧ Fr [] W3 w') := H012.out.2 W3 _ HK.out.row
        have u0 : W3.cell? ⟨bs, 0, none⟩ = some (.int .i64 (fv : Int)) := by rw [cell_of HK.out.box]; rfl
        have u1 : W3.cell? ⟨bs, 1, none⟩ = some (.int .i64 (tv : Int)) := by rw [cell_of HK.out.box]; rfl
        have u2 : W3.cell? ⟨bs, 2, none⟩ = some (.int .i64 (mv : Int)) := by rw [cell_of HK.out.box]; rfl
        have u3 : W3.cell? ⟨bs, 3, none⟩ = some (.int .i64 (nv : Int)) := by rw [cell_of HK.out.box]; rfl
        have u4 : W3.cell? ⟨bs, 4, none⟩ = some (.slice fa k fc) := by rw [cell_of HK.out.box]; rfl
        have HBX : Hid (∀ W, Fr [] W3 W → W.heap[bx]? = some z116 ∧ W.heap[bs]? = some (.cells #[.int .i64 fv, .int .i64 tv, .int .i64 mv, .int .i64 nv, .slice fa k fc] 135 (0, 0)) ∧ W.ownsRow w.heap.size 137 5 (.slice fa k fc) lL.length (blC lL)) := fun W h => by
         obtain ⟨l1, l2, l3, l4⟩ := HK.out.lts
         refine ⟨by rw [h.block bx l1 (by simp)]; exact HK.out.pj.box, by rw [h.block bs l3 (by simp)]; exact HK.out.box, own_fr' HK.out.row h⟩
        go_wp2_with (first
         | (go_at_call 87; refine HE.out.mono ?_; rintro e w' ⟨rfl, hw'⟩; have hw' := hw'.symm; subst hw')
         | (go_at_call 108; refine HM.out.mono ?_; rintro e w17 ⟨rfl, f17⟩
            have H17 : Hid (Fr [] w w17 ∧ w17.heap[bx]? = some z116 ∧ w17.ownsRow w.heap.size 137 5 (.slice fa k fc) lL.length (blC lL)) := ⟨HK.out.pj.fr.tr f17, (HBX.out _ f17).1, (HBX.out _ f17).2.2⟩
            have hq := (HBX.out _ f17).1
            unfold z116 at hq
            have hq2 := (HBX.out _ f17).2.1
            have y0 : w17.cell? ⟨bx, 0, none⟩ = some (.int .i64 0) := (by rw [cell_of hq]; rfl)
            have y1 : w17.cell? ⟨bx, 1, none⟩ = some (.int .i64 0) := (by rw [cell_of hq]; rfl)
            have y2 : w17.cell? ⟨bx, 2, none⟩ = some (.int .i64 0) := (by rw [cell_of hq]; rfl)
            have y3 : w17.cell? ⟨bx, 3, none⟩ = some (.int .i64 0) := (by rw [cell_of hq]; rfl)
            have y4 : w17.cell? ⟨bx, 4, none⟩ = some (.slice none 0 0) := (by rw [cell_of hq]; rfl)
            have z0 := froz_of hq 0
            have z1 := froz_of hq 1
            have z2 := froz_of hq 2
            have z3 := froz_of hq 3
            have z4 := froz_of hq 4
            have u0 : w17.cell? ⟨bs, 0, none⟩ = some (.int .i64 (fv : Int)) := (by rw [cell_of hq2]; rfl)
            have u1 : w17.cell? ⟨bs, 1, none⟩ = some (.int .i64 (tv : Int)) := (by rw [cell_of hq2]; rfl)
            have u2 : w17.cell? ⟨bs, 2, none⟩ = some (.int .i64 (mv : Int)) := (by rw [cell_of hq2]; rfl)
            have u3 : w17.cell? ⟨bs, 3, none⟩ = some (.int .i64 (nv : Int)) := (by rw [cell_of hq2]; rfl)
            have u4 : w17.cell? ⟨bs, 4, none⟩ = some (.slice fa k fc) := (by rw [cell_of hq2]; rfl)
            clear f17 hq hq2))
        refine bodyPost_ret (v := .tuple #[.agg #[.int .i64 (fv : Int), .int .i64 (tv : Int), .int .i64 (mv : Int), .int .i64 (nv : Int), .slice fa k fc], .bool true]) ?_ rfl ⟨⟨_, rfl, ?_⟩, HF5.out _ _ _ _ _ _ H17.out.1⟩
        · rw [results_cell_tmp rfl]
          go_simp
        · have hr := H17.out.2.2
          rw [HB.out.2.2.1] at hr
          refine own_of_block hr (fun k' hk' => ?_)
          have hne : k' ≠ bx := fun e => by
           obtain ⟨_, cur, h2⟩ := own_tag H17.out.2.2 hk'
           have h3 := H17.out.2.1
           unfold z116 at h3
           rw [e, h3] at h2
           simp at h2
          rw [heap_setCell_other _ _ _ _ hne, heap_setCell_other _ _ _ _ hne, heap_setCell_other _ _ _ _ hne, heap_setCell_other _ _ _ _ hne, heap_setCell_other _ _ _ _ hne]
end Go.Proofs.YthdhegmlknpllaaGreat
