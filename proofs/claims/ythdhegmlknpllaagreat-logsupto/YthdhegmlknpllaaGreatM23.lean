import Derived.Test.YthdhegmlknpllaaGreatM09
import Derived.Test.YthdhegmlknpllaaGreatM04
import Derived.Test.YthdhegmlknpllaaGreatM16
namespace Go.Proofs.YthdhegmlknpllaaGreat
open Go.RowKit Go.Maps Go.MuLone
theorem rd_byte (rb : Nat) (a : UInt8) (l : List UInt8) (W : World) (h : Rdr W rb (ofL (a :: l)) false) (hl : l.length ≤ 1000000) :
  Calls Tryz.prog 85 #[.pointer (some ⟨rb, 0, none⟩)] W fun e w' => e = .returned (.int .i64 (a.toNat : Int)) ∧ Rdr w' rb (ofL l) false ∧ Fr [rb] W w' := by
 have e1 : rdT (ofL ([a] ++ l)) 1 = ofL [a] := rdT_app [a] l 1 rfl
 have e2 := rdN_app [a] l false 1 rfl
 have := rbyte_any rb (ofL ([a] ++ l)) false W h (by rw [ofL_size]; simp; omega)
 rw [e1, ofL_list] at this
 unfold rdN at e2
 have e3 := congrArg Prod.fst e2
 have e4 := congrArg Prod.snd e2
 simp only at e3 e4
 rw [e3, e4] at this
 simpa [valN] using this
theorem rd_num (rb : Nat) (z : Int) (hz : 0 ≤ z ∧ z < 4294967296) (l : List UInt8) (W : World) (h : Rdr W rb (ofL ((n4 z).list' ++ l)) false) (hl : l.length ≤ 1000000) :
  Calls Tryz.prog 86 #[.pointer (some ⟨rb, 0, none⟩)] W fun e w' => e = .returned (.int .i64 z) ∧ Rdr w' rb (ofL l) false ∧ Fr [rb] W w' := by
 have e1 : rdT (ofL ((n4 z).list' ++ l)) 4 = ofL (n4 z).list' := rdT_app _ l 4 rfl
 have e2 := rdN_app (n4 z).list' l false 4 rfl
 have := rnumber_any rb (ofL ((n4 z).list' ++ l)) false W h (by rw [ofL_size]; simp [B4.list']; omega)
 rw [e1, ofL_list, val4 z hz] at this
 unfold rdN at e2
 have e3 := congrArg Prod.fst e2
 have e4 := congrArg Prod.snd e2
 simp only at e3 e4
 rw [e3, e4] at this
 exact this
set_option maxRecDepth 100000 in
set_option maxHeartbeats 800000 in
theorem log_any (B b : Nat) (s : Sto) (w : World) (h : Rep B w b 0 s) (h0 : 0 < s.log.length) :
  Calls Tryz.prog 14 #[.pointer (some ⟨b, 0, none⟩)] w fun e w' => e = .returned (.string (ofL s.log)) ∧ Rep B w' b 0 s ∧ Fr (foot b s) w w' := by
 obtain ⟨w1, hw1, R1⟩ := h.lk
 have HL := lock_free Tryz.muLib ⟨b, 0, none⟩ w h.cells.1 (h.frozen 0)
 have F1 := lkF s hw1
 have HF : Hid (w.setCell ⟨b, 0, none⟩ (.int .i32 1) = w1 ∧ Rep B w1 b 1 s ∧ Fr (foot b s) w w1) := ⟨hw1, R1, F1⟩
 obtain ⟨la, lc, hlv⟩ := own_shape R1.lg
 have c9 : w1.cell? ⟨b, 9, none⟩ = some (.slice la s.log.length lc) := by rw [← hlv]; exact R1.cells.2.2.2.2.2.2.2.2
 have hcv : (convert 74 9 (.slice la s.log.length lc)).run Tryz.prog w1 = .ok (.string (ofL s.log)) w1 := by
  rw [← hlv]
  exact (BRow.own rfl h0 R1.lg).text
 clear h R1 F1 hw1 hlv
 go_enter_defers Tryz.func14, Tryz.ntmps14
 go_wp2_with (first
  | (go_at_call 23; refine HL.mono ?_; rintro e w' ⟨rfl, hw'⟩; rw [HF.out.1] at hw'; have hw' := hw'.symm; subst hw'))
 refine leaves_cons (f := 24) (args := #[.pointer (some ⟨b, 0, none⟩)]) (by simp) (by simp [go_sem]) ?_
 refine (unlock_deferred Tryz.muLib ⟨b, 0, none⟩ .returning _ HF.out.2.1.cells.1 (HF.out.2.1.frozen 0)).mono ?_
 rintro e u' w'' ⟨rfl, rfl, rfl⟩
 exact ⟨_, results_tmp rfl _ _ _, rfl, HF.out.2.1.lock 0, HF.out.2.2.setCell _ (Or.inl (by simp [foot]))⟩
set_option maxHeartbeats 800000 in
theorem first_none (t : ByteArray) (w : World) (h : t.size = 0 ∨ ∃ h : 0 < t.size, t.size ≤ t[0].toNat) :
  Calls Tryz.prog 56 #[.string t] w fun e w' => e = .returned (.string ⟨#[]⟩) ∧ w' = w := by
 rcases h with h0 | ⟨h0, h1⟩
 · have he : t.toList.isEmpty = true := by
     rw [ByteArray.toList_eq, List.isEmpty_iff, ← List.length_eq_zero_iff, Array.length_toList]
     exact h0
   go_enter Tryz.func56, Tryz.ntmps56
   go_wp2
   go_ret
   exact ⟨rfl, rfl⟩
 · have he : t.toList.isEmpty = false := by
     rw [ByteArray.toList_eq, List.isEmpty_eq_false_iff]
     intro e
     have e2 : t.data.toList.length = t.size := Array.length_toList
     rw [e] at e2
     simp at e2
     omega
   have hz : (0 : Int) < (t.size : Int) := by omega
   have hx : t[0].toNat < 256 := UInt8.toNat_lt _
   have hw64 : wrap64 (t[0].toNat : Int) = (t[0].toNat : Int) := wrap64_fit ⟨by omega, by omega⟩
   have h1z : (t.size : Int) ≤ (t[0].toNat : Int) := by omega
   go_enter Tryz.func56, Tryz.ntmps56
   go_wp2
   go_ret
   exact ⟨rfl, rfl⟩
set_option maxHeartbeats 800000 in
theorem first_some (t : ByteArray) (k : Nat) (w : World) (h0 : 0 < t.size) (hk : t[0].toNat = k) (h1 : k < t.size) (hb : t.size ≤ 140737488355328) :
  Calls Tryz.prog 56 #[.string t] w fun e w' => e = .returned (.string (t.extract 0 (1 + k))) ∧ w' = w := by
 have he : t.toList.isEmpty = false := by
  rw [ByteArray.toList_eq, List.isEmpty_eq_false_iff]
  intro e
  have e2 : t.data.toList.length = t.size := Array.length_toList
  rw [e] at e2
  simp at e2
  omega
 have hz : (0 : Int) < (t.size : Int) := by omega
 have h1z : ¬ (t.size : Int) ≤ (k : Int) := by omega
 obtain ⟨k1, hk1⟩ : ∃ k1, 1 + k = k1 := ⟨_, rfl⟩
 have hw : IntKind.i64.wrap (1 + (k : Int)) = (k1 : Int) := by rw [show 1 + (k : Int) = (k1 : Int) by omega]; exact wrap_fit ⟨by omega, by omega⟩
 have hk0 : (0 : Int) ≤ (k1 : Int) := by omega
 have hk2 : (k1 : Int) ≤ (t.size : Int) := by omega
 rw [hk1]
 go_enter Tryz.func56, Tryz.ntmps56
 go_wp2
 go_ret
 exact ⟨rfl, rfl⟩
set_option maxHeartbeats 400000 in
theorem own_baseL {w : World} {base base' : Nat} {e : TypeId} {size : Nat} {v : Value} {n : Nat} {xs : List Value} (h : w.ownsRow base e size v n xs) (hb : base' ≤ base) : w.ownsRow base' e size v n xs :=
 ⟨h.1, h.2.imp id fun ⟨g, cap, cur, e, hg, r⟩ => ⟨g, cap, cur, e, Nat.le_trans hb hg, r⟩⟩
theorem Rep.baseL {w : World} {B B' : Nat} {b : Nat} {z : Int} {s : Sto} (h : Rep B w b z s) (hB : B' ≤ B) : Rep B' w b z s :=
 ⟨h.blk, h.vol, own_baseL h.ss hB, h.th, own_baseL h.ms hB, own_baseL h.lg hB, Nat.le_trans hB h.hb, Nat.le_trans hB h.hvb, Nat.le_trans hB h.hmb⟩
theorem new_err0 (w : World) : Calls Tryz.prog 12 #[.int .i64 0, .int .i64 0] w fun e w' => e = .returned (.tuple #[.pointer none, .int .i64 1]) ∧ w' = w := by
 go_enter Tryz.func12, Tryz.ntmps12
 go_wp2
 go_ret2
 exact ⟨rfl, rfl⟩
theorem rdr_fr {w w' : World} {rb : Nat} {t : ByteArray} {sh : Bool} (h : Rdr w rb t sh) (hf : Fr [] w w') : Rdr w' rb t sh := by
 unfold Rdr at h ⊢
 rw [hf.block rb (Array.getElem?_eq_some_iff.1 h).1 (by simp)]
 exact h
def entN (d : Int) (n : Nat) : List UInt8 := entry 78 (ntext d n)
theorem entN_eq (d : Int) (n : Nat) : entN d n = 6 :: 78 :: ((n4 d).list' ++ [byt (n : Int)]) := by
 simp [entN, entry, ntext, B4.ba, B4.list']
 rfl
set_option maxRecDepth 100000 in
set_option maxHeartbeats 1600000 in
theorem begin_ok (d : Int) (n : Nat) (hd : 1 ≤ d ∧ d ≤ 999) (hn : 1 ≤ n ∧ n ≤ 16) (w : World) :
  Calls Tryz.prog 55 #[.string (ofL (entN d n))] w fun e w' => ∃ b vb mb lv, e = .returned (.tuple #[.pointer (some ⟨b, 0, none⟩), .bool true]) ∧ Rep w.heap.size w' b 0 (newS d n vb mb lv) ∧ Fr [] w w' := by
 rw [entN_eq]
 have HN : Hid (∀ W, Calls Tryz.prog 84 #[.string (ofL (6 :: 78 :: ((n4 d).list' ++ [byt (n : Int)])))] W fun e w' => e = .returned (.pointer (some ⟨W.heap.size, 0, none⟩)) ∧ Rdr w' W.heap.size (ofL (6 :: 78 :: ((n4 d).list' ++ [byt (n : Int)]))) false ∧ Fr [] W w') := fun W => newReader_any _ W
 have H1 : Hid (∀ W rb, Rdr W rb (ofL (6 :: 78 :: ((n4 d).list' ++ [byt (n : Int)]))) false → Calls Tryz.prog 85 #[.pointer (some ⟨rb, 0, none⟩)] W fun e w' => e = .returned (.int .i64 6) ∧ Rdr w' rb (ofL (78 :: ((n4 d).list' ++ [byt (n : Int)]))) false ∧ Fr [rb] W w') := fun W rb h => rd_byte rb 6 _ W h (by simp [B4.list'])
 have H2 : Hid (∀ W rb, Rdr W rb (ofL (78 :: ((n4 d).list' ++ [byt (n : Int)]))) false → Calls Tryz.prog 85 #[.pointer (some ⟨rb, 0, none⟩)] W fun e w' => e = .returned (.int .i64 78) ∧ Rdr w' rb (ofL ((n4 d).list' ++ [byt (n : Int)])) false ∧ Fr [rb] W w') := fun W rb h => rd_byte rb 78 _ W h (by simp [B4.list'])
 have H3 : Hid (∀ W rb, Rdr W rb (ofL ((n4 d).list' ++ [byt (n : Int)])) false → Calls Tryz.prog 86 #[.pointer (some ⟨rb, 0, none⟩)] W fun e w' => e = .returned (.int .i64 d) ∧ Rdr w' rb (ofL [byt (n : Int)]) false ∧ Fr [rb] W w') := fun W rb h => rd_num rb d (by omega) _ W h (by simp)
 have H4 : Hid (∀ W rb, Rdr W rb (ofL [byt (n : Int)]) false → Calls Tryz.prog 85 #[.pointer (some ⟨rb, 0, none⟩)] W fun e w' => e = .returned (.int .i64 (n : Int)) ∧ Rdr w' rb (ofL []) false ∧ Fr [rb] W w') := fun W rb h => by
  have := rd_byte rb (byt (n : Int)) [] W h (by simp)
  rw [← byt_eq, show (n : Int) % 256 = (n : Int) by omega] at this
  exact this
 have HE : Hid (∀ W rb, Rdr W rb (ofL []) false → Calls Tryz.prog 87 #[.pointer (some ⟨rb, 0, none⟩)] W fun e w' => e = .returned (.bool true) ∧ w' = W) := fun W rb h => ended_any rb _ _ W h
 have HNw : Hid (∀ W, Calls Tryz.prog 12 #[.int .i64 d, .int .i64 n] W fun e w' => ∃ b vb mb lv, e = .returned (.tuple #[.pointer (some ⟨b, 0, none⟩), .int .i64 0]) ∧ Rep W.heap.size w' b 0 (newS d n vb mb lv) ∧ Fr [] W w') := fun W => new_ok d n W hd hn
 obtain ⟨t0, ht0⟩ : ∃ t, ofL (6 :: 78 :: ((n4 d).list' ++ [byt (n : Int)])) = t := ⟨_, rfl⟩
 obtain ⟨t1, ht1⟩ : ∃ t, ofL (78 :: ((n4 d).list' ++ [byt (n : Int)])) = t := ⟨_, rfl⟩
 obtain ⟨t2, ht2⟩ : ∃ t, ofL ((n4 d).list' ++ [byt (n : Int)]) = t := ⟨_, rfl⟩
 obtain ⟨t3, ht3⟩ : ∃ t, ofL [byt (n : Int)] = t := ⟨_, rfl⟩
 obtain ⟨t4, ht4⟩ : ∃ t, ofL [] = t := ⟨_, rfl⟩
 rw [ht0] at HN H1 ⊢
 rw [ht1] at H1 H2
 rw [ht2] at H2 H3
 rw [ht3] at H3 H4
 rw [ht4] at H4 HE
 clear ht0 ht1 ht2 ht3 ht4
 obtain ⟨rb, hrb⟩ : ∃ rb, w.heap.size = rb := ⟨_, rfl⟩
 have HB : Hid (w.heap.size = rb) := hrb
 go_enter Tryz.func55, Tryz.ntmps55
 go_wp2_with (first
  | (go_at_call 84; refine (HN.out _).mono ?_; rintro e w1 ⟨rfl, r1, f1⟩; rw [HB.out] at r1 ⊢; have G1 : Hid (Rdr w1 rb t0 false ∧ Fr [] w w1) := ⟨r1, f1⟩; clear r1 f1)
  | (go_at_call 85; refine (H4.out _ _ G4.out.1).mono ?_; rintro e w5 ⟨rfl, r5, f5⟩; have G5 : Hid (Rdr w5 rb t4 false ∧ Fr [] w w5) := ⟨r5, G4.out.2.trans f5 (fun k hk => Or.inr (by simp at hk; subst hk; exact Nat.le_of_eq HB.out))⟩; clear r5 f5)
  | (go_at_call 86; refine (H3.out _ _ G3.out.1).mono ?_; rintro e w4 ⟨rfl, r4, f4⟩; have G4 : Hid (Rdr w4 rb t3 false ∧ Fr [] w w4) := ⟨r4, G3.out.2.trans f4 (fun k hk => Or.inr (by simp at hk; subst hk; exact Nat.le_of_eq HB.out))⟩; clear r4 f4)
  | (go_at_call 85; refine (H2.out _ _ G2.out.1).mono ?_; rintro e w3 ⟨rfl, r3, f3⟩; have G3 : Hid (Rdr w3 rb t2 false ∧ Fr [] w w3) := ⟨r3, G2.out.2.trans f3 (fun k hk => Or.inr (by simp at hk; subst hk; exact Nat.le_of_eq HB.out))⟩; clear r3 f3)
  | (go_at_call 85; refine (H1.out _ _ G1.out.1).mono ?_; rintro e w2 ⟨rfl, r2, f2⟩; have G2 : Hid (Rdr w2 rb t1 false ∧ Fr [] w w2) := ⟨r2, G1.out.2.trans f2 (fun k hk => Or.inr (by simp at hk; subst hk; exact Nat.le_of_eq HB.out))⟩; clear r2 f2)
  | (go_at_call 12; refine (HNw.out _).mono ?_; rintro e w6 ⟨b, vb, mb, lv, rfl, r6, f6⟩; have G6 : Hid (Rdr w6 rb t4 false ∧ Fr [] w w6 ∧ Rep w5.heap.size w6 b 0 (newS d n vb mb lv)) := ⟨rdr_fr G5.out.1 f6, G5.out.2.tr f6, r6⟩; clear r6 f6)
  | (go_at_call 87; refine (HE.out _ _ G6.out.1).mono ?_; rintro e w' ⟨rfl, hw'⟩; have hw' := hw'.symm; subst hw'))
 go_ret2
 exact ⟨b, vb, mb, lv, rfl, (G6.out.2.2.baseL G5.out.2.size), G6.out.2.1⟩
set_option maxRecDepth 100000 in
set_option maxHeartbeats 1600000 in
theorem begin_bad (w : World) :
  Calls Tryz.prog 55 #[.string ⟨#[]⟩] w fun e w' => e = .returned (.tuple #[.pointer none, .bool false]) ∧ Fr [] w w' := by
 have HN : Hid (∀ W, Calls Tryz.prog 84 #[.string ⟨#[]⟩] W fun e w' => e = .returned (.pointer (some ⟨W.heap.size, 0, none⟩)) ∧ Rdr w' W.heap.size ⟨#[]⟩ false ∧ Fr [] W w') := fun W => newReader_any _ W
 have H1 : Hid (∀ W rb sh, Rdr W rb ⟨#[]⟩ sh → Calls Tryz.prog 85 #[.pointer (some ⟨rb, 0, none⟩)] W fun e w' => e = .returned (.int .i64 0) ∧ Rdr w' rb ⟨#[]⟩ true ∧ Fr [rb] W w') := fun W rb sh h => by
  have := rbyte_any rb ⟨#[]⟩ sh W h (by decide)
  exact this
 have H3 : Hid (∀ W rb sh, Rdr W rb ⟨#[]⟩ sh → Calls Tryz.prog 86 #[.pointer (some ⟨rb, 0, none⟩)] W fun e w' => e = .returned (.int .i64 0) ∧ Rdr w' rb ⟨#[]⟩ true ∧ Fr [rb] W w') := fun W rb sh h => by
  have := rnumber_any rb ⟨#[]⟩ sh W h (by decide)
  exact this
 obtain ⟨rb, hrb⟩ : ∃ rb, w.heap.size = rb := ⟨_, rfl⟩
 have HB : Hid (w.heap.size = rb) := hrb
 have HNw : Hid (∀ W, Calls Tryz.prog 12 #[.int .i64 0, .int .i64 0] W fun e w' => e = .returned (.tuple #[.pointer none, .int .i64 1]) ∧ w' = W) := fun W => new_err0 W
 go_enter Tryz.func55, Tryz.ntmps55
 go_wp2_with (first
  | (go_at_call 84; refine (HN.out _).mono ?_; rintro e w1 ⟨rfl, r1, f1⟩; rw [HB.out] at r1 ⊢; have G1 : Hid (Rdr w1 rb ⟨#[]⟩ false ∧ Fr [] w w1) := ⟨r1, f1⟩; clear r1 f1)
  | (go_at_call 85; refine (H1.out _ _ _ G4.out.1).mono ?_; rintro e w5 ⟨rfl, r5, f5⟩; have G5 : Hid (Fr [] w w5) := G4.out.2.trans f5 (fun k hk => Or.inr (by simp at hk; subst hk; exact Nat.le_of_eq HB.out)); clear r5 f5)
  | (go_at_call 86; refine (H3.out _ _ _ G3.out.1).mono ?_; rintro e w4 ⟨rfl, r4, f4⟩; have G4 : Hid (Rdr w4 rb ⟨#[]⟩ true ∧ Fr [] w w4) := ⟨r4, G3.out.2.trans f4 (fun k hk => Or.inr (by simp at hk; subst hk; exact Nat.le_of_eq HB.out))⟩; clear r4 f4)
  | (go_at_call 85; refine (H1.out _ _ _ G2.out.1).mono ?_; rintro e w3 ⟨rfl, r3, f3⟩; have G3 : Hid (Rdr w3 rb ⟨#[]⟩ true ∧ Fr [] w w3) := ⟨r3, G2.out.2.trans f3 (fun k hk => Or.inr (by simp at hk; subst hk; exact Nat.le_of_eq HB.out))⟩; clear r3 f3)
  | (go_at_call 85; refine (H1.out _ _ _ G1.out.1).mono ?_; rintro e w2 ⟨rfl, r2, f2⟩; have G2 : Hid (Rdr w2 rb ⟨#[]⟩ true ∧ Fr [] w w2) := ⟨r2, G1.out.2.trans f2 (fun k hk => Or.inr (by simp at hk; subst hk; exact Nat.le_of_eq HB.out))⟩; clear r2 f2)
  | (go_at_call 12; refine (HNw.out _).mono ?_; rintro e w' ⟨rfl, hw'⟩; have hw' := hw'.symm; subst hw'))
 go_ret2
 exact ⟨rfl, G5.out⟩
def eT1 (t : ByteArray) : ByteArray := rdL t 1
def eK (t : ByteArray) : Nat := valN (rdT (eT1 t) 1).data.toList
def eT2 (t : ByteArray) : ByteArray := rdL (eT1 t) 1
def eB (t : ByteArray) : Nat := valN (rdT (eT2 t) 1).data.toList
def eT3 (t : ByteArray) : ByteArray := rdL (eT2 t) 1
def eN (t : ByteArray) : Nat := valN (rdT (eT2 t) 4).data.toList
theorem eT_le (t : ByteArray) : (eT1 t).size ≤ t.size ∧ (eT2 t).size ≤ t.size ∧ (eT3 t).size ≤ t.size := by
 have h1 := rdL_size t 1
 have h2 := rdL_size (eT1 t) 1
 have h3 := rdL_size (eT2 t) 1
 unfold eT3 eT2 eT1 at *
 omega
theorem rdT_all (t : ByteArray) : rdT t t.size = t := by
 unfold rdT
 rw [if_neg (Nat.lt_irrefl _), ByteArray.extract_zero_size]
set_option maxRecDepth 100000 in
set_option maxHeartbeats 1600000 in
theorem redo_S (b : Nat) (t0 : ByteArray) (hT : t0.size ≤ 300) (hk : eK t0 = 83) (w : World) (Q : World → Prop)
  (HC : ∀ W, Fr [] w W → Calls Tryz.prog 29 #[.pointer (some ⟨b, 0, none⟩), .int .i64 (eN t0 : Nat)] W fun e w' => (∃ a c, e = .returned (.tuple #[.int .i64 a, .int .i64 c])) ∧ Q w') :
  Calls Tryz.prog 57 #[.pointer (some ⟨b, 0, none⟩), .string t0] w fun e w' => e = .returned (.tuple #[]) ∧ Q w' := by
 have hle := eT_le t0
 have HN : Hid (∀ W, Calls Tryz.prog 84 #[.string t0] W fun e w' => e = .returned (.pointer (some ⟨W.heap.size, 0, none⟩)) ∧ Rdr w' W.heap.size t0 false ∧ Fr [] W w') := fun W => newReader_any _ W
 have H1 : Hid (∀ W rb sh, Rdr W rb t0 sh → Calls Tryz.prog 85 #[.pointer (some ⟨rb, 0, none⟩)] W fun e w' => e = .returned (.int .i64 (valN (rdT t0 1).data.toList : Nat)) ∧ (∃ sh', Rdr w' rb (eT1 t0) sh') ∧ Fr [rb] W w') := fun W rb sh h => (rbyte_any rb t0 sh W h (by omega)).mono fun e w' hp => ⟨hp.1, ⟨_, hp.2.1⟩, hp.2.2⟩
 have H2 : Hid (∀ W rb sh, Rdr W rb (eT1 t0) sh → Calls Tryz.prog 85 #[.pointer (some ⟨rb, 0, none⟩)] W fun e w' => e = .returned (.int .i64 (eK t0 : Nat)) ∧ (∃ sh', Rdr w' rb (eT2 t0) sh') ∧ Fr [rb] W w') := fun W rb sh h => (rbyte_any rb (eT1 t0) sh W h (by omega)).mono fun e w' hp => ⟨hp.1, ⟨_, hp.2.1⟩, hp.2.2⟩
 have H3 : Hid (∀ W rb sh, Rdr W rb (eT2 t0) sh → Calls Tryz.prog 86 #[.pointer (some ⟨rb, 0, none⟩)] W fun e w' => e = .returned (.int .i64 (eN t0 : Nat)) ∧ (∃ sh', Rdr w' rb (rdL (eT2 t0) 4) sh') ∧ Fr [rb] W w') := fun W rb sh h => (rnumber_any rb (eT2 t0) sh W h (by omega)).mono fun e w' hp => ⟨hp.1, ⟨_, hp.2.1⟩, hp.2.2⟩
 obtain ⟨rb, hrb⟩ : ∃ rb, w.heap.size = rb := ⟨_, rfl⟩
 have HB : Hid (w.heap.size = rb) := hrb
 have HCC : Hid (∀ W, Fr [] w W → Calls Tryz.prog 29 #[.pointer (some ⟨b, 0, none⟩), .int .i64 (eN t0 : Nat)] W fun e w' => (∃ a c, e = .returned (.tuple #[.int .i64 a, .int .i64 c])) ∧ Q w') := HC
 obtain ⟨k0, hk0⟩ : ∃ k0, valN (rdT t0 1).data.toList = k0 := ⟨_, rfl⟩
 rw [hk0] at H1
 rw [hk] at H2
 obtain ⟨n, hn⟩ : ∃ n : Int, ((eN t0 : Nat) : Int) = n := ⟨_, rfl⟩
 rw [hn] at H3 HCC
 obtain ⟨t1, ht1⟩ : ∃ t, eT1 t0 = t := ⟨_, rfl⟩
 obtain ⟨t2, ht2⟩ : ∃ t, eT2 t0 = t := ⟨_, rfl⟩
 obtain ⟨t3, ht3⟩ : ∃ t, rdL (eT2 t0) 4 = t := ⟨_, rfl⟩
 rw [ht3] at H3
 rw [ht1] at H1 H2
 rw [ht2] at H2 H3
 clear ht1 ht2 ht3 hn hk hle hT hk0 HC hrb
 go_enter Tryz.func57, Tryz.ntmps57
 go_wp2_with (first
  | (go_at_call 84; refine (HN.out _).mono ?_; rintro e w1 ⟨rfl, r1, f1⟩; rw [HB.out] at r1 ⊢; have G1 : Hid ((∃ sh, Rdr w1 rb t0 sh) ∧ Fr [] w w1) := ⟨⟨_, r1⟩, f1⟩; clear r1 f1)
  | (go_at_call 86; obtain ⟨sh, g⟩ := G3.out.1; refine (H3.out _ _ _ g).mono ?_; rintro e w4 ⟨rfl, r4, f4⟩; have G4 : Hid ((∃ sh, Rdr w4 rb t3 sh) ∧ Fr [] w w4) := ⟨r4, G3.out.2.trans f4 (fun k hk => Or.inr (by simp at hk; subst hk; exact Nat.le_of_eq HB.out))⟩; clear r4 f4)
  | (go_at_call 85; obtain ⟨sh, g⟩ := G2.out.1; refine (H2.out _ _ _ g).mono ?_; rintro e w3 ⟨rfl, r3, f3⟩; have G3 : Hid ((∃ sh, Rdr w3 rb t2 sh) ∧ Fr [] w w3) := ⟨r3, G2.out.2.trans f3 (fun k hk => Or.inr (by simp at hk; subst hk; exact Nat.le_of_eq HB.out))⟩; clear r3 f3)
  | (go_at_call 85; obtain ⟨sh, g⟩ := G1.out.1; refine (H1.out _ _ _ g).mono ?_; rintro e w2 ⟨rfl, r2, f2⟩; have G2 : Hid ((∃ sh, Rdr w2 rb t1 sh) ∧ Fr [] w w2) := ⟨r2, G1.out.2.trans f2 (fun k hk => Or.inr (by simp at hk; subst hk; exact Nat.le_of_eq HB.out))⟩; clear r2 f2)
  | (go_at_call 29; refine (HCC.out _ G4.out.2).mono ?_; rintro e w9 ⟨⟨a, c, rfl⟩, q9⟩; have G9 : Hid (Q w9) := q9; clear q9))
 go_end0
 exact ⟨rfl, G9.out⟩
set_option maxRecDepth 100000 in
set_option maxHeartbeats 1600000 in
theorem redo_H (b : Nat) (t0 : ByteArray) (hT : t0.size ≤ 300) (hk : eK t0 = 72) (w : World) (Q : World → Prop)
  (HC : ∀ W, Fr [] w W → Calls Tryz.prog 37 #[.pointer (some ⟨b, 0, none⟩), .int .i64 (eN t0 : Nat)] W fun e w' => (∃ c, e = .returned (.int .i64 c)) ∧ Q w') :
  Calls Tryz.prog 57 #[.pointer (some ⟨b, 0, none⟩), .string t0] w fun e w' => e = .returned (.tuple #[]) ∧ Q w' := by
 have hle := eT_le t0
 have HN : Hid (∀ W, Calls Tryz.prog 84 #[.string t0] W fun e w' => e = .returned (.pointer (some ⟨W.heap.size, 0, none⟩)) ∧ Rdr w' W.heap.size t0 false ∧ Fr [] W w') := fun W => newReader_any _ W
 have H1 : Hid (∀ W rb sh, Rdr W rb t0 sh → Calls Tryz.prog 85 #[.pointer (some ⟨rb, 0, none⟩)] W fun e w' => e = .returned (.int .i64 (valN (rdT t0 1).data.toList : Nat)) ∧ (∃ sh', Rdr w' rb (eT1 t0) sh') ∧ Fr [rb] W w') := fun W rb sh h => (rbyte_any rb t0 sh W h (by omega)).mono fun e w' hp => ⟨hp.1, ⟨_, hp.2.1⟩, hp.2.2⟩
 have H2 : Hid (∀ W rb sh, Rdr W rb (eT1 t0) sh → Calls Tryz.prog 85 #[.pointer (some ⟨rb, 0, none⟩)] W fun e w' => e = .returned (.int .i64 (eK t0 : Nat)) ∧ (∃ sh', Rdr w' rb (eT2 t0) sh') ∧ Fr [rb] W w') := fun W rb sh h => (rbyte_any rb (eT1 t0) sh W h (by omega)).mono fun e w' hp => ⟨hp.1, ⟨_, hp.2.1⟩, hp.2.2⟩
 have H3 : Hid (∀ W rb sh, Rdr W rb (eT2 t0) sh → Calls Tryz.prog 86 #[.pointer (some ⟨rb, 0, none⟩)] W fun e w' => e = .returned (.int .i64 (eN t0 : Nat)) ∧ (∃ sh', Rdr w' rb (rdL (eT2 t0) 4) sh') ∧ Fr [rb] W w') := fun W rb sh h => (rnumber_any rb (eT2 t0) sh W h (by omega)).mono fun e w' hp => ⟨hp.1, ⟨_, hp.2.1⟩, hp.2.2⟩
 obtain ⟨rb, hrb⟩ : ∃ rb, w.heap.size = rb := ⟨_, rfl⟩
 have HB : Hid (w.heap.size = rb) := hrb
 have HCC : Hid (∀ W, Fr [] w W → Calls Tryz.prog 37 #[.pointer (some ⟨b, 0, none⟩), .int .i64 (eN t0 : Nat)] W fun e w' => (∃ c, e = .returned (.int .i64 c)) ∧ Q w') := HC
 obtain ⟨k0, hk0⟩ : ∃ k0, valN (rdT t0 1).data.toList = k0 := ⟨_, rfl⟩
 rw [hk0] at H1
 rw [hk] at H2
 obtain ⟨n, hn⟩ : ∃ n : Int, ((eN t0 : Nat) : Int) = n := ⟨_, rfl⟩
 rw [hn] at H3 HCC
 obtain ⟨t1, ht1⟩ : ∃ t, eT1 t0 = t := ⟨_, rfl⟩
 obtain ⟨t2, ht2⟩ : ∃ t, eT2 t0 = t := ⟨_, rfl⟩
 obtain ⟨t3, ht3⟩ : ∃ t, rdL (eT2 t0) 4 = t := ⟨_, rfl⟩
 rw [ht3] at H3
 rw [ht1] at H1 H2
 rw [ht2] at H2 H3
 clear ht1 ht2 ht3 hn hk hle hT hk0 HC hrb
 go_enter Tryz.func57, Tryz.ntmps57
 go_wp2_with (first
  | (go_at_call 84; refine (HN.out _).mono ?_; rintro e w1 ⟨rfl, r1, f1⟩; rw [HB.out] at r1 ⊢; have G1 : Hid ((∃ sh, Rdr w1 rb t0 sh) ∧ Fr [] w w1) := ⟨⟨_, r1⟩, f1⟩; clear r1 f1)
  | (go_at_call 86; obtain ⟨sh, g⟩ := G3.out.1; refine (H3.out _ _ _ g).mono ?_; rintro e w4 ⟨rfl, r4, f4⟩; have G4 : Hid ((∃ sh, Rdr w4 rb t3 sh) ∧ Fr [] w w4) := ⟨r4, G3.out.2.trans f4 (fun k hk => Or.inr (by simp at hk; subst hk; exact Nat.le_of_eq HB.out))⟩; clear r4 f4)
  | (go_at_call 85; obtain ⟨sh, g⟩ := G2.out.1; refine (H2.out _ _ _ g).mono ?_; rintro e w3 ⟨rfl, r3, f3⟩; have G3 : Hid ((∃ sh, Rdr w3 rb t2 sh) ∧ Fr [] w w3) := ⟨r3, G2.out.2.trans f3 (fun k hk => Or.inr (by simp at hk; subst hk; exact Nat.le_of_eq HB.out))⟩; clear r3 f3)
  | (go_at_call 85; obtain ⟨sh, g⟩ := G1.out.1; refine (H1.out _ _ _ g).mono ?_; rintro e w2 ⟨rfl, r2, f2⟩; have G2 : Hid ((∃ sh, Rdr w2 rb t1 sh) ∧ Fr [] w w2) := ⟨r2, G1.out.2.trans f2 (fun k hk => Or.inr (by simp at hk; subst hk; exact Nat.le_of_eq HB.out))⟩; clear r2 f2)
  | (go_at_call 37; refine (HCC.out _ G4.out.2).mono ?_; rintro e w9 ⟨⟨c, rfl⟩, q9⟩; have G9 : Hid (Q w9) := q9; clear q9))
 go_end0
 exact ⟨rfl, G9.out⟩
set_option maxRecDepth 100000 in
set_option maxHeartbeats 1600000 in
theorem redo_R (b : Nat) (t0 : ByteArray) (hT : t0.size ≤ 300) (hk : eK t0 = 82) (w : World) (Q : World → Prop)
  (HC : ∀ W, Fr [] w W → Calls Tryz.prog 39 #[.pointer (some ⟨b, 0, none⟩), .int .i64 (eN t0 : Nat)] W fun e w' => (∃ c, e = .returned (.int .i64 c)) ∧ Q w') :
  Calls Tryz.prog 57 #[.pointer (some ⟨b, 0, none⟩), .string t0] w fun e w' => e = .returned (.tuple #[]) ∧ Q w' := by
 have hle := eT_le t0
 have HN : Hid (∀ W, Calls Tryz.prog 84 #[.string t0] W fun e w' => e = .returned (.pointer (some ⟨W.heap.size, 0, none⟩)) ∧ Rdr w' W.heap.size t0 false ∧ Fr [] W w') := fun W => newReader_any _ W
 have H1 : Hid (∀ W rb sh, Rdr W rb t0 sh → Calls Tryz.prog 85 #[.pointer (some ⟨rb, 0, none⟩)] W fun e w' => e = .returned (.int .i64 (valN (rdT t0 1).data.toList : Nat)) ∧ (∃ sh', Rdr w' rb (eT1 t0) sh') ∧ Fr [rb] W w') := fun W rb sh h => (rbyte_any rb t0 sh W h (by omega)).mono fun e w' hp => ⟨hp.1, ⟨_, hp.2.1⟩, hp.2.2⟩
 have H2 : Hid (∀ W rb sh, Rdr W rb (eT1 t0) sh → Calls Tryz.prog 85 #[.pointer (some ⟨rb, 0, none⟩)] W fun e w' => e = .returned (.int .i64 (eK t0 : Nat)) ∧ (∃ sh', Rdr w' rb (eT2 t0) sh') ∧ Fr [rb] W w') := fun W rb sh h => (rbyte_any rb (eT1 t0) sh W h (by omega)).mono fun e w' hp => ⟨hp.1, ⟨_, hp.2.1⟩, hp.2.2⟩
 have H3 : Hid (∀ W rb sh, Rdr W rb (eT2 t0) sh → Calls Tryz.prog 86 #[.pointer (some ⟨rb, 0, none⟩)] W fun e w' => e = .returned (.int .i64 (eN t0 : Nat)) ∧ (∃ sh', Rdr w' rb (rdL (eT2 t0) 4) sh') ∧ Fr [rb] W w') := fun W rb sh h => (rnumber_any rb (eT2 t0) sh W h (by omega)).mono fun e w' hp => ⟨hp.1, ⟨_, hp.2.1⟩, hp.2.2⟩
 obtain ⟨rb, hrb⟩ : ∃ rb, w.heap.size = rb := ⟨_, rfl⟩
 have HB : Hid (w.heap.size = rb) := hrb
 have HCC : Hid (∀ W, Fr [] w W → Calls Tryz.prog 39 #[.pointer (some ⟨b, 0, none⟩), .int .i64 (eN t0 : Nat)] W fun e w' => (∃ c, e = .returned (.int .i64 c)) ∧ Q w') := HC
 obtain ⟨k0, hk0⟩ : ∃ k0, valN (rdT t0 1).data.toList = k0 := ⟨_, rfl⟩
 rw [hk0] at H1
 rw [hk] at H2
 obtain ⟨n, hn⟩ : ∃ n : Int, ((eN t0 : Nat) : Int) = n := ⟨_, rfl⟩
 rw [hn] at H3 HCC
 obtain ⟨t1, ht1⟩ : ∃ t, eT1 t0 = t := ⟨_, rfl⟩
 obtain ⟨t2, ht2⟩ : ∃ t, eT2 t0 = t := ⟨_, rfl⟩
 obtain ⟨t3, ht3⟩ : ∃ t, rdL (eT2 t0) 4 = t := ⟨_, rfl⟩
 rw [ht3] at H3
 rw [ht1] at H1 H2
 rw [ht2] at H2 H3
 clear ht1 ht2 ht3 hn hk hle hT hk0 HC hrb
 go_enter Tryz.func57, Tryz.ntmps57
 go_wp2_with (first
  | (go_at_call 84; refine (HN.out _).mono ?_; rintro e w1 ⟨rfl, r1, f1⟩; rw [HB.out] at r1 ⊢; have G1 : Hid ((∃ sh, Rdr w1 rb t0 sh) ∧ Fr [] w w1) := ⟨⟨_, r1⟩, f1⟩; clear r1 f1)
  | (go_at_call 86; obtain ⟨sh, g⟩ := G3.out.1; refine (H3.out _ _ _ g).mono ?_; rintro e w4 ⟨rfl, r4, f4⟩; have G4 : Hid ((∃ sh, Rdr w4 rb t3 sh) ∧ Fr [] w w4) := ⟨r4, G3.out.2.trans f4 (fun k hk => Or.inr (by simp at hk; subst hk; exact Nat.le_of_eq HB.out))⟩; clear r4 f4)
  | (go_at_call 85; obtain ⟨sh, g⟩ := G2.out.1; refine (H2.out _ _ _ g).mono ?_; rintro e w3 ⟨rfl, r3, f3⟩; have G3 : Hid ((∃ sh, Rdr w3 rb t2 sh) ∧ Fr [] w w3) := ⟨r3, G2.out.2.trans f3 (fun k hk => Or.inr (by simp at hk; subst hk; exact Nat.le_of_eq HB.out))⟩; clear r3 f3)
  | (go_at_call 85; obtain ⟨sh, g⟩ := G1.out.1; refine (H1.out _ _ _ g).mono ?_; rintro e w2 ⟨rfl, r2, f2⟩; have G2 : Hid ((∃ sh, Rdr w2 rb t1 sh) ∧ Fr [] w w2) := ⟨r2, G1.out.2.trans f2 (fun k hk => Or.inr (by simp at hk; subst hk; exact Nat.le_of_eq HB.out))⟩; clear r2 f2)
  | (go_at_call 39; refine (HCC.out _ G4.out.2).mono ?_; rintro e w9 ⟨⟨c, rfl⟩, q9⟩; have G9 : Hid (Q w9) := q9; clear q9))
 go_end0
 exact ⟨rfl, G9.out⟩
set_option maxRecDepth 100000 in
set_option maxHeartbeats 1600000 in
theorem redo_M (b : Nat) (t0 : ByteArray) (hT : t0.size ≤ 300) (hk : eK t0 = 77) (w : World) (Q : World → Prop)
  (HC : ∀ W, Fr [] w W → Calls Tryz.prog 42 #[.pointer (some ⟨b, 0, none⟩), .int .i64 (eN t0 : Nat)] W fun e w' => (∃ c, e = .returned (.int .i64 c)) ∧ Q w') :
  Calls Tryz.prog 57 #[.pointer (some ⟨b, 0, none⟩), .string t0] w fun e w' => e = .returned (.tuple #[]) ∧ Q w' := by
 have hle := eT_le t0
 have HN : Hid (∀ W, Calls Tryz.prog 84 #[.string t0] W fun e w' => e = .returned (.pointer (some ⟨W.heap.size, 0, none⟩)) ∧ Rdr w' W.heap.size t0 false ∧ Fr [] W w') := fun W => newReader_any _ W
 have H1 : Hid (∀ W rb sh, Rdr W rb t0 sh → Calls Tryz.prog 85 #[.pointer (some ⟨rb, 0, none⟩)] W fun e w' => e = .returned (.int .i64 (valN (rdT t0 1).data.toList : Nat)) ∧ (∃ sh', Rdr w' rb (eT1 t0) sh') ∧ Fr [rb] W w') := fun W rb sh h => (rbyte_any rb t0 sh W h (by omega)).mono fun e w' hp => ⟨hp.1, ⟨_, hp.2.1⟩, hp.2.2⟩
 have H2 : Hid (∀ W rb sh, Rdr W rb (eT1 t0) sh → Calls Tryz.prog 85 #[.pointer (some ⟨rb, 0, none⟩)] W fun e w' => e = .returned (.int .i64 (eK t0 : Nat)) ∧ (∃ sh', Rdr w' rb (eT2 t0) sh') ∧ Fr [rb] W w') := fun W rb sh h => (rbyte_any rb (eT1 t0) sh W h (by omega)).mono fun e w' hp => ⟨hp.1, ⟨_, hp.2.1⟩, hp.2.2⟩
 have H3 : Hid (∀ W rb sh, Rdr W rb (eT2 t0) sh → Calls Tryz.prog 86 #[.pointer (some ⟨rb, 0, none⟩)] W fun e w' => e = .returned (.int .i64 (eN t0 : Nat)) ∧ (∃ sh', Rdr w' rb (rdL (eT2 t0) 4) sh') ∧ Fr [rb] W w') := fun W rb sh h => (rnumber_any rb (eT2 t0) sh W h (by omega)).mono fun e w' hp => ⟨hp.1, ⟨_, hp.2.1⟩, hp.2.2⟩
 obtain ⟨rb, hrb⟩ : ∃ rb, w.heap.size = rb := ⟨_, rfl⟩
 have HB : Hid (w.heap.size = rb) := hrb
 have HCC : Hid (∀ W, Fr [] w W → Calls Tryz.prog 42 #[.pointer (some ⟨b, 0, none⟩), .int .i64 (eN t0 : Nat)] W fun e w' => (∃ c, e = .returned (.int .i64 c)) ∧ Q w') := HC
 obtain ⟨k0, hk0⟩ : ∃ k0, valN (rdT t0 1).data.toList = k0 := ⟨_, rfl⟩
 rw [hk0] at H1
 rw [hk] at H2
 obtain ⟨n, hn⟩ : ∃ n : Int, ((eN t0 : Nat) : Int) = n := ⟨_, rfl⟩
 rw [hn] at H3 HCC
 obtain ⟨t1, ht1⟩ : ∃ t, eT1 t0 = t := ⟨_, rfl⟩
 obtain ⟨t2, ht2⟩ : ∃ t, eT2 t0 = t := ⟨_, rfl⟩
 obtain ⟨t3, ht3⟩ : ∃ t, rdL (eT2 t0) 4 = t := ⟨_, rfl⟩
 rw [ht3] at H3
 rw [ht1] at H1 H2
 rw [ht2] at H2 H3
 clear ht1 ht2 ht3 hn hk hle hT hk0 HC hrb
 go_enter Tryz.func57, Tryz.ntmps57
 go_wp2_with (first
  | (go_at_call 84; refine (HN.out _).mono ?_; rintro e w1 ⟨rfl, r1, f1⟩; rw [HB.out] at r1 ⊢; have G1 : Hid ((∃ sh, Rdr w1 rb t0 sh) ∧ Fr [] w w1) := ⟨⟨_, r1⟩, f1⟩; clear r1 f1)
  | (go_at_call 86; obtain ⟨sh, g⟩ := G3.out.1; refine (H3.out _ _ _ g).mono ?_; rintro e w4 ⟨rfl, r4, f4⟩; have G4 : Hid ((∃ sh, Rdr w4 rb t3 sh) ∧ Fr [] w w4) := ⟨r4, G3.out.2.trans f4 (fun k hk => Or.inr (by simp at hk; subst hk; exact Nat.le_of_eq HB.out))⟩; clear r4 f4)
  | (go_at_call 85; obtain ⟨sh, g⟩ := G2.out.1; refine (H2.out _ _ _ g).mono ?_; rintro e w3 ⟨rfl, r3, f3⟩; have G3 : Hid ((∃ sh, Rdr w3 rb t2 sh) ∧ Fr [] w w3) := ⟨r3, G2.out.2.trans f3 (fun k hk => Or.inr (by simp at hk; subst hk; exact Nat.le_of_eq HB.out))⟩; clear r3 f3)
  | (go_at_call 85; obtain ⟨sh, g⟩ := G1.out.1; refine (H1.out _ _ _ g).mono ?_; rintro e w2 ⟨rfl, r2, f2⟩; have G2 : Hid ((∃ sh, Rdr w2 rb t1 sh) ∧ Fr [] w w2) := ⟨r2, G1.out.2.trans f2 (fun k hk => Or.inr (by simp at hk; subst hk; exact Nat.le_of_eq HB.out))⟩; clear r2 f2)
  | (go_at_call 42; refine (HCC.out _ G4.out.2).mono ?_; rintro e w9 ⟨⟨c, rfl⟩, q9⟩; have G9 : Hid (Q w9) := q9; clear q9))
 go_end0
 exact ⟨rfl, G9.out⟩
set_option maxRecDepth 100000 in
set_option maxHeartbeats 1600000 in
theorem redo_U (b : Nat) (t0 : ByteArray) (hT : t0.size ≤ 300) (hk : eK t0 = 85) (w : World) (Q : World → Prop)
  (HC : ∀ W, Fr [] w W → Calls Tryz.prog 44 #[.pointer (some ⟨b, 0, none⟩), .int .i64 (eN t0 : Nat)] W fun e w' => (∃ c, e = .returned (.int .i64 c)) ∧ Q w') :
  Calls Tryz.prog 57 #[.pointer (some ⟨b, 0, none⟩), .string t0] w fun e w' => e = .returned (.tuple #[]) ∧ Q w' := by
 have hle := eT_le t0
 have HN : Hid (∀ W, Calls Tryz.prog 84 #[.string t0] W fun e w' => e = .returned (.pointer (some ⟨W.heap.size, 0, none⟩)) ∧ Rdr w' W.heap.size t0 false ∧ Fr [] W w') := fun W => newReader_any _ W
 have H1 : Hid (∀ W rb sh, Rdr W rb t0 sh → Calls Tryz.prog 85 #[.pointer (some ⟨rb, 0, none⟩)] W fun e w' => e = .returned (.int .i64 (valN (rdT t0 1).data.toList : Nat)) ∧ (∃ sh', Rdr w' rb (eT1 t0) sh') ∧ Fr [rb] W w') := fun W rb sh h => (rbyte_any rb t0 sh W h (by omega)).mono fun e w' hp => ⟨hp.1, ⟨_, hp.2.1⟩, hp.2.2⟩
 have H2 : Hid (∀ W rb sh, Rdr W rb (eT1 t0) sh → Calls Tryz.prog 85 #[.pointer (some ⟨rb, 0, none⟩)] W fun e w' => e = .returned (.int .i64 (eK t0 : Nat)) ∧ (∃ sh', Rdr w' rb (eT2 t0) sh') ∧ Fr [rb] W w') := fun W rb sh h => (rbyte_any rb (eT1 t0) sh W h (by omega)).mono fun e w' hp => ⟨hp.1, ⟨_, hp.2.1⟩, hp.2.2⟩
 have H3 : Hid (∀ W rb sh, Rdr W rb (eT2 t0) sh → Calls Tryz.prog 86 #[.pointer (some ⟨rb, 0, none⟩)] W fun e w' => e = .returned (.int .i64 (eN t0 : Nat)) ∧ (∃ sh', Rdr w' rb (rdL (eT2 t0) 4) sh') ∧ Fr [rb] W w') := fun W rb sh h => (rnumber_any rb (eT2 t0) sh W h (by omega)).mono fun e w' hp => ⟨hp.1, ⟨_, hp.2.1⟩, hp.2.2⟩
 obtain ⟨rb, hrb⟩ : ∃ rb, w.heap.size = rb := ⟨_, rfl⟩
 have HB : Hid (w.heap.size = rb) := hrb
 have HCC : Hid (∀ W, Fr [] w W → Calls Tryz.prog 44 #[.pointer (some ⟨b, 0, none⟩), .int .i64 (eN t0 : Nat)] W fun e w' => (∃ c, e = .returned (.int .i64 c)) ∧ Q w') := HC
 obtain ⟨k0, hk0⟩ : ∃ k0, valN (rdT t0 1).data.toList = k0 := ⟨_, rfl⟩
 rw [hk0] at H1
 rw [hk] at H2
 obtain ⟨n, hn⟩ : ∃ n : Int, ((eN t0 : Nat) : Int) = n := ⟨_, rfl⟩
 rw [hn] at H3 HCC
 obtain ⟨t1, ht1⟩ : ∃ t, eT1 t0 = t := ⟨_, rfl⟩
 obtain ⟨t2, ht2⟩ : ∃ t, eT2 t0 = t := ⟨_, rfl⟩
 obtain ⟨t3, ht3⟩ : ∃ t, rdL (eT2 t0) 4 = t := ⟨_, rfl⟩
 rw [ht3] at H3
 rw [ht1] at H1 H2
 rw [ht2] at H2 H3
 clear ht1 ht2 ht3 hn hk hle hT hk0 HC hrb
 go_enter Tryz.func57, Tryz.ntmps57
 go_wp2_with (first
  | (go_at_call 84; refine (HN.out _).mono ?_; rintro e w1 ⟨rfl, r1, f1⟩; rw [HB.out] at r1 ⊢; have G1 : Hid ((∃ sh, Rdr w1 rb t0 sh) ∧ Fr [] w w1) := ⟨⟨_, r1⟩, f1⟩; clear r1 f1)
  | (go_at_call 86; obtain ⟨sh, g⟩ := G3.out.1; refine (H3.out _ _ _ g).mono ?_; rintro e w4 ⟨rfl, r4, f4⟩; have G4 : Hid ((∃ sh, Rdr w4 rb t3 sh) ∧ Fr [] w w4) := ⟨r4, G3.out.2.trans f4 (fun k hk => Or.inr (by simp at hk; subst hk; exact Nat.le_of_eq HB.out))⟩; clear r4 f4)
  | (go_at_call 85; obtain ⟨sh, g⟩ := G2.out.1; refine (H2.out _ _ _ g).mono ?_; rintro e w3 ⟨rfl, r3, f3⟩; have G3 : Hid ((∃ sh, Rdr w3 rb t2 sh) ∧ Fr [] w w3) := ⟨r3, G2.out.2.trans f3 (fun k hk => Or.inr (by simp at hk; subst hk; exact Nat.le_of_eq HB.out))⟩; clear r3 f3)
  | (go_at_call 85; obtain ⟨sh, g⟩ := G1.out.1; refine (H1.out _ _ _ g).mono ?_; rintro e w2 ⟨rfl, r2, f2⟩; have G2 : Hid ((∃ sh, Rdr w2 rb t1 sh) ∧ Fr [] w w2) := ⟨r2, G1.out.2.trans f2 (fun k hk => Or.inr (by simp at hk; subst hk; exact Nat.le_of_eq HB.out))⟩; clear r2 f2)
  | (go_at_call 44; refine (HCC.out _ G4.out.2).mono ?_; rintro e w9 ⟨⟨c, rfl⟩, q9⟩; have G9 : Hid (Q w9) := q9; clear q9))
 go_end0
 exact ⟨rfl, G9.out⟩
set_option maxRecDepth 100000 in
set_option maxHeartbeats 1600000 in
theorem redo_W (b : Nat) (t0 : ByteArray) (hT : t0.size ≤ 300) (hk : eK t0 = 87) (w : World) (Q : World → Prop)
  (HC : ∀ W, Fr [] w W → Calls Tryz.prog 25 #[.pointer (some ⟨b, 0, none⟩), .int .i64 (eB t0 : Nat), .string (eT3 t0)] W fun e w' => (∃ c, e = .returned (.int .i64 c)) ∧ Q w') :
  Calls Tryz.prog 57 #[.pointer (some ⟨b, 0, none⟩), .string t0] w fun e w' => e = .returned (.tuple #[]) ∧ Q w' := by
 have hle := eT_le t0
 have HN : Hid (∀ W, Calls Tryz.prog 84 #[.string t0] W fun e w' => e = .returned (.pointer (some ⟨W.heap.size, 0, none⟩)) ∧ Rdr w' W.heap.size t0 false ∧ Fr [] W w') := fun W => newReader_any _ W
 have H1 : Hid (∀ W rb sh, Rdr W rb t0 sh → Calls Tryz.prog 85 #[.pointer (some ⟨rb, 0, none⟩)] W fun e w' => e = .returned (.int .i64 (valN (rdT t0 1).data.toList : Nat)) ∧ (∃ sh', Rdr w' rb (eT1 t0) sh') ∧ Fr [rb] W w') := fun W rb sh h => (rbyte_any rb t0 sh W h (by omega)).mono fun e w' hp => ⟨hp.1, ⟨_, hp.2.1⟩, hp.2.2⟩
 have H2 : Hid (∀ W rb sh, Rdr W rb (eT1 t0) sh → Calls Tryz.prog 85 #[.pointer (some ⟨rb, 0, none⟩)] W fun e w' => e = .returned (.int .i64 (eK t0 : Nat)) ∧ (∃ sh', Rdr w' rb (eT2 t0) sh') ∧ Fr [rb] W w') := fun W rb sh h => (rbyte_any rb (eT1 t0) sh W h (by omega)).mono fun e w' hp => ⟨hp.1, ⟨_, hp.2.1⟩, hp.2.2⟩
 have H3 : Hid (∀ W rb sh, Rdr W rb (eT2 t0) sh → Calls Tryz.prog 85 #[.pointer (some ⟨rb, 0, none⟩)] W fun e w' => e = .returned (.int .i64 (eB t0 : Nat)) ∧ (∃ sh', Rdr w' rb (eT3 t0) sh') ∧ Fr [rb] W w') := fun W rb sh h => (rbyte_any rb (eT2 t0) sh W h (by omega)).mono fun e w' hp => ⟨hp.1, ⟨_, hp.2.1⟩, hp.2.2⟩
 have H4 : Hid (∀ W rb sh, Rdr W rb (eT3 t0) sh → Calls Tryz.prog 89 #[.pointer (some ⟨rb, 0, none⟩)] W fun e w' => e = .returned (.int .i64 ((eT3 t0).size : Nat)) ∧ w' = W) := fun W rb sh h => left_any rb _ _ W h
 have H5 : Hid (∀ W rb sh, Rdr W rb (eT3 t0) sh → Calls Tryz.prog 88 #[.pointer (some ⟨rb, 0, none⟩), .int .i64 ((eT3 t0).size : Nat)] W fun e w' => e = .returned (.string (eT3 t0)) ∧ (∃ t4 sh', Rdr w' rb t4 sh') ∧ Fr [rb] W w') := fun W rb sh h => (rtext_any rb (eT3 t0) sh _ W h (by omega) (by omega)).mono fun e w' hp => ⟨by rw [rdT_all] at hp; exact hp.1, ⟨_, _, hp.2.1⟩, hp.2.2⟩
 obtain ⟨rb, hrb⟩ : ∃ rb, w.heap.size = rb := ⟨_, rfl⟩
 have HB : Hid (w.heap.size = rb) := hrb
 have HCC : Hid (∀ W, Fr [] w W → Calls Tryz.prog 25 #[.pointer (some ⟨b, 0, none⟩), .int .i64 (eB t0 : Nat), .string (eT3 t0)] W fun e w' => (∃ c, e = .returned (.int .i64 c)) ∧ Q w') := HC
 obtain ⟨k0, hk0⟩ : ∃ k0, valN (rdT t0 1).data.toList = k0 := ⟨_, rfl⟩
 rw [hk0] at H1
 rw [hk] at H2
 obtain ⟨n, hn⟩ : ∃ n : Int, ((eB t0 : Nat) : Int) = n := ⟨_, rfl⟩
 rw [hn] at H3 HCC
 obtain ⟨z, hz⟩ : ∃ z : Int, (((eT3 t0).size : Nat) : Int) = z := ⟨_, rfl⟩
 rw [hz] at H4 H5
 obtain ⟨t1, ht1⟩ : ∃ t, eT1 t0 = t := ⟨_, rfl⟩
 obtain ⟨t2, ht2⟩ : ∃ t, eT2 t0 = t := ⟨_, rfl⟩
 obtain ⟨t3, ht3⟩ : ∃ t, eT3 t0 = t := ⟨_, rfl⟩
 rw [ht3] at H3 H4 H5 HCC
 rw [ht1] at H1 H2
 rw [ht2] at H2 H3
 clear ht1 ht2 ht3 hn hz hk hle hT hk0 HC hrb
 go_enter Tryz.func57, Tryz.ntmps57
 go_wp2_with (first
  | (go_at_call 84; refine (HN.out _).mono ?_; rintro e w1 ⟨rfl, r1, f1⟩; rw [HB.out] at r1 ⊢; have G1 : Hid ((∃ sh, Rdr w1 rb t0 sh) ∧ Fr [] w w1) := ⟨⟨_, r1⟩, f1⟩; clear r1 f1)
  | (go_at_call 89; obtain ⟨sh, g⟩ := G4.out.1; refine (H4.out _ _ _ g).mono ?_; rintro e w' ⟨rfl, hw'⟩; have hw' := hw'.symm; subst hw')
  | (go_at_call 88; obtain ⟨sh, g⟩ := G4.out.1; refine (H5.out _ _ _ g).mono ?_; rintro e w5 ⟨rfl, r5, f5⟩; have G5 : Hid (Fr [] w w5) := G4.out.2.trans f5 (fun k hk => Or.inr (by simp at hk; subst hk; exact Nat.le_of_eq HB.out)); clear r5 f5)
  | (go_at_call 85; obtain ⟨sh, g⟩ := G3.out.1; refine (H3.out _ _ _ g).mono ?_; rintro e w4 ⟨rfl, r4, f4⟩; have G4 : Hid ((∃ sh, Rdr w4 rb t3 sh) ∧ Fr [] w w4) := ⟨r4, G3.out.2.trans f4 (fun k hk => Or.inr (by simp at hk; subst hk; exact Nat.le_of_eq HB.out))⟩; clear r4 f4)
  | (go_at_call 85; obtain ⟨sh, g⟩ := G2.out.1; refine (H2.out _ _ _ g).mono ?_; rintro e w3 ⟨rfl, r3, f3⟩; have G3 : Hid ((∃ sh, Rdr w3 rb t2 sh) ∧ Fr [] w w3) := ⟨r3, G2.out.2.trans f3 (fun k hk => Or.inr (by simp at hk; subst hk; exact Nat.le_of_eq HB.out))⟩; clear r3 f3)
  | (go_at_call 85; obtain ⟨sh, g⟩ := G1.out.1; refine (H1.out _ _ _ g).mono ?_; rintro e w2 ⟨rfl, r2, f2⟩; have G2 : Hid ((∃ sh, Rdr w2 rb t1 sh) ∧ Fr [] w w2) := ⟨r2, G1.out.2.trans f2 (fun k hk => Or.inr (by simp at hk; subst hk; exact Nat.le_of_eq HB.out))⟩; clear r2 f2)
  | (go_at_call 25; refine (HCC.out _ G5.out).mono ?_; rintro e w9 ⟨⟨c, rfl⟩, q9⟩; have G9 : Hid (Q w9) := q9; clear q9))
 go_end0
 exact ⟨rfl, G9.out⟩
set_option maxRecDepth 100000 in
set_option maxHeartbeats 1600000 in
theorem redo_T (b : Nat) (t0 : ByteArray) (hT : t0.size ≤ 300) (hk : eK t0 = 84) (w : World) (Q : World → Prop)
  (HC : ∀ W, Fr [] w W → Calls Tryz.prog 52 #[.pointer (some ⟨b, 0, none⟩), .string (eT2 t0)] W fun e w' => (∃ a c, e = .returned (.tuple #[.int .i64 a, .int .i64 c])) ∧ Q w') :
  Calls Tryz.prog 57 #[.pointer (some ⟨b, 0, none⟩), .string t0] w fun e w' => e = .returned (.tuple #[]) ∧ Q w' := by
 have hle := eT_le t0
 have HN : Hid (∀ W, Calls Tryz.prog 84 #[.string t0] W fun e w' => e = .returned (.pointer (some ⟨W.heap.size, 0, none⟩)) ∧ Rdr w' W.heap.size t0 false ∧ Fr [] W w') := fun W => newReader_any _ W
 have H1 : Hid (∀ W rb sh, Rdr W rb t0 sh → Calls Tryz.prog 85 #[.pointer (some ⟨rb, 0, none⟩)] W fun e w' => e = .returned (.int .i64 (valN (rdT t0 1).data.toList : Nat)) ∧ (∃ sh', Rdr w' rb (eT1 t0) sh') ∧ Fr [rb] W w') := fun W rb sh h => (rbyte_any rb t0 sh W h (by omega)).mono fun e w' hp => ⟨hp.1, ⟨_, hp.2.1⟩, hp.2.2⟩
 have H2 : Hid (∀ W rb sh, Rdr W rb (eT1 t0) sh → Calls Tryz.prog 85 #[.pointer (some ⟨rb, 0, none⟩)] W fun e w' => e = .returned (.int .i64 (eK t0 : Nat)) ∧ (∃ sh', Rdr w' rb (eT2 t0) sh') ∧ Fr [rb] W w') := fun W rb sh h => (rbyte_any rb (eT1 t0) sh W h (by omega)).mono fun e w' hp => ⟨hp.1, ⟨_, hp.2.1⟩, hp.2.2⟩
 have H4 : Hid (∀ W rb sh, Rdr W rb (eT2 t0) sh → Calls Tryz.prog 89 #[.pointer (some ⟨rb, 0, none⟩)] W fun e w' => e = .returned (.int .i64 ((eT2 t0).size : Nat)) ∧ w' = W) := fun W rb sh h => left_any rb _ _ W h
 have H5 : Hid (∀ W rb sh, Rdr W rb (eT2 t0) sh → Calls Tryz.prog 88 #[.pointer (some ⟨rb, 0, none⟩), .int .i64 ((eT2 t0).size : Nat)] W fun e w' => e = .returned (.string (eT2 t0)) ∧ (∃ t4 sh', Rdr w' rb t4 sh') ∧ Fr [rb] W w') := fun W rb sh h => (rtext_any rb (eT2 t0) sh _ W h (by omega) (by omega)).mono fun e w' hp => ⟨by rw [rdT_all] at hp; exact hp.1, ⟨_, _, hp.2.1⟩, hp.2.2⟩
 obtain ⟨rb, hrb⟩ : ∃ rb, w.heap.size = rb := ⟨_, rfl⟩
 have HB : Hid (w.heap.size = rb) := hrb
 have HCC : Hid (∀ W, Fr [] w W → Calls Tryz.prog 52 #[.pointer (some ⟨b, 0, none⟩), .string (eT2 t0)] W fun e w' => (∃ a c, e = .returned (.tuple #[.int .i64 a, .int .i64 c])) ∧ Q w') := HC
 obtain ⟨k0, hk0⟩ : ∃ k0, valN (rdT t0 1).data.toList = k0 := ⟨_, rfl⟩
 rw [hk0] at H1
 rw [hk] at H2
 obtain ⟨z, hz⟩ : ∃ z : Int, (((eT2 t0).size : Nat) : Int) = z := ⟨_, rfl⟩
 rw [hz] at H4 H5
 obtain ⟨t1, ht1⟩ : ∃ t, eT1 t0 = t := ⟨_, rfl⟩
 obtain ⟨t2, ht2⟩ : ∃ t, eT2 t0 = t := ⟨_, rfl⟩
 rw [ht1] at H1 H2
 rw [ht2] at H2 H4 H5 HCC
 clear ht1 ht2 hz hk hle hT hk0 HC hrb
 go_enter Tryz.func57, Tryz.ntmps57
 go_wp2_with (first
  | (go_at_call 84; refine (HN.out _).mono ?_; rintro e w1 ⟨rfl, r1, f1⟩; rw [HB.out] at r1 ⊢; have G1 : Hid ((∃ sh, Rdr w1 rb t0 sh) ∧ Fr [] w w1) := ⟨⟨_, r1⟩, f1⟩; clear r1 f1)
  | (go_at_call 89; obtain ⟨sh, g⟩ := G3.out.1; refine (H4.out _ _ _ g).mono ?_; rintro e w' ⟨rfl, hw'⟩; have hw' := hw'.symm; subst hw')
  | (go_at_call 88; obtain ⟨sh, g⟩ := G3.out.1; refine (H5.out _ _ _ g).mono ?_; rintro e w5 ⟨rfl, r5, f5⟩; have G5 : Hid (Fr [] w w5) := G3.out.2.trans f5 (fun k hk => Or.inr (by simp at hk; subst hk; exact Nat.le_of_eq HB.out)); clear r5 f5)
  | (go_at_call 85; obtain ⟨sh, g⟩ := G2.out.1; refine (H2.out _ _ _ g).mono ?_; rintro e w3 ⟨rfl, r3, f3⟩; have G3 : Hid ((∃ sh, Rdr w3 rb t2 sh) ∧ Fr [] w w3) := ⟨r3, G2.out.2.trans f3 (fun k hk => Or.inr (by simp at hk; subst hk; exact Nat.le_of_eq HB.out))⟩; clear r3 f3)
  | (go_at_call 85; obtain ⟨sh, g⟩ := G1.out.1; refine (H1.out _ _ _ g).mono ?_; rintro e w2 ⟨rfl, r2, f2⟩; have G2 : Hid ((∃ sh, Rdr w2 rb t1 sh) ∧ Fr [] w w2) := ⟨r2, G1.out.2.trans f2 (fun k hk => Or.inr (by simp at hk; subst hk; exact Nat.le_of_eq HB.out))⟩; clear r2 f2)
  | (go_at_call 52; refine (HCC.out _ G5.out).mono ?_; rintro e w9 ⟨⟨a, c, rfl⟩, q9⟩; have G9 : Hid (Q w9) := q9; clear q9))
 go_end0
 exact ⟨rfl, G9.out⟩
set_option maxRecDepth 100000 in
set_option maxHeartbeats 1600000 in
theorem redo_O (b : Nat) (t0 : ByteArray) (hT : t0.size ≤ 300) (hk : ∀ k ∈ ([87, 83, 72, 82, 68, 77, 85, 84] : List Nat), eK t0 ≠ k) (w : World) (Q : World → Prop)
  (HC : ∀ W, Fr [] w W → Q W) :
  Calls Tryz.prog 57 #[.pointer (some ⟨b, 0, none⟩), .string t0] w fun e w' => e = .returned (.tuple #[]) ∧ Q w' := by
 have hle := eT_le t0
 have HN : Hid (∀ W, Calls Tryz.prog 84 #[.string t0] W fun e w' => e = .returned (.pointer (some ⟨W.heap.size, 0, none⟩)) ∧ Rdr w' W.heap.size t0 false ∧ Fr [] W w') := fun W => newReader_any _ W
 have H1 : Hid (∀ W rb sh, Rdr W rb t0 sh → Calls Tryz.prog 85 #[.pointer (some ⟨rb, 0, none⟩)] W fun e w' => e = .returned (.int .i64 (valN (rdT t0 1).data.toList : Nat)) ∧ (∃ sh', Rdr w' rb (eT1 t0) sh') ∧ Fr [rb] W w') := fun W rb sh h => (rbyte_any rb t0 sh W h (by omega)).mono fun e w' hp => ⟨hp.1, ⟨_, hp.2.1⟩, hp.2.2⟩
 have H2 : Hid (∀ W rb sh, Rdr W rb (eT1 t0) sh → Calls Tryz.prog 85 #[.pointer (some ⟨rb, 0, none⟩)] W fun e w' => e = .returned (.int .i64 (eK t0 : Nat)) ∧ (∃ sh', Rdr w' rb (eT2 t0) sh') ∧ Fr [rb] W w') := fun W rb sh h => (rbyte_any rb (eT1 t0) sh W h (by omega)).mono fun e w' hp => ⟨hp.1, ⟨_, hp.2.1⟩, hp.2.2⟩
 obtain ⟨rb, hrb⟩ : ∃ rb, w.heap.size = rb := ⟨_, rfl⟩
 have HB : Hid (w.heap.size = rb) := hrb
 have HCC : Hid (∀ W, Fr [] w W → Q W) := HC
 obtain ⟨k0, hk0⟩ : ∃ k0, valN (rdT t0 1).data.toList = k0 := ⟨_, rfl⟩
 rw [hk0] at H1
 obtain ⟨kk, hkk⟩ : ∃ kk : Int, ((eK t0 : Nat) : Int) = kk := ⟨_, rfl⟩
 rw [hkk] at H2
 have n1 : (kk == 87) = false := by have := hk 87 (by simp); simp; omega
 have n2 : (kk == 83) = false := by have := hk 83 (by simp); simp; omega
 have n3 : (kk == 72) = false := by have := hk 72 (by simp); simp; omega
 have n4 : (kk == 82) = false := by have := hk 82 (by simp); simp; omega
 have n5 : (kk == 68) = false := by have := hk 68 (by simp); simp; omega
 have n6 : (kk == 77) = false := by have := hk 77 (by simp); simp; omega
 have n7 : (kk == 85) = false := by have := hk 85 (by simp); simp; omega
 have n8 : (kk == 84) = false := by have := hk 84 (by simp); simp; omega
 obtain ⟨t1, ht1⟩ : ∃ t, eT1 t0 = t := ⟨_, rfl⟩
 obtain ⟨t2, ht2⟩ : ∃ t, eT2 t0 = t := ⟨_, rfl⟩
 rw [ht1] at H1 H2
 rw [ht2] at H2
 clear ht1 ht2 hk hkk hle hT hk0 HC hrb
 go_enter Tryz.func57, Tryz.ntmps57
 go_wp2_with (first
  | (go_at_call 84; refine (HN.out _).mono ?_; rintro e w1 ⟨rfl, r1, f1⟩; rw [HB.out] at r1 ⊢; have G1 : Hid ((∃ sh, Rdr w1 rb t0 sh) ∧ Fr [] w w1) := ⟨⟨_, r1⟩, f1⟩; clear r1 f1)
  | (go_at_call 85; obtain ⟨sh, g⟩ := G2.out.1; refine (H2.out _ _ _ g).mono ?_; rintro e w3 ⟨rfl, r3, f3⟩; have G3 : Hid ((∃ sh, Rdr w3 rb t2 sh) ∧ Fr [] w w3) := ⟨r3, G2.out.2.trans f3 (fun k hk => Or.inr (by simp at hk; subst hk; exact Nat.le_of_eq HB.out))⟩; clear r3 f3)
  | (go_at_call 85; obtain ⟨sh, g⟩ := G1.out.1; refine (H1.out _ _ _ g).mono ?_; rintro e w2 ⟨rfl, r2, f2⟩; have G2 : Hid ((∃ sh, Rdr w2 rb t1 sh) ∧ Fr [] w w2) := ⟨r2, G1.out.2.trans f2 (fun k hk => Or.inr (by simp at hk; subst hk; exact Nat.le_of_eq HB.out))⟩; clear r2 f2))
 go_end0
 exact ⟨rfl, HCC.out _ G3.out.2⟩
end Go.Proofs.YthdhegmlknpllaaGreat
