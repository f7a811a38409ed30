import Derived.Test.YthdhegmlknpllaaGreatM38
namespace Go.Proofs.YthdhegmlknpllaaGreat
open Go.RowKit Go.Maps Go.MuLone
def bT3 (t : ByteArray) : ByteArray := rdL (eT2 t) 4
def bN (t : ByteArray) : Nat := valN (rdT (bT3 t) 1).data.toList
def bT4 (t : ByteArray) : ByteArray := rdL (bT3 t) 1
def bS (t : ByteArray) : Bool := rdS (bT3 t) (rdS (eT2 t) (rdS (eT1 t) (rdS t false 1) 1) 4) 1
theorem bT_le (t : ByteArray) : (bT3 t).size ≤ t.size ∧ (bT4 t).size ≤ t.size := by
 have h1 := eT_le t
 have h2 := rdL_size (eT2 t) 4
 have h3 := rdL_size (bT3 t) 1
 unfold bT4 bT3 at *
 omega
theorem b_ended (t : ByteArray) (h : ((bT4 t).size : Int) = 0 ∧ bS t = false) : t.size = 7 := by
 obtain ⟨h0, hs⟩ := h
 unfold bS rdS at hs
 have e1 : ¬ (bT3 t).size < 1 := fun e => by rw [if_pos e] at hs; cases hs
 rw [if_neg e1] at hs
 have e2 : ¬ (eT2 t).size < 4 := fun e => by rw [if_pos e] at hs; cases hs
 rw [if_neg e2] at hs
 have e3 : ¬ (eT1 t).size < 1 := fun e => by rw [if_pos e] at hs; cases hs
 rw [if_neg e3] at hs
 have e4 : ¬ t.size < 1 := fun e => by rw [if_pos e] at hs; cases hs
 have s1 : (eT1 t).size = t.size - 1 := by unfold eT1 rdL; rw [if_neg e4, ByteArray.size_extract]; omega
 have s2 : (eT2 t).size = (eT1 t).size - 1 := by unfold eT2 rdL; rw [if_neg e3, ByteArray.size_extract]; omega
 have s3 : (bT3 t).size = (eT2 t).size - 4 := by unfold bT3 rdL; rw [if_neg e2, ByteArray.size_extract]; omega
 have s4 : (bT4 t).size = (bT3 t).size - 1 := by unfold bT4 rdL; rw [if_neg e1, ByteArray.size_extract]; omega
 omega
theorem new_some (d n : Nat) (W : World) : Calls Tryz.prog 12 #[.int .i64 (d : Int), .int .i64 (n : Int)] W fun e w' => ∃ p c, e = .returned (.tuple #[.pointer p, .int .i64 c]) ∧ Fr [] W w' := by
 by_cases h : (1 ≤ d ∧ d ≤ 999) ∧ 1 ≤ n ∧ n ≤ 16
 · refine (new_ok d n W (by omega) h.2).mono ?_
   rintro e w' ⟨b, vb, mb, lv, rfl, rp, f⟩
   exact ⟨_, _, rfl, f⟩
 · refine (new_bad d n W (by simp; omega)).mono ?_
   rintro e w' ⟨rfl, rfl⟩
   exact ⟨_, _, rfl, Fr.refl _ _⟩
set_option maxRecDepth 100000 in
set_option maxHeartbeats 1600000 in
theorem begin_A (t0 : ByteArray) (hT : t0.size ≤ 300) (hk : eK t0 ≠ 78) (w : World) :
  Calls Tryz.prog 55 #[.string t0] w fun e w' => e = .returned (.tuple #[.pointer none, .bool false]) ∧ Fr [] w w' := by
 have hle := eT_le t0
 have hlb := bT_le t0
 have HN : Hid (∀ W, Calls Tryz.prog 84 #[.string t0] W fun e w' => e = .returned (.pointer (some ⟨W.heap.size, 0, none⟩)) ∧ Rdr w' W.heap.size t0 false ∧ Fr [] W w') := fun W => newReader_any _ W
 have H1 : Hid (∀ W rb, Rdr W rb t0 false → Calls Tryz.prog 85 #[.pointer (some ⟨rb, 0, none⟩)] W fun e w' => e = .returned (.int .i64 (valN (rdT t0 1).data.toList : Nat)) ∧ Rdr w' rb (eT1 t0) (rdS t0 false 1) ∧ Fr [rb] W w') := fun W rb h => rbyte_any rb t0 _ W h (by omega)
 have H2 : Hid (∀ W rb, Rdr W rb (eT1 t0) (rdS t0 false 1) → Calls Tryz.prog 85 #[.pointer (some ⟨rb, 0, none⟩)] W fun e w' => e = .returned (.int .i64 (eK t0 : Nat)) ∧ Rdr w' rb (eT2 t0) (rdS (eT1 t0) (rdS t0 false 1) 1) ∧ Fr [rb] W w') := fun W rb h => rbyte_any rb (eT1 t0) _ W h (by omega)
 have H3 : Hid (∀ W rb, Rdr W rb (eT2 t0) (rdS (eT1 t0) (rdS t0 false 1) 1) → Calls Tryz.prog 86 #[.pointer (some ⟨rb, 0, none⟩)] W fun e w' => e = .returned (.int .i64 (eN t0 : Nat)) ∧ Rdr w' rb (bT3 t0) (rdS (eT2 t0) (rdS (eT1 t0) (rdS t0 false 1) 1) 4) ∧ Fr [rb] W w') := fun W rb h => rnumber_any rb (eT2 t0) _ W h (by omega)
 have H4 : Hid (∀ W rb, Rdr W rb (bT3 t0) (rdS (eT2 t0) (rdS (eT1 t0) (rdS t0 false 1) 1) 4) → Calls Tryz.prog 85 #[.pointer (some ⟨rb, 0, none⟩)] W fun e w' => e = .returned (.int .i64 (bN t0 : Nat)) ∧ Rdr w' rb (bT4 t0) (bS t0) ∧ Fr [rb] W w') := fun W rb h => rbyte_any rb (bT3 t0) _ W h (by omega)
 have HE : Hid (∀ W rb, Rdr W rb (bT4 t0) (bS t0) → Calls Tryz.prog 87 #[.pointer (some ⟨rb, 0, none⟩)] W fun e w' => e = .returned (.bool (decide ((bT4 t0).size = 0) && !bS t0)) ∧ w' = W) := fun W rb h => by
  have h8 := ended_any rb _ _ W h
  exact h8
 have HNw : Hid (∀ W, Calls Tryz.prog 12 #[.int .i64 (eN t0 : Nat), .int .i64 (bN t0 : Nat)] W fun e w' => ∃ p c, e = .returned (.tuple #[.pointer p, .int .i64 c]) ∧ Fr [] W w') := fun W => new_some _ _ W
 obtain ⟨k0, hk0⟩ : ∃ k0, valN (rdT t0 1).data.toList = k0 := ⟨_, rfl⟩
 rw [hk0] at H1
 obtain ⟨d, hd⟩ : ∃ d, eN t0 = d := ⟨_, rfl⟩
 rw [hd] at H3 HNw
 obtain ⟨n, hn⟩ : ∃ n, bN t0 = n := ⟨_, rfl⟩
 rw [hn] at H4 HNw
 obtain ⟨kk, hkk⟩ : ∃ kk : Int, ((eK t0 : Nat) : Int) = kk := ⟨_, rfl⟩
 rw [hkk] at H2
 have nk : (kk == 78) = false := by simp; omega
 clear hk hkk
 obtain ⟨s1, hs1⟩ : ∃ s, rdS t0 false 1 = s := ⟨_, rfl⟩
 rw [hs1] at H1 H2 H3 H4
 obtain ⟨s2, hs2⟩ : ∃ s, rdS (eT1 t0) s1 1 = s := ⟨_, rfl⟩
 rw [hs2] at H2 H3 H4
 obtain ⟨s3, hs3⟩ : ∃ s, rdS (eT2 t0) s2 4 = s := ⟨_, rfl⟩
 rw [hs3] at H3 H4
 obtain ⟨s4, hs4⟩ : ∃ s, bS t0 = s := ⟨_, rfl⟩
 rw [hs4] at H4 HE
 obtain ⟨t1, ht1⟩ : ∃ t, eT1 t0 = t := ⟨_, rfl⟩
 obtain ⟨t2, ht2⟩ : ∃ t, eT2 t0 = t := ⟨_, rfl⟩
 obtain ⟨t3, ht3⟩ : ∃ t, bT3 t0 = t := ⟨_, rfl⟩
 obtain ⟨t4, ht4⟩ : ∃ t, bT4 t0 = t := ⟨_, rfl⟩
 rw [ht1] at H1 H2
 rw [ht2] at H2 H3
 rw [ht3] at H3 H4
 rw [ht4] at H4 HE
 obtain ⟨rb, hrb⟩ : ∃ rb, w.heap.size = rb := ⟨_, rfl⟩
 have HB : Hid (w.heap.size = rb) := hrb
 clear ht1 ht2 ht3 ht4 hs1 hs2 hs3 hs4 hd hn hk0 hle hlb hT hrb
 go_enter Tryz.func55, Tryz.ntmps55
 go_wp2_with (first
  | (go_at_call 84; refine (HN.out _).mono ?_; rintro e w1 ⟨rfl, r1, f1⟩; rw [HB.out] at r1 ⊢; have G1 : Hid (Rdr w1 rb t0 false ∧ Fr [] w w1) := ⟨r1, f1⟩; clear r1 f1)
  | (go_at_call 85; refine (H4.out _ _ G4.out.1).mono ?_; rintro e w5 ⟨rfl, r5, f5⟩; have G5 : Hid (Rdr w5 rb t4 s4 ∧ Fr [] w w5) := ⟨r5, G4.out.2.trans f5 (fun k hk => Or.inr (by simp at hk; subst hk; exact Nat.le_of_eq HB.out))⟩; clear r5 f5)
  | (go_at_call 86; refine (H3.out _ _ G3.out.1).mono ?_; rintro e w4 ⟨rfl, r4, f4⟩; have G4 : Hid (Rdr w4 rb t3 s3 ∧ Fr [] w w4) := ⟨r4, G3.out.2.trans f4 (fun k hk => Or.inr (by simp at hk; subst hk; exact Nat.le_of_eq HB.out))⟩; clear r4 f4)
  | (go_at_call 85; refine (H2.out _ _ G2.out.1).mono ?_; rintro e w3 ⟨rfl, r3, f3⟩; have G3 : Hid (Rdr w3 rb t2 s2 ∧ Fr [] w w3) := ⟨r3, G2.out.2.trans f3 (fun k hk => Or.inr (by simp at hk; subst hk; exact Nat.le_of_eq HB.out))⟩; clear r3 f3)
  | (go_at_call 85; refine (H1.out _ _ G1.out.1).mono ?_; rintro e w2 ⟨rfl, r2, f2⟩; have G2 : Hid (Rdr w2 rb t1 s1 ∧ Fr [] w w2) := ⟨r2, G1.out.2.trans f2 (fun k hk => Or.inr (by simp at hk; subst hk; exact Nat.le_of_eq HB.out))⟩; clear r2 f2)
  | (go_at_call 12; refine (HNw.out _).mono ?_; rintro e w6 ⟨p, c, rfl, f6⟩; have G6 : Hid (Rdr w6 rb t4 s4 ∧ Fr [] w w6) := ⟨rdr_fr G5.out.1 f6, G5.out.2.tr f6⟩; clear f6)
  | (go_at_call 87; refine (HE.out _ _ G6.out.1).mono ?_; rintro e w' ⟨rfl, hw'⟩; have hw' := hw'.symm; subst hw'))
 go_ret2
 exact ⟨rfl, G6.out.2⟩
set_option maxRecDepth 100000 in
set_option maxHeartbeats 1600000 in
theorem begin_B (t0 : ByteArray) (hT : t0.size ≤ 300) (hk : eK t0 = 78) (hb : ¬ ((1 ≤ eN t0 ∧ eN t0 ≤ 999) ∧ 1 ≤ bN t0 ∧ bN t0 ≤ 16)) (w : World) :
  Calls Tryz.prog 55 #[.string t0] w fun e w' => e = .returned (.tuple #[.pointer none, .bool false]) ∧ Fr [] w w' := by
 have hle := eT_le t0
 have hlb := bT_le t0
 have HN : Hid (∀ W, Calls Tryz.prog 84 #[.string t0] W fun e w' => e = .returned (.pointer (some ⟨W.heap.size, 0, none⟩)) ∧ Rdr w' W.heap.size t0 false ∧ Fr [] W w') := fun W => newReader_any _ W
 have H1 : Hid (∀ W rb, Rdr W rb t0 false → Calls Tryz.prog 85 #[.pointer (some ⟨rb, 0, none⟩)] W fun e w' => e = .returned (.int .i64 (valN (rdT t0 1).data.toList : Nat)) ∧ Rdr w' rb (eT1 t0) (rdS t0 false 1) ∧ Fr [rb] W w') := fun W rb h => rbyte_any rb t0 _ W h (by omega)
 have H2 : Hid (∀ W rb, Rdr W rb (eT1 t0) (rdS t0 false 1) → Calls Tryz.prog 85 #[.pointer (some ⟨rb, 0, none⟩)] W fun e w' => e = .returned (.int .i64 (eK t0 : Nat)) ∧ Rdr w' rb (eT2 t0) (rdS (eT1 t0) (rdS t0 false 1) 1) ∧ Fr [rb] W w') := fun W rb h => rbyte_any rb (eT1 t0) _ W h (by omega)
 have H3 : Hid (∀ W rb, Rdr W rb (eT2 t0) (rdS (eT1 t0) (rdS t0 false 1) 1) → Calls Tryz.prog 86 #[.pointer (some ⟨rb, 0, none⟩)] W fun e w' => e = .returned (.int .i64 (eN t0 : Nat)) ∧ Rdr w' rb (bT3 t0) (rdS (eT2 t0) (rdS (eT1 t0) (rdS t0 false 1) 1) 4) ∧ Fr [rb] W w') := fun W rb h => rnumber_any rb (eT2 t0) _ W h (by omega)
 have H4 : Hid (∀ W rb, Rdr W rb (bT3 t0) (rdS (eT2 t0) (rdS (eT1 t0) (rdS t0 false 1) 1) 4) → Calls Tryz.prog 85 #[.pointer (some ⟨rb, 0, none⟩)] W fun e w' => e = .returned (.int .i64 (bN t0 : Nat)) ∧ Rdr w' rb (bT4 t0) (bS t0) ∧ Fr [rb] W w') := fun W rb h => rbyte_any rb (bT3 t0) _ W h (by omega)
 have HE : Hid (∀ W rb, Rdr W rb (bT4 t0) (bS t0) → Calls Tryz.prog 87 #[.pointer (some ⟨rb, 0, none⟩)] W fun e w' => e = .returned (.bool (decide ((bT4 t0).size = 0) && !bS t0)) ∧ w' = W) := fun W rb h => by
  have h8 := ended_any rb _ _ W h
  exact h8
 have HNw : Hid (∀ W, Calls Tryz.prog 12 #[.int .i64 (eN t0 : Nat), .int .i64 (bN t0 : Nat)] W fun e w' => e = .returned (.tuple #[.pointer none, .int .i64 1]) ∧ w' = W) := fun W => new_bad _ _ W (by simp; omega)
 obtain ⟨k0, hk0⟩ : ∃ k0, valN (rdT t0 1).data.toList = k0 := ⟨_, rfl⟩
 rw [hk0] at H1
 obtain ⟨d, hd⟩ : ∃ d, eN t0 = d := ⟨_, rfl⟩
 rw [hd] at H3 HNw
 obtain ⟨n, hn⟩ : ∃ n, bN t0 = n := ⟨_, rfl⟩
 rw [hn] at H4 HNw
 rw [hk] at H2
 obtain ⟨s1, hs1⟩ : ∃ s, rdS t0 false 1 = s := ⟨_, rfl⟩
 rw [hs1] at H1 H2 H3 H4
 obtain ⟨s2, hs2⟩ : ∃ s, rdS (eT1 t0) s1 1 = s := ⟨_, rfl⟩
 rw [hs2] at H2 H3 H4
 obtain ⟨s3, hs3⟩ : ∃ s, rdS (eT2 t0) s2 4 = s := ⟨_, rfl⟩
 rw [hs3] at H3 H4
 obtain ⟨s4, hs4⟩ : ∃ s, bS t0 = s := ⟨_, rfl⟩
 rw [hs4] at H4 HE
 obtain ⟨t1, ht1⟩ : ∃ t, eT1 t0 = t := ⟨_, rfl⟩
 obtain ⟨t2, ht2⟩ : ∃ t, eT2 t0 = t := ⟨_, rfl⟩
 obtain ⟨t3, ht3⟩ : ∃ t, bT3 t0 = t := ⟨_, rfl⟩
 obtain ⟨t4, ht4⟩ : ∃ t, bT4 t0 = t := ⟨_, rfl⟩
 rw [ht1] at H1 H2
 rw [ht2] at H2 H3
 rw [ht3] at H3 H4
 rw [ht4] at H4 HE
 obtain ⟨rb, hrb⟩ : ∃ rb, w.heap.size = rb := ⟨_, rfl⟩
 have HB : Hid (w.heap.size = rb) := hrb
 clear ht1 ht2 ht3 ht4 hs1 hs2 hs3 hs4 hd hn hk0 hle hlb hT hrb
 go_enter Tryz.func55, Tryz.ntmps55
 go_wp2_with (first
  | (go_at_call 84; refine (HN.out _).mono ?_; rintro e w1 ⟨rfl, r1, f1⟩; rw [HB.out] at r1 ⊢; have G1 : Hid (Rdr w1 rb t0 false ∧ Fr [] w w1) := ⟨r1, f1⟩; clear r1 f1)
  | (go_at_call 85; refine (H4.out _ _ G4.out.1).mono ?_; rintro e w5 ⟨rfl, r5, f5⟩; have G5 : Hid (Rdr w5 rb t4 s4 ∧ Fr [] w w5) := ⟨r5, G4.out.2.trans f5 (fun k hk => Or.inr (by simp at hk; subst hk; exact Nat.le_of_eq HB.out))⟩; clear r5 f5)
  | (go_at_call 86; refine (H3.out _ _ G3.out.1).mono ?_; rintro e w4 ⟨rfl, r4, f4⟩; have G4 : Hid (Rdr w4 rb t3 s3 ∧ Fr [] w w4) := ⟨r4, G3.out.2.trans f4 (fun k hk => Or.inr (by simp at hk; subst hk; exact Nat.le_of_eq HB.out))⟩; clear r4 f4)
  | (go_at_call 85; refine (H2.out _ _ G2.out.1).mono ?_; rintro e w3 ⟨rfl, r3, f3⟩; have G3 : Hid (Rdr w3 rb t2 s2 ∧ Fr [] w w3) := ⟨r3, G2.out.2.trans f3 (fun k hk => Or.inr (by simp at hk; subst hk; exact Nat.le_of_eq HB.out))⟩; clear r3 f3)
  | (go_at_call 85; refine (H1.out _ _ G1.out.1).mono ?_; rintro e w2 ⟨rfl, r2, f2⟩; have G2 : Hid (Rdr w2 rb t1 s1 ∧ Fr [] w w2) := ⟨r2, G1.out.2.trans f2 (fun k hk => Or.inr (by simp at hk; subst hk; exact Nat.le_of_eq HB.out))⟩; clear r2 f2)
  | (go_at_call 12; refine (HNw.out _).mono ?_; rintro e w6 ⟨rfl, hw'⟩; have hw' := hw'.symm; subst hw'; have G6 : Hid (Rdr w5 rb t4 s4 ∧ Fr [] w w5) := G5.out)
  | (go_at_call 87; refine (HE.out _ _ G6.out.1).mono ?_; rintro e w' ⟨rfl, hw'⟩; have hw' := hw'.symm; subst hw'))
 go_ret2
 exact ⟨rfl, G6.out.2⟩
set_option maxRecDepth 100000 in
set_option maxHeartbeats 1600000 in
theorem begin_C (t0 : ByteArray) (hT : t0.size ≤ 300) (hk : eK t0 = 78) (hb : (1 ≤ eN t0 ∧ eN t0 ≤ 999) ∧ 1 ≤ bN t0 ∧ bN t0 ≤ 16) (hend : (decide ((bT4 t0).size = 0) && !bS t0) = false) (w : World) :
  Calls Tryz.prog 55 #[.string t0] w fun e w' => e = .returned (.tuple #[.pointer none, .bool false]) ∧ Fr [] w w' := by
 have hle := eT_le t0
 have hlb := bT_le t0
 have HN : Hid (∀ W, Calls Tryz.prog 84 #[.string t0] W fun e w' => e = .returned (.pointer (some ⟨W.heap.size, 0, none⟩)) ∧ Rdr w' W.heap.size t0 false ∧ Fr [] W w') := fun W => newReader_any _ W
 have H1 : Hid (∀ W rb, Rdr W rb t0 false → Calls Tryz.prog 85 #[.pointer (some ⟨rb, 0, none⟩)] W fun e w' => e = .returned (.int .i64 (valN (rdT t0 1).data.toList : Nat)) ∧ Rdr w' rb (eT1 t0) (rdS t0 false 1) ∧ Fr [rb] W w') := fun W rb h => rbyte_any rb t0 _ W h (by omega)
 have H2 : Hid (∀ W rb, Rdr W rb (eT1 t0) (rdS t0 false 1) → Calls Tryz.prog 85 #[.pointer (some ⟨rb, 0, none⟩)] W fun e w' => e = .returned (.int .i64 (eK t0 : Nat)) ∧ Rdr w' rb (eT2 t0) (rdS (eT1 t0) (rdS t0 false 1) 1) ∧ Fr [rb] W w') := fun W rb h => rbyte_any rb (eT1 t0) _ W h (by omega)
 have H3 : Hid (∀ W rb, Rdr W rb (eT2 t0) (rdS (eT1 t0) (rdS t0 false 1) 1) → Calls Tryz.prog 86 #[.pointer (some ⟨rb, 0, none⟩)] W fun e w' => e = .returned (.int .i64 (eN t0 : Nat)) ∧ Rdr w' rb (bT3 t0) (rdS (eT2 t0) (rdS (eT1 t0) (rdS t0 false 1) 1) 4) ∧ Fr [rb] W w') := fun W rb h => rnumber_any rb (eT2 t0) _ W h (by omega)
 have H4 : Hid (∀ W rb, Rdr W rb (bT3 t0) (rdS (eT2 t0) (rdS (eT1 t0) (rdS t0 false 1) 1) 4) → Calls Tryz.prog 85 #[.pointer (some ⟨rb, 0, none⟩)] W fun e w' => e = .returned (.int .i64 (bN t0 : Nat)) ∧ Rdr w' rb (bT4 t0) (bS t0) ∧ Fr [rb] W w') := fun W rb h => rbyte_any rb (bT3 t0) _ W h (by omega)
 have HE : Hid (∀ W rb, Rdr W rb (bT4 t0) (bS t0) → Calls Tryz.prog 87 #[.pointer (some ⟨rb, 0, none⟩)] W fun e w' => e = .returned (.bool false) ∧ w' = W) := fun W rb h => by
  have h8 := ended_any rb _ _ W h
  rw [hend] at h8
  exact h8
 have HNw : Hid (∀ W, Calls Tryz.prog 12 #[.int .i64 (eN t0 : Nat), .int .i64 (bN t0 : Nat)] W fun e w' => ∃ b vb mb lv, e = .returned (.tuple #[.pointer (some ⟨b, 0, none⟩), .int .i64 0]) ∧ Rep W.heap.size w' b 0 (newS (eN t0 : Nat) (bN t0) vb mb lv) ∧ Fr [] W w') := fun W => new_ok _ _ W (by omega) hb.2
 obtain ⟨k0, hk0⟩ : ∃ k0, valN (rdT t0 1).data.toList = k0 := ⟨_, rfl⟩
 rw [hk0] at H1
 obtain ⟨d, hd⟩ : ∃ d, eN t0 = d := ⟨_, rfl⟩
 rw [hd] at H3 HNw
 obtain ⟨n, hn⟩ : ∃ n, bN t0 = n := ⟨_, rfl⟩
 rw [hn] at H4 HNw
 rw [hk] at H2
 obtain ⟨s1, hs1⟩ : ∃ s, rdS t0 false 1 = s := ⟨_, rfl⟩
 rw [hs1] at H1 H2 H3 H4
 obtain ⟨s2, hs2⟩ : ∃ s, rdS (eT1 t0) s1 1 = s := ⟨_, rfl⟩
 rw [hs2] at H2 H3 H4
 obtain ⟨s3, hs3⟩ : ∃ s, rdS (eT2 t0) s2 4 = s := ⟨_, rfl⟩
 rw [hs3] at H3 H4
 obtain ⟨s4, hs4⟩ : ∃ s, bS t0 = s := ⟨_, rfl⟩
 rw [hs4] at H4 HE
 obtain ⟨t1, ht1⟩ : ∃ t, eT1 t0 = t := ⟨_, rfl⟩
 obtain ⟨t2, ht2⟩ : ∃ t, eT2 t0 = t := ⟨_, rfl⟩
 obtain ⟨t3, ht3⟩ : ∃ t, bT3 t0 = t := ⟨_, rfl⟩
 obtain ⟨t4, ht4⟩ : ∃ t, bT4 t0 = t := ⟨_, rfl⟩
 rw [ht1] at H1 H2
 rw [ht2] at H2 H3
 rw [ht3] at H3 H4
 rw [ht4] at H4 HE
 obtain ⟨rb, hrb⟩ : ∃ rb, w.heap.size = rb := ⟨_, rfl⟩
 have HB : Hid (w.heap.size = rb) := hrb
 clear ht1 ht2 ht3 ht4 hs1 hs2 hs3 hs4 hd hn hk0 hle hlb hT hrb
 go_enter Tryz.func55, Tryz.ntmps55
 go_wp2_with (first
  | (go_at_call 84; refine (HN.out _).mono ?_; rintro e w1 ⟨rfl, r1, f1⟩; rw [HB.out] at r1 ⊢; have G1 : Hid (Rdr w1 rb t0 false ∧ Fr [] w w1) := ⟨r1, f1⟩; clear r1 f1)
  | (go_at_call 85; refine (H4.out _ _ G4.out.1).mono ?_; rintro e w5 ⟨rfl, r5, f5⟩; have G5 : Hid (Rdr w5 rb t4 s4 ∧ Fr [] w w5) := ⟨r5, G4.out.2.trans f5 (fun k hk => Or.inr (by simp at hk; subst hk; exact Nat.le_of_eq HB.out))⟩; clear r5 f5)
  | (go_at_call 86; refine (H3.out _ _ G3.out.1).mono ?_; rintro e w4 ⟨rfl, r4, f4⟩; have G4 : Hid (Rdr w4 rb t3 s3 ∧ Fr [] w w4) := ⟨r4, G3.out.2.trans f4 (fun k hk => Or.inr (by simp at hk; subst hk; exact Nat.le_of_eq HB.out))⟩; clear r4 f4)
  | (go_at_call 85; refine (H2.out _ _ G2.out.1).mono ?_; rintro e w3 ⟨rfl, r3, f3⟩; have G3 : Hid (Rdr w3 rb t2 s2 ∧ Fr [] w w3) := ⟨r3, G2.out.2.trans f3 (fun k hk => Or.inr (by simp at hk; subst hk; exact Nat.le_of_eq HB.out))⟩; clear r3 f3)
  | (go_at_call 85; refine (H1.out _ _ G1.out.1).mono ?_; rintro e w2 ⟨rfl, r2, f2⟩; have G2 : Hid (Rdr w2 rb t1 s1 ∧ Fr [] w w2) := ⟨r2, G1.out.2.trans f2 (fun k hk => Or.inr (by simp at hk; subst hk; exact Nat.le_of_eq HB.out))⟩; clear r2 f2)
  | (go_at_call 12; refine (HNw.out _).mono ?_; rintro e w6 ⟨b, vb, mb, lv, rfl, r6, f6⟩; have G6 : Hid (Rdr w6 rb t4 s4 ∧ Fr [] w w6) := ⟨rdr_fr G5.out.1 f6, G5.out.2.tr f6⟩; clear f6; clear r6)
  | (go_at_call 87; refine (HE.out _ _ G6.out.1).mono ?_; rintro e w' ⟨rfl, hw'⟩; have hw' := hw'.symm; subst hw'))
 go_ret2
 exact ⟨rfl, G6.out.2⟩
set_option maxRecDepth 100000 in
set_option maxHeartbeats 1600000 in
theorem begin_D (t0 : ByteArray) (hT : t0.size ≤ 300) (hk : eK t0 = 78) (hb : (1 ≤ eN t0 ∧ eN t0 ≤ 999) ∧ 1 ≤ bN t0 ∧ bN t0 ≤ 16) (hend : (decide ((bT4 t0).size = 0) && !bS t0) = true) (w : World) :
  Calls Tryz.prog 55 #[.string t0] w fun e w' => ∃ b vb mb lv, e = .returned (.tuple #[.pointer (some ⟨b, 0, none⟩), .bool true]) ∧ Rep w.heap.size w' b 0 (newS (eN t0 : Nat) (bN t0) vb mb lv) ∧ Fr [] w w' := by
 have hle := eT_le t0
 have hlb := bT_le t0
 have HN : Hid (∀ W, Calls Tryz.prog 84 #[.string t0] W fun e w' => e = .returned (.pointer (some ⟨W.heap.size, 0, none⟩)) ∧ Rdr w' W.heap.size t0 false ∧ Fr [] W w') := fun W => newReader_any _ W
 have H1 : Hid (∀ W rb, Rdr W rb t0 false → Calls Tryz.prog 85 #[.pointer (some ⟨rb, 0, none⟩)] W fun e w' => e = .returned (.int .i64 (valN (rdT t0 1).data.toList : Nat)) ∧ Rdr w' rb (eT1 t0) (rdS t0 false 1) ∧ Fr [rb] W w') := fun W rb h => rbyte_any rb t0 _ W h (by omega)
 have H2 : Hid (∀ W rb, Rdr W rb (eT1 t0) (rdS t0 false 1) → Calls Tryz.prog 85 #[.pointer (some ⟨rb, 0, none⟩)] W fun e w' => e = .returned (.int .i64 (eK t0 : Nat)) ∧ Rdr w' rb (eT2 t0) (rdS (eT1 t0) (rdS t0 false 1) 1) ∧ Fr [rb] W w') := fun W rb h => rbyte_any rb (eT1 t0) _ W h (by omega)
 have H3 : Hid (∀ W rb, Rdr W rb (eT2 t0) (rdS (eT1 t0) (rdS t0 false 1) 1) → Calls Tryz.prog 86 #[.pointer (some ⟨rb, 0, none⟩)] W fun e w' => e = .returned (.int .i64 (eN t0 : Nat)) ∧ Rdr w' rb (bT3 t0) (rdS (eT2 t0) (rdS (eT1 t0) (rdS t0 false 1) 1) 4) ∧ Fr [rb] W w') := fun W rb h => rnumber_any rb (eT2 t0) _ W h (by omega)
 have H4 : Hid (∀ W rb, Rdr W rb (bT3 t0) (rdS (eT2 t0) (rdS (eT1 t0) (rdS t0 false 1) 1) 4) → Calls Tryz.prog 85 #[.pointer (some ⟨rb, 0, none⟩)] W fun e w' => e = .returned (.int .i64 (bN t0 : Nat)) ∧ Rdr w' rb (bT4 t0) (bS t0) ∧ Fr [rb] W w') := fun W rb h => rbyte_any rb (bT3 t0) _ W h (by omega)
 have HE : Hid (∀ W rb, Rdr W rb (bT4 t0) (bS t0) → Calls Tryz.prog 87 #[.pointer (some ⟨rb, 0, none⟩)] W fun e w' => e = .returned (.bool true) ∧ w' = W) := fun W rb h => by
  have h8 := ended_any rb _ _ W h
  rw [hend] at h8
  exact h8
 have HNw : Hid (∀ W, Calls Tryz.prog 12 #[.int .i64 (eN t0 : Nat), .int .i64 (bN t0 : Nat)] W fun e w' => ∃ b vb mb lv, e = .returned (.tuple #[.pointer (some ⟨b, 0, none⟩), .int .i64 0]) ∧ Rep W.heap.size w' b 0 (newS (eN t0 : Nat) (bN t0) vb mb lv) ∧ Fr [] W w') := fun W => new_ok _ _ W (by omega) hb.2
 obtain ⟨k0, hk0⟩ : ∃ k0, valN (rdT t0 1).data.toList = k0 := ⟨_, rfl⟩
 rw [hk0] at H1
 obtain ⟨d, hd⟩ : ∃ d, eN t0 = d := ⟨_, rfl⟩
 rw [hd] at H3 HNw
 obtain ⟨n, hn⟩ : ∃ n, bN t0 = n := ⟨_, rfl⟩
 rw [hn] at H4 HNw
 rw [hk] at H2
 obtain ⟨s1, hs1⟩ : ∃ s, rdS t0 false 1 = s := ⟨_, rfl⟩
 rw [hs1] at H1 H2 H3 H4
 obtain ⟨s2, hs2⟩ : ∃ s, rdS (eT1 t0) s1 1 = s := ⟨_, rfl⟩
 rw [hs2] at H2 H3 H4
 obtain ⟨s3, hs3⟩ : ∃ s, rdS (eT2 t0) s2 4 = s := ⟨_, rfl⟩
 rw [hs3] at H3 H4
 obtain ⟨s4, hs4⟩ : ∃ s, bS t0 = s := ⟨_, rfl⟩
 rw [hs4] at H4 HE
 obtain ⟨t1, ht1⟩ : ∃ t, eT1 t0 = t := ⟨_, rfl⟩
 obtain ⟨t2, ht2⟩ : ∃ t, eT2 t0 = t := ⟨_, rfl⟩
 obtain ⟨t3, ht3⟩ : ∃ t, bT3 t0 = t := ⟨_, rfl⟩
 obtain ⟨t4, ht4⟩ : ∃ t, bT4 t0 = t := ⟨_, rfl⟩
 rw [ht1] at H1 H2
 rw [ht2] at H2 H3
 rw [ht3] at H3 H4
 rw [ht4] at H4 HE
 obtain ⟨rb, hrb⟩ : ∃ rb, w.heap.size = rb := ⟨_, rfl⟩
 have HB : Hid (w.heap.size = rb) := hrb
 have HD : Hid (eN t0 = d ∧ bN t0 = n) := ⟨hd, hn⟩
 clear ht1 ht2 ht3 ht4 hs1 hs2 hs3 hs4 hd hn hk0 hle hlb hT hrb
 go_enter Tryz.func55, Tryz.ntmps55
 go_wp2_with (first
  | (go_at_call 84; refine (HN.out _).mono ?_; rintro e w1 ⟨rfl, r1, f1⟩; rw [HB.out] at r1 ⊢; have G1 : Hid (Rdr w1 rb t0 false ∧ Fr [] w w1) := ⟨r1, f1⟩; clear r1 f1)
  | (go_at_call 85; refine (H4.out _ _ G4.out.1).mono ?_; rintro e w5 ⟨rfl, r5, f5⟩; have G5 : Hid (Rdr w5 rb t4 s4 ∧ Fr [] w w5) := ⟨r5, G4.out.2.trans f5 (fun k hk => Or.inr (by simp at hk; subst hk; exact Nat.le_of_eq HB.out))⟩; clear r5 f5)
  | (go_at_call 86; refine (H3.out _ _ G3.out.1).mono ?_; rintro e w4 ⟨rfl, r4, f4⟩; have G4 : Hid (Rdr w4 rb t3 s3 ∧ Fr [] w w4) := ⟨r4, G3.out.2.trans f4 (fun k hk => Or.inr (by simp at hk; subst hk; exact Nat.le_of_eq HB.out))⟩; clear r4 f4)
  | (go_at_call 85; refine (H2.out _ _ G2.out.1).mono ?_; rintro e w3 ⟨rfl, r3, f3⟩; have G3 : Hid (Rdr w3 rb t2 s2 ∧ Fr [] w w3) := ⟨r3, G2.out.2.trans f3 (fun k hk => Or.inr (by simp at hk; subst hk; exact Nat.le_of_eq HB.out))⟩; clear r3 f3)
  | (go_at_call 85; refine (H1.out _ _ G1.out.1).mono ?_; rintro e w2 ⟨rfl, r2, f2⟩; have G2 : Hid (Rdr w2 rb t1 s1 ∧ Fr [] w w2) := ⟨r2, G1.out.2.trans f2 (fun k hk => Or.inr (by simp at hk; subst hk; exact Nat.le_of_eq HB.out))⟩; clear r2 f2)
  | (go_at_call 12; refine (HNw.out _).mono ?_; rintro e w6 ⟨b, vb, mb, lv, rfl, r6, f6⟩; have G6 : Hid (Rdr w6 rb t4 s4 ∧ Fr [] w w6 ∧ Rep w5.heap.size w6 b 0 (newS (d : Nat) n vb mb lv)) := ⟨rdr_fr G5.out.1 f6, G5.out.2.tr f6, r6⟩; clear r6 f6)
  | (go_at_call 87; refine (HE.out _ _ G6.out.1).mono ?_; rintro e w' ⟨rfl, hw'⟩; have hw' := hw'.symm; subst hw'))
 go_ret2
 rw [HD.out.1, HD.out.2]
 exact ⟨b, vb, mb, lv, rfl, G6.out.2.2.baseL G5.out.2.size, G6.out.2.1⟩
theorem begin_any (t0 : ByteArray) (hT : t0.size ≤ 300) (w : World) :
  Calls Tryz.prog 55 #[.string t0] w fun e w' => Fr [] w w' ∧ (e = .returned (.tuple #[.pointer none, .bool false]) ∨ ∃ b d n vb mb lv, e = .returned (.tuple #[.pointer (some ⟨b, 0, none⟩), .bool true]) ∧ t0.size = 7 ∧ (1 ≤ d ∧ d ≤ 999) ∧ (1 ≤ n ∧ n ≤ 16) ∧ Rep w.heap.size w' b 0 (newS d n vb mb lv)) := by
 by_cases hk : eK t0 = 78
 · by_cases hb : (1 ≤ eN t0 ∧ eN t0 ≤ 999) ∧ 1 ≤ bN t0 ∧ bN t0 ≤ 16
   · cases he : (decide ((bT4 t0).size = 0) && !bS t0)
     · exact (begin_C t0 hT hk hb he w).mono fun e w' hp => ⟨hp.2, Or.inl hp.1⟩
     · refine (begin_D t0 hT hk hb he w).mono ?_
       rintro e w' ⟨b, vb, mb, lv, rfl, rp, f⟩
       rw [Bool.and_eq_true] at he
       exact ⟨f, Or.inr ⟨b, _, _, vb, mb, lv, rfl, b_ended t0 ⟨by have := of_decide_eq_true he.1; omega, by have := he.2; simpa using this⟩, by omega, hb.2, rp⟩⟩
   · exact (begin_B t0 hT hk hb w).mono fun e w' hp => ⟨hp.2, Or.inl hp.1⟩
 · exact (begin_A t0 hT hk w).mono fun e w' hp => ⟨hp.2, Or.inl hp.1⟩
theorem first_whole (a : UInt8) (tl r : List UInt8) (k : Nat) (ha : a.toNat = tl.length) (hk : tl.length + 1 ≤ k) (hb : k ≤ 1000000000) (w : World) :
  Calls Tryz.prog 56 #[.string (ofL ((a :: tl ++ r).take k))] w fun e w' => e = .returned (.string (ofL (a :: tl))) ∧ w' = w := by
 obtain ⟨k', rfl⟩ : ∃ k', k = k' + 1 := ⟨k - 1, by omega⟩
 have hsz : (ofL ((a :: tl ++ r).take (k' + 1))).size = ((a :: tl ++ r).take (k' + 1)).length := ofL_size _
 have hl : ((a :: tl ++ r).take (k' + 1)).length = min (k' + 1) (tl.length + r.length + 1) := by simp <;> omega
 have h0 : 0 < (ofL ((a :: tl ++ r).take (k' + 1))).size := by rw [hsz, hl]; omega
 have := first_some (ofL ((a :: tl ++ r).take (k' + 1))) tl.length w h0 (by
  rw [← ha]
  rfl) (by rw [hsz, hl]; omega) (by rw [hsz, hl]; omega)
 have e : (ofL ((a :: tl ++ r).take (k' + 1))).extract 0 (1 + tl.length) = ofL (a :: tl) := by
  refine ofL_ext ?_
  rw [ext_list, ofL_list, ofL_list, List.drop_zero, Nat.sub_zero, List.take_take, Nat.min_eq_left (by omega), show 1 + tl.length = (a :: tl).length by simp; omega, List.take_left]
 rw [e] at this
 exact this
theorem first_cut (a : UInt8) (tl r : List UInt8) (k : Nat) (ha : a.toNat = tl.length) (hk : k < tl.length + 1) (w : World) :
  Calls Tryz.prog 56 #[.string (ofL ((a :: tl ++ r).take k))] w fun e w' => e = .returned (.string ⟨#[]⟩) ∧ w' = w := by
 refine first_none _ w ?_
 cases k with
 | zero => exact Or.inl (by rw [ofL_size]; simp)
 | succ k' =>
  right
  have hsz : (ofL ((a :: tl ++ r).take (k' + 1))).size = ((a :: tl ++ r).take (k' + 1)).length := ofL_size _
  have hl : ((a :: tl ++ r).take (k' + 1)).length = min (k' + 1) (tl.length + r.length + 1) := by simp <;> omega
  have h0 : 0 < (ofL ((a :: tl ++ r).take (k' + 1))).size := by rw [hsz, hl]; omega
  refine ⟨h0, ?_⟩
  have e : (ofL ((a :: tl ++ r).take (k' + 1)))[0] = a := rfl
  rw [e, ha, hsz, hl]
  omega
structure Chn (d : Int) (n : Nat) (C : List (List UInt8 × RSto)) : Prop where
 hd : 1 ≤ d ∧ d ≤ 999
 hn : 1 ≤ n ∧ n ≤ 16
 first : ∃ r, C[0]? = some (entN d n, r) ∧ RQ (RSto.fresh d n 16) r
 next : ∀ (j : Nat) (x y : List UInt8 × RSto), C[j]? = some x → C[j + 1]? = some y → ∃ e, y.1 = x.1 ++ e ∧ Redo e x.2 y.2
theorem Chn.pre {d : Int} {n : Nat} {C : List (List UInt8 × RSto)} (h : Chn d n C) (i : Nat) : ∀ (k : Nat) (x y : List UInt8 × RSto), C[i]? = some x → C[i + k]? = some y → ∃ t, y.1 = x.1 ++ t
 | 0, x, y, hx, hy => by
  rw [Nat.add_zero, hx] at hy
  cases hy
  exact ⟨[], by simp⟩
 | k + 1, x, y, hx, hy => by
  have hl : i + k < C.length := by have := (List.getElem?_eq_some_iff.1 hy).1; omega
  obtain ⟨z, hz⟩ : ∃ z, C[i + k]? = some z := ⟨_, List.getElem?_eq_getElem hl⟩
  obtain ⟨t, ht⟩ := h.pre i k x z hx hz
  obtain ⟨e, he, _⟩ := h.next (i + k) z y hz hy
  exact ⟨t ++ e, by rw [he, ht, List.append_assoc]⟩
theorem entN_len (d : Int) (n : Nat) : (entN d n).length = 7 := rfl
theorem newS_log (d : Int) (n vb mb : Nat) (lv : Value) : (newS d n vb mb lv).log = entN d n := by simp [newS, Sto.noted, Sto.fresh, entN]
set_option maxRecDepth 100000 in
set_option maxHeartbeats 3200000 in
theorem open_chain (d : Int) (n : Nat) (C : List (List UInt8 × RSto)) (hC : Chn d n C) (hCl : C.length ≤ 2000000) (z : List UInt8 × RSto) (hz : C[C.length - 1]? = some z) (c j : Nat) (hc : c ≤ 1000000000) (x : List UInt8 × RSto) (hx : C[j]? = some x) (hxc : x.1.length ≤ c) (hny : ∀ y, C[j + 1]? = some y → c < y.1.length) (w : World) :
  Calls Tryz.prog 20 #[.string (ofL (z.1.take c))] w fun e w' => ∃ b s, e = .returned (.tuple #[.pointer (some ⟨b, 0, none⟩), .int .i64 0]) ∧ Rep w.heap.size w' b 0 s ∧ Sim s x.2 j ∧ s.log = x.1 ∧ Fr [] w w' := by
 have hjl : j < C.length := (List.getElem?_eq_some_iff.1 hx).1
 have HR : Hid (∀ i u, i ≤ j → C[i]? = some u → u.1.length ≤ c ∧ u.1.length ≤ (ofL (z.1.take c)).size ∧ ∃ t, z.1 = u.1 ++ t ∧ (ofL (z.1.take c)).extract u.1.length (ofL (z.1.take c)).size = ofL (t.take (c - u.1.length))) := fun i u hi hu => by
  obtain ⟨t1, ht1⟩ := hC.pre i (j - i) u x hu (by rw [show i + (j - i) = j by omega]; exact hx)
  obtain ⟨t, ht⟩ := hC.pre i (C.length - 1 - i) u z hu (by rw [show i + (C.length - 1 - i) = C.length - 1 by omega]; exact hz)
  have h1 : u.1.length ≤ c := by
   have := congrArg List.length ht1
   rw [List.length_append] at this
   omega
  have h2 := congrArg List.length ht
  rw [List.length_append] at h2
  refine ⟨h1, by rw [ofL_size, List.length_take]; omega, t, ht, ofL_ext ?_⟩
  rw [ext_list, ofL_list, ofL_list, ofL_size]
  have e : (z.1.take c).drop u.1.length = t.take (c - u.1.length) := by
   rw [List.drop_take, ht, List.drop_left]
  rw [e]
  refine List.take_of_length_le ?_
  rw [← e, List.length_drop]
  exact Nat.le_refl _
 obtain ⟨r0, hr0, hq0⟩ := hC.first
 have HF : Hid (∀ W, Calls Tryz.prog 56 #[.string (ofL (z.1.take c))] W fun e w' => e = .returned (.string (ofL (entN d n))) ∧ w' = W) := fun W => by
  obtain ⟨h1, h2, t, ht, _⟩ := HR.out 0 _ (Nat.zero_le _) hr0
  have e : entN d n = 6 :: (entN d n).tail := rfl
  have h1' : 7 ≤ c := h1
  have := first_whole 6 (entN d n).tail t c rfl (by show 7 ≤ c; omega) (by omega) W
  rw [← e, ← ht] at this
  exact this
 have HBg : Hid (∀ W, Calls Tryz.prog 55 #[.string (ofL (entN d n))] W fun e w' => ∃ b vb mb lv, e = .returned (.tuple #[.pointer (some ⟨b, 0, none⟩), .bool true]) ∧ Rep W.heap.size w' b 0 (newS d n vb mb lv) ∧ Fr [] W w') := fun W => begin_ok d n hC.hd hC.hn W
 obtain ⟨eN', heN⟩ : ∃ eN, ofL (entN d n) = eN := ⟨_, rfl⟩
 rw [heN] at HF HBg
 have hsz : (ofL (z.1.take c)).size ≤ c := by rw [ofL_size, List.length_take]; omega
 obtain ⟨T, hT⟩ : ∃ T, ofL (z.1.take c) = T := ⟨_, rfl⟩
 rw [hT] at HF HR hsz ⊢
 have HA : Hid (Chn d n C ∧ C.length ≤ 2000000 ∧ C[C.length - 1]? = some z ∧ C[j]? = some x ∧ (∀ y, C[j + 1]? = some y → c < y.1.length) ∧ ∃ r, C[0]? = some (entN d n, r) ∧ RQ (RSto.fresh d n 16) r) := ⟨hC, hCl, hz, hx, hny, r0, hr0, hq0⟩
 clear heN hT hC hz hx hxc hny hr0 hq0 hCl
 go_enter Tryz.func20, Tryz.ntmps20
 go_wp2_with (first
  | (go_at_call 56; refine (HF.out _).mono ?_; rintro e w' ⟨rfl, hw'⟩; have hw' := hw'.symm; subst hw')
  | (go_at_call 55; refine (HBg.out _).mono ?_; rintro e w1 ⟨b, vb, mb, lv, rfl, r1, f1⟩
     have H1 : Hid (Rep w.heap.size w1 b 0 (newS d n vb mb lv) ∧ Fr [] w w1) := ⟨r1, f1⟩
     clear r1 f1))
 go_loopg [6, 7] j (fun g _ _ wr => ∃ (i : Nat) (u : List UInt8 × RSto) (s : Sto), i ≤ j ∧ g = j - i ∧ Hid (C[i]? = some u ∧ Rep w.heap.size wr b 0 s ∧ Sim s u.2 i ∧ s.log = u.1 ∧ Fr [] w wr))
 case atStart =>
  obtain ⟨r, h1, h2⟩ := HA.out.2.2.2.2.2
  exact ⟨0, _, _, Nat.zero_le _, rfl, h1, H1.out.1, (Sim.start d n vb mb lv HA.out.1.hd HA.out.1.hn).rq h2, newS_log _ _ _ _ _, H1.out.2⟩
 case round =>
  obtain ⟨i, u, s, hi, rfl, HK⟩ := hrel
  obtain ⟨W3, hW3⟩ : ∃ W3, W3 = wr := ⟨_, rfl⟩
  subst hW3
  clear H1 HF HBg
  obtain ⟨la, lc, hlv⟩ := own_shape HK.out.2.1.lg
  have hlog : s.log.length = u.1.length := by rw [HK.out.2.2.2.1]
  have hR := HR.out i u hi HK.out.1
  obtain ⟨N, hN⟩ : ∃ N, u.1.length = N := ⟨_, rfl⟩
  rw [hN] at hlog hR
  rw [hlog] at hlv
  have c9 : W3.cell? ⟨b, 9, none⟩ = some (.slice la N lc) := by rw [← hlv]; exact HK.out.2.1.cells.2.2.2.2.2.2.2.2
  have hN0 : (0 : Int) ≤ (N : Int) := by omega
  have hN1 : (N : Int) ≤ (T.size : Int) := by have := hR.2.1; omega
  obtain ⟨hNc, _, t, ht, hext⟩ := hR
  by_cases hjm : i < j
  · obtain ⟨y, hy⟩ : ∃ y, C[i + 1]? = some y := ⟨_, List.getElem?_eq_getElem (by omega)⟩
    obtain ⟨ee, hye, hrd⟩ := HA.out.1.next i u y HK.out.1 hy
    obtain ⟨a, tl, hent, ha, htl⟩ := hrd.ok
    have hyR := HR.out (i + 1) y (by omega) hy
    obtain ⟨t2, ht2, _⟩ := hyR.2.2
    have ht3 : t = a :: tl ++ t2 := by
     rw [ht2, hye, List.append_assoc] at ht
     have := List.append_cancel_left ht
     rw [hent] at this
     exact this.symm
    have hlen1 : y.1.length = N + (tl.length + 1) := by rw [hye, List.length_append, hent, hN]; rfl
    have HF1 : Hid (Calls Tryz.prog 56 #[.string (T.extract N T.size)] W3 fun e w' => e = .returned (.string (ofL ee)) ∧ w' = W3) := by
     rw [hext, ht3, hent]
     exact first_whole a tl t2 (c - N) ha (by have := hyR.1; omega) (by omega) W3
    have HRd : Hid (Calls Tryz.prog 57 #[.pointer (some ⟨b, 0, none⟩), .string (ofL ee)] W3 fun e w' => e = .returned (.tuple #[]) ∧ ∃ s', Rep w.heap.size w' b 0 s' ∧ Sim s' y.2 (i + 1) ∧ s'.log = y.1 ∧ Fr (foot b s) W3 w') := by
     refine (hrd.redo w.heap.size b s i W3 HK.out.2.1 HK.out.2.2.1 (by have := HA.out.2.1; omega)).mono ?_
     rintro e w' ⟨he, s', h1, h2, h3, h4⟩
     exact ⟨he, s', h1, h2, by rw [h3, HK.out.2.2.2.1, hye], h4⟩
    have hEs : (ofL ee).size = tl.length + 1 := by rw [ofL_size, hent]; rfl
    have hEe : (ofL ee).toList.isEmpty = false := by rw [ByteArray.toList_eq, ofL_list, hent]; rfl
    obtain ⟨E, hE⟩ : ∃ E, ofL ee = E := ⟨_, rfl⟩
    obtain ⟨ne, hne⟩ : ∃ ne, tl.length + 1 = ne := ⟨_, rfl⟩
    obtain ⟨N2, hN2⟩ : ∃ N2, N + ne = N2 := ⟨_, rfl⟩
    obtain ⟨R, hRR⟩ : ∃ R, T.extract N T.size = R := ⟨_, rfl⟩
    rw [hE] at HF1 HRd hEs hEe
    rw [hRR] at HF1
    rw [hne] at hEs hlen1
    rw [hN2] at hlen1
    have hN2c : N2 ≤ 1000000000 := by have := hyR.1; omega
    have hw : IntKind.i64.wrap ((N : Int) + (ne : Int)) = (N2 : Int) := by rw [show (N : Int) + (ne : Int) = (N2 : Int) by omega]; exact wrap_fit ⟨by omega, by omega⟩
    have HL1 : Hid (y.1.length = N2 ∧ C[i + 1]? = some y) := ⟨hlen1, hy⟩
    clear hE hne hext ht3 hent ha htl hlen1 hlog hlv hN hyR ht ht2 hye hrd hy hNc
    go_wp2_with (first
     | (go_at_call 56; refine HF1.out.mono ?_; rintro e w' ⟨rfl, hw'⟩; have hw' := hw'.symm; subst hw')
     | (go_at_call 57; refine HRd.out.mono ?_; rintro e w4 ⟨rfl, s', r4, e4, l4, f4⟩
        have H4 : Hid (C[i + 1]? = some y ∧ Rep w.heap.size w4 b 0 s' ∧ Sim s' y.2 (i + 1) ∧ s'.log = y.1 ∧ Fr [] w w4) := ⟨HL1.out.2, r4, e4, l4, HK.out.2.2.2.2.trans f4 (fun k hk => Or.inr (HK.out.2.1.lt k hk).1)⟩
        obtain ⟨la2, lc2, hlv2⟩ := own_shape r4.lg
        have hlog2 : s'.log.length = N2 := (by rw [l4, HL1.out.1])
        rw [hlog2] at hlv2
        have c92 : w4.cell? ⟨b, 9, none⟩ = some (.slice la2 N2 lc2) := (by rw [← hlv2]; exact r4.cells.2.2.2.2.2.2.2.2)
        clear r4 e4 f4 l4 hlv2 hlog2))
    go_roundg (j - (i + 1))
    case measure => omega
    case rel => exact ⟨i + 1, y, s', by omega, rfl, H4⟩
  · have hjj : i = j := by omega
    subst hjj
    have hux : u = x := by have h1 := HK.out.1; rw [HA.out.2.2.2.1] at h1; exact (Option.some.inj h1).symm
    have HF1 : Hid (Calls Tryz.prog 56 #[.string (T.extract N T.size)] W3 fun e w' => e = .returned (.string ⟨#[]⟩) ∧ w' = W3) := by
     rw [hext]
     by_cases hjL : i + 1 < C.length
     · obtain ⟨y, hy⟩ : ∃ y, C[i + 1]? = some y := ⟨_, List.getElem?_eq_getElem hjL⟩
       obtain ⟨ee, hye, hrd⟩ := HA.out.1.next i u y HK.out.1 hy
       obtain ⟨a, tl, hent, ha, htl⟩ := hrd.ok
       obtain ⟨t2, ht2⟩ := HA.out.1.pre (i + 1) (C.length - 1 - (i + 1)) y z hy (by rw [show i + 1 + (C.length - 1 - (i + 1)) = C.length - 1 by omega]; exact HA.out.2.2.1)
       have ht3 : t = a :: tl ++ t2 := by
        rw [ht2, hye, List.append_assoc] at ht
        have := List.append_cancel_left ht
        rw [hent] at this
        exact this.symm
       have hlen1 : y.1.length = N + (tl.length + 1) := by rw [hye, List.length_append, hent, hN]; rfl
       have hcl := HA.out.2.2.2.2.1 y hy
       rw [ht3]
       exact first_cut a tl t2 (c - N) ha (by omega) W3
     · have hzu : z = u := by
         have h1 := HA.out.2.2.1
         rw [show C.length - 1 = i by omega, HK.out.1] at h1
         exact (Option.some.inj h1).symm
       have ht0 : t = [] := by
        have := congrArg List.length ht
        rw [hzu, List.length_append] at this
        exact List.length_eq_zero_iff.1 (by omega)
       rw [ht0]
       exact first_none _ W3 (Or.inl (by rw [ofL_size]; simp))
    obtain ⟨R, hRR⟩ : ∃ R, T.extract N T.size = R := ⟨_, rfl⟩
    rw [hRR] at HF1
    subst hux
    clear hlog hlv hN hext ht hNc
    go_wp2_with (first
     | (go_at_call 56; refine HF1.out.mono ?_; rintro e w' ⟨rfl, hw'⟩; have hw' := hw'.symm; subst hw'))
    go_ret2
    exact ⟨b, s, rfl, HK.out.2.1, HK.out.2.2.1, HK.out.2.2.2.1, HK.out.2.2.2.2⟩
set_option maxRecDepth 100000 in
set_option maxHeartbeats 800000 in
theorem open_short (d : Int) (n : Nat) (t : List UInt8) (c : Nat) (w : World) (hc : c < 7) :
  Calls Tryz.prog 20 #[.string (ofL ((entN d n ++ t).take c))] w fun e w' => e = .returned (.tuple #[.pointer none, .int .i64 2]) ∧ Fr [] w w' := by
 have HF : Hid (∀ W, Calls Tryz.prog 56 #[.string (ofL ((entN d n ++ t).take c))] W fun e w' => e = .returned (.string ⟨#[]⟩) ∧ w' = W) := fun W => by
  have e : entN d n = 6 :: (entN d n).tail := rfl
  have := first_cut 6 (entN d n).tail t c rfl (by show c < 7; omega) W
  rw [← e] at this
  exact this
 have HBg : Hid (∀ W, Calls Tryz.prog 55 #[.string ⟨#[]⟩] W fun e w' => e = .returned (.tuple #[.pointer none, .bool false]) ∧ Fr [] W w') := fun W => begin_bad W
 obtain ⟨T, hT⟩ : ∃ T, ofL ((entN d n ++ t).take c) = T := ⟨_, rfl⟩
 rw [hT] at HF ⊢
 clear hT
 go_enter Tryz.func20, Tryz.ntmps20
 go_wp2_with (first
  | (go_at_call 56; refine (HF.out _).mono ?_; rintro e w' ⟨rfl, hw'⟩; have hw' := hw'.symm; subst hw')
  | (go_at_call 55; refine (HBg.out _).mono ?_; rintro e w1 ⟨rfl, f1⟩; have H1 : Hid (Fr [] w w1) := f1; clear f1))
 go_ret2
 exact ⟨rfl, H1.out⟩
theorem first_any (t : ByteArray) (ht : t.size ≤ 1000000000) : ∃ u : ByteArray, (∀ w, Calls Tryz.prog 56 #[.string t] w fun e w' => e = .returned (.string u) ∧ w' = w) ∧ (u = ⟨#[]⟩ ∨ (1 ≤ u.size ∧ u.size ≤ 256 ∧ u.size ≤ t.size)) := by
 by_cases h0 : 0 < t.size
 · by_cases h1 : t.size ≤ t[0].toNat
   · exact ⟨⟨#[]⟩, fun w => first_none t w (Or.inr ⟨h0, h1⟩), Or.inl rfl⟩
   · have hx : t[0].toNat < 256 := UInt8.toNat_lt _
     refine ⟨t.extract 0 (1 + t[0].toNat), fun w => first_some t _ w h0 rfl (by omega) (by omega), Or.inr ?_⟩
     rw [ByteArray.size_extract]
     omega
 · exact ⟨⟨#[]⟩, fun w => first_none t w (Or.inl (by omega)), Or.inl rfl⟩
set_option maxRecDepth 100000 in
set_option maxHeartbeats 3200000 in
theorem open_bytes (T : ByteArray) (hT : T.size ≤ 2000000) (w : World) :
  Calls Tryz.prog 20 #[.string T] w fun e w' => Fr [] w w' ∧ (e = .returned (.tuple #[.pointer none, .int .i64 2]) ∨ ∃ b, e = .returned (.tuple #[.pointer (some ⟨b, 0, none⟩), .int .i64 0])) := by
 obtain ⟨E0, hF, hE0⟩ := first_any T (by omega)
 have HF : Hid (∀ W, Calls Tryz.prog 56 #[.string T] W fun e w' => e = .returned (.string E0) ∧ w' = W) := hF
 have hE3 : E0.size ≤ 300 ∧ E0.size ≤ T.size := by
  rcases hE0 with rfl | h
  · exact ⟨by decide, Nat.zero_le _⟩
  · omega
 have HBg : Hid (∀ W, Calls Tryz.prog 55 #[.string E0] W fun e w' => Fr [] W w' ∧ (e = .returned (.tuple #[.pointer none, .bool false]) ∨ ∃ b d n vb mb lv, e = .returned (.tuple #[.pointer (some ⟨b, 0, none⟩), .bool true]) ∧ E0.size = 7 ∧ (1 ≤ d ∧ d ≤ 999) ∧ (1 ≤ n ∧ n ≤ 16) ∧ Rep W.heap.size w' b 0 (newS d n vb mb lv))) := fun W => begin_any E0 hE3.1 W
 have HE : Hid (E0.size ≤ T.size) := hE3.2
 clear hF hE0 hE3
 go_enter Tryz.func20, Tryz.ntmps20
 go_wp2_with (first
  | (go_at_call 56; refine (HF.out _).mono ?_; rintro e w' ⟨rfl, hw'⟩; have hw' := hw'.symm; subst hw')
  | (go_at_call 55; refine (HBg.out _).mono ?_; rintro e w1 ⟨f1, rfl | ⟨b, d, n, vb, mb, lv, rfl, h7, hd, hn, r1⟩⟩
     all_goals (first
      | (have H1 : Hid (Fr [] w w1 ∧ 7 ≤ T.size ∧ (1 ≤ d ∧ d ≤ 999) ∧ (1 ≤ n ∧ n ≤ 16) ∧ Rep w.heap.size w1 b 0 (newS d n vb mb lv)) := ⟨f1, by rw [← h7]; exact HE.out, hd, hn, r1⟩
         clear f1 h7 hd hn r1)
      | (have H1 : Hid (Fr [] w w1) := f1
         clear f1))))
 · go_ret2
   exact ⟨H1.out, Or.inl rfl⟩
 · go_loopg [6, 7] (T.size - 7) (fun g _ _ wr => ∃ (s : Sto) (r : RSto) (q : Nat), s.log.length ≤ T.size ∧ g = T.size - s.log.length ∧ Hid (Rep w.heap.size wr b 0 s ∧ RWf r ∧ Sim s r q ∧ q ≤ s.log.length ∧ Fr [] w wr))
   case atStart =>
    obtain ⟨f1, h7, hd, hn, r1⟩ := H1.out
    have hl : (newS d n vb mb lv).log.length = 7 := by rw [newS_log]; rfl
    refine ⟨_, RSto.fresh d n 16, 0, by rw [hl]; exact h7, ?_, r1, ?_, Sim.start d n vb mb lv hd hn, Nat.zero_le _, f1⟩
    · first | rfl | (rw [hl]; omega)
    · exact ⟨by simp [RSto.fresh, newDat], by simp [RSto.fresh], fun x hx => by simp [RSto.fresh] at hx⟩
   case round =>
    obtain ⟨s, r, q, hle, rfl, HK⟩ := hrel
    obtain ⟨W3, hW3⟩ : ∃ W3, W3 = wr := ⟨_, rfl⟩
    subst hW3
    clear H1 HF HBg
    obtain ⟨la, lc, hlv⟩ := own_shape HK.out.1.lg
    obtain ⟨N, hN⟩ : ∃ N, s.log.length = N := ⟨_, rfl⟩
    rw [hN] at hle hlv
    have c9 : W3.cell? ⟨b, 9, none⟩ = some (.slice la N lc) := by rw [← hlv]; exact HK.out.1.cells.2.2.2.2.2.2.2.2
    have hN0 : (0 : Int) ≤ (N : Int) := by omega
    have hN1 : (N : Int) ≤ (T.size : Int) := by omega
    obtain ⟨R, hRR⟩ : ∃ R, T.extract N T.size = R := ⟨_, rfl⟩
    have hRs : R.size = T.size - N := by rw [← hRR, ByteArray.size_extract]; omega
    obtain ⟨E, hF, hE⟩ := first_any R (by omega)
    have HF1 : Hid (Calls Tryz.prog 56 #[.string R] W3 fun e w' => e = .returned (.string E) ∧ w' = W3) := hF W3
    rcases hE with rfl | hE
    · clear hlv hN hF hRs
      go_wp2_with (first
       | (go_at_call 56; refine HF1.out.mono ?_; rintro e w' ⟨rfl, hw'⟩; have hw' := hw'.symm; subst hw'))
      go_ret2
      exact ⟨HK.out.2.2.2.2, Or.inr ⟨b, rfl⟩⟩
    · obtain ⟨r', ee, hrd, hwf⟩ := redo_ex HK.out.2.1 HK.out.2.2.1 E (by omega)
      have hq : q ≤ N := by rw [← hN]; exact HK.out.2.2.2.1
      have HRd : Hid (Calls Tryz.prog 57 #[.pointer (some ⟨b, 0, none⟩), .string E] W3 fun e w' => e = .returned (.tuple #[]) ∧ ∃ s', Rep w.heap.size w' b 0 s' ∧ RWf r' ∧ Sim s' r' (q + 1) ∧ Fr (foot b s) W3 w') := by
       refine (hrd w.heap.size b s q W3 HK.out.1 HK.out.2.2.1 (by omega)).mono ?_
       rintro e w' ⟨he, s', h1, h2, h3, h4⟩
       exact ⟨he, s', h1, hwf, h2, h4⟩
      have hEe : E.toList.isEmpty = false := by
       rw [ByteArray.toList_eq, List.isEmpty_eq_false_iff]
       intro e
       have e2 : E.data.toList.length = E.size := Array.length_toList
       rw [e] at e2
       simp at e2
       omega
      obtain ⟨ne, hne⟩ : ∃ ne, E.size = ne := ⟨_, rfl⟩
      rw [hne] at hE
      obtain ⟨N2, hN2⟩ : ∃ N2, N + ne = N2 := ⟨_, rfl⟩
      have hw : IntKind.i64.wrap ((N : Int) + (ne : Int)) = (N2 : Int) := by rw [show (N : Int) + (ne : Int) = (N2 : Int) by omega]; exact wrap_fit ⟨by omega, by omega⟩
      have hN2T : N2 ≤ T.size ∧ N < N2 := by omega
      have HL1 : Hid (s.log.length = N ∧ q ≤ N) := ⟨hN, hq⟩
      clear hlv hN hF hRs hrd hwf hq
      go_wp2_with (first
       | (go_at_call 56; refine HF1.out.mono ?_; rintro e w' ⟨rfl, hw'⟩; have hw' := hw'.symm; subst hw')
       | (go_at_call 57; refine HRd.out.mono ?_; rintro e w4 ⟨rfl, s', r4, wf4, e4, f4⟩
          have H4 : Hid (Rep w.heap.size w4 b 0 s' ∧ RWf r' ∧ Sim s' r' (q + 1) ∧ Fr [] w w4) := ⟨r4, wf4, e4, HK.out.2.2.2.2.trans f4 (fun k hk => Or.inr (HK.out.1.lt k hk).1)⟩
          obtain ⟨la2, lc2, hlv2⟩ := own_shape r4.lg
          obtain ⟨N3, hN3⟩ : ∃ N3, s'.log.length = N3 := ⟨_, rfl⟩
          rw [hN3] at hlv2
          have c92 : w4.cell? ⟨b, 9, none⟩ = some (.slice la2 N3 lc2) := (by rw [← hlv2]; exact r4.cells.2.2.2.2.2.2.2.2)
          have HL3 : Hid (s'.log.length = N3) := hN3
          clear r4 e4 f4 wf4 hlv2 hN3
          by_cases h32 : (N3 : Int) = (N2 : Int)))
      · go_roundg (T.size - s'.log.length)
        case measure => have h1 := HL3.out; have h2 := HL1.out.1; omega
        case rel => exact ⟨s', r', q + 1, by have := HL3.out; omega, rfl, H4.out.1, H4.out.2.1, H4.out.2.2.1, by have h1 := HL3.out; have h2 := HL1.out.2; omega, H4.out.2.2.2⟩
      · go_ret2
        exact ⟨H4.out.2.2.2, Or.inl rfl⟩
end Go.Proofs.YthdhegmlknpllaaGreat
