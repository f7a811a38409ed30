/-
  The walk of redo (69).
-/
import Derived.Test.YthdhegmlknpllaaLre
namespace Go.Proofs.Ythdhegmlknpllaa
open Go.RowKit Go.Maps Go.MuLone

theorem entW_eq (k : Nat) (y : B4) : entry 87 (wtext k y) = 6 :: 87 :: byt (k : Int) :: y.list' := by
  simp [entry, wtext, B4.list']
  rfl
theorem entS_eq (t : Int) : entry 83 (n4 t).ba = 5 :: 83 :: ((n4 t).list' ++ []) := by
  simp [entry, B4.ba, B4.list']
  rfl

set_option maxRecDepth 100000 in
set_option maxHeartbeats 1600000 in
theorem redo_w (B b : Nat) (s : Sto) (k : Nat) (y : B4) (w : World) (h : Rep B w b 0 s) (hk : k < s.vol.length) (hv : s.vol.length ≤ 16) (hl : s.log.length ≤ 140000000000000) :
    Calls Try.prog 69 #[.pointer (some ⟨b, 0, none⟩), .string (ofL (entry 87 (wtext k y)))] w fun e w' => e = .returned (.tuple #[]) ∧ ∃ lv, Rep B w' b 0 ((s.write k y).noted 87 (wtext k y) lv) ∧ Fr (foot b s) w w' ∧ (∀ j, lv.ownBlock = some j → s.lv.ownBlock = some j ∨ w.heap.size ≤ j) := by
  rw [entW_eq]
  have HN : Hid (∀ W, Calls Try.prog 85 #[.string (ofL (6 :: 87 :: byt (k : Int) :: y.list'))] W fun e w' => e = .returned (.pointer (some ⟨W.heap.size, 0, none⟩)) ∧ Rdr w' W.heap.size (ofL (6 :: 87 :: byt (k : Int) :: y.list')) false ∧ Fr [] W w') := fun W => newReader_any _ W
  have H1 : Hid (∀ W rb, Rdr W rb (ofL (6 :: 87 :: byt (k : Int) :: y.list')) false → Calls Try.prog 88 #[.pointer (some ⟨rb, 0, none⟩)] W fun e w' => e = .returned (.int .i64 6) ∧ Rdr w' rb (ofL (87 :: byt (k : Int) :: y.list')) false ∧ Fr [rb] W w') := fun W rb h => rd_byte rb 6 _ W h (by simp [B4.list'])
  have H2 : Hid (∀ W rb, Rdr W rb (ofL (87 :: byt (k : Int) :: y.list')) false → Calls Try.prog 88 #[.pointer (some ⟨rb, 0, none⟩)] W fun e w' => e = .returned (.int .i64 87) ∧ Rdr w' rb (ofL (byt (k : Int) :: y.list')) false ∧ Fr [rb] W w') := fun W rb h => rd_byte rb 87 _ W h (by simp [B4.list'])
  have H3 : Hid (∀ W rb, Rdr W rb (ofL (byt (k : Int) :: y.list')) false → Calls Try.prog 88 #[.pointer (some ⟨rb, 0, none⟩)] W fun e w' => e = .returned (.int .i64 (k : Int)) ∧ Rdr w' rb (ofL y.list') false ∧ Fr [rb] W w') := fun W rb h => by
    have := rd_byte rb (byt (k : Int)) _ W h (by simp [B4.list'])
    rw [← byt_eq, show (k : Int) % 256 = (k : Int) by omega] at this
    exact this
  have H4 : Hid (∀ W rb, Rdr W rb (ofL y.list') false → Calls Try.prog 92 #[.pointer (some ⟨rb, 0, none⟩)] W fun e w' => e = .returned (.int .i64 4) ∧ w' = W) := fun W rb h => rd_left rb y.list' W h
  have H5 : Hid (∀ W rb, Rdr W rb (ofL y.list') false → Calls Try.prog 86 #[.pointer (some ⟨rb, 0, none⟩), .int .i64 4] W fun e w' => e = .returned (.string (ofL y.list')) ∧ Rdr w' rb (ofL []) false ∧ Fr [rb] W w') := fun W rb h => rd_text rb y.list' W h (by simp [B4.list'])
  have HW : Hid (∀ W, Rep B W b 0 s → Calls Try.prog 22 #[.pointer (some ⟨b, 0, none⟩), .int .i64 k, .string (ofL y.list')] W fun e w' => e = .returned (.int .i64 0) ∧ ∃ lv, Rep B w' b 0 ((s.write k y).noted 87 (wtext k y) lv) ∧ Fr (foot b s) W w' ∧ (∀ j, lv.ownBlock = some j → s.lv.ownBlock = some j ∨ W.heap.size ≤ j)) := fun W hW => write_ok B b s k y W hW hk hl
  obtain ⟨t0, ht0⟩ : ∃ t, ofL (6 :: 87 :: byt (k : Int) :: y.list') = t := ⟨_, rfl⟩
  obtain ⟨t1, ht1⟩ : ∃ t, ofL (87 :: byt (k : Int) :: y.list') = t := ⟨_, rfl⟩
  obtain ⟨t2, ht2⟩ : ∃ t, ofL (byt (k : Int) :: y.list') = t := ⟨_, rfl⟩
  obtain ⟨t3, ht3⟩ : ∃ t, ofL y.list' = t := ⟨_, rfl⟩
  rw [ht0] at HN H1 ⊢
  rw [ht1] at H1 H2
  rw [ht2] at H2 H3
  rw [ht3] at H3 H4 H5 HW
  obtain ⟨rb, hrb⟩ : ∃ rb, w.heap.size = rb := ⟨_, rfl⟩
  have HB : Hid (w.heap.size = rb ∧ Rep B w b 0 s) := ⟨hrb, h⟩
  clear ht0 ht1 ht2 ht3 hrb h
  go_enter Try.func69, Try.ntmps69
  go_wp2_with (first
    | (go_at_call 85; refine (HN.out _).mono ?_; rintro e w1 ⟨rfl, r1, f1⟩; rw [HB.out.1] at r1 ⊢; have G1 : Hid (Rdr w1 rb t0 false ∧ Fr [] w w1) := ⟨r1, f1⟩; clear r1 f1)
    | (go_at_call 92; refine (H4.out _ _ G4.out.1).mono ?_; rintro e w' ⟨rfl, hw'⟩; have hw' := hw'.symm; subst hw')
    | (go_at_call 86; refine (H5.out _ _ G4.out.1).mono ?_; rintro e w5 ⟨rfl, r5, f5⟩; have G5 : Hid (Fr [] w w5) := G4.out.2.trans f5 (fun k hk => Or.inr (by simp at hk; subst hk; exact Nat.le_of_eq HB.out.1)); clear r5 f5)
    | (go_at_call 88; refine (H3.out _ _ G3.out.1).mono ?_; rintro e w4 ⟨rfl, r4, f4⟩; have G4 : Hid (Rdr w4 rb t3 false ∧ Fr [] w w4) := ⟨r4, G3.out.2.trans f4 (fun k hk => Or.inr (by simp at hk; subst hk; exact Nat.le_of_eq HB.out.1))⟩; clear r4 f4)
    | (go_at_call 88; refine (H2.out _ _ G2.out.1).mono ?_; rintro e w3 ⟨rfl, r3, f3⟩; have G3 : Hid (Rdr w3 rb t2 false ∧ Fr [] w w3) := ⟨r3, G2.out.2.trans f3 (fun k hk => Or.inr (by simp at hk; subst hk; exact Nat.le_of_eq HB.out.1))⟩; clear r3 f3)
    | (go_at_call 88; refine (H1.out _ _ G1.out.1).mono ?_; rintro e w2 ⟨rfl, r2, f2⟩; have G2 : Hid (Rdr w2 rb t1 false ∧ Fr [] w w2) := ⟨r2, G1.out.2.trans f2 (fun k hk => Or.inr (by simp at hk; subst hk; exact Nat.le_of_eq HB.out.1))⟩; clear r2 f2)
    | (go_at_call 22; refine (HW.out _ (HB.out.2.kept0 G5.out)).mono ?_; rintro e w6 ⟨rfl, lv, r6, f6, a6⟩; have G6 : Hid (Rep B w6 b 0 ((s.write k y).noted 87 (wtext k y) lv) ∧ Fr (foot b s) w w6 ∧ (∀ j, lv.ownBlock = some j → s.lv.ownBlock = some j ∨ w.heap.size ≤ j)) := ⟨r6, (G5.out.mono (by simp)).trans f6 (fun j hj => Or.inl hj), fun j hj => (a6 j hj).imp_right (fun h => Nat.le_trans G5.out.size h)⟩; clear r6 f6 a6))
  go_end0
  exact ⟨rfl, lv, G6.out⟩

set_option maxRecDepth 100000 in
set_option maxHeartbeats 1600000 in
theorem redo_s (B b : Nat) (s : Sto) (t : Int) (w : World) (h : Rep B w b 0 s) (ht : 0 ≤ t ∧ t ≤ 1073741824) (h1 : 1 ≤ s.id ∧ s.id ≤ 999) (h2 : 0 ≤ s.taken ∧ s.taken < 999999) (hf : Free s) (hs : s.ss.length < 12) (hm : s.ms.length ≤ 12)
    (hc : 0 ≤ s.came ∧ s.came ≤ 1000000000000) (hv : s.vol.length ≤ 16) (hcnt : s.cnt + s.vol.length < maxLen) (hl : s.log.length ≤ 140000000000000) :
    Calls Try.prog 69 #[.pointer (some ⟨b, 0, none⟩), .string (ofL (entry 83 (n4 t).ba))] w fun e w' => e = .returned (.tuple #[]) ∧ ∃ sv lv, Rep B w' b 0 ((s.snap t sv).noted 83 (n4 t).ba lv) ∧ Fr (foot b s) w w' ∧ (∀ k, sv.ownBlock = some k → s.sv.ownBlock = some k ∨ w.heap.size ≤ k) ∧ (∀ k, lv.ownBlock = some k → s.lv.ownBlock = some k ∨ w.heap.size ≤ k) := by
  rw [entS_eq]
  have HN : Hid (∀ W, Calls Try.prog 85 #[.string (ofL (5 :: 83 :: ((n4 t).list' ++ [])))] W fun e w' => e = .returned (.pointer (some ⟨W.heap.size, 0, none⟩)) ∧ Rdr w' W.heap.size (ofL (5 :: 83 :: ((n4 t).list' ++ []))) false ∧ Fr [] W w') := fun W => newReader_any _ W
  have H1 : Hid (∀ W rb, Rdr W rb (ofL (5 :: 83 :: ((n4 t).list' ++ []))) false → Calls Try.prog 88 #[.pointer (some ⟨rb, 0, none⟩)] W fun e w' => e = .returned (.int .i64 5) ∧ Rdr w' rb (ofL (83 :: ((n4 t).list' ++ []))) false ∧ Fr [rb] W w') := fun W rb h => rd_byte rb 5 _ W h (by simp [B4.list'])
  have H2 : Hid (∀ W rb, Rdr W rb (ofL (83 :: ((n4 t).list' ++ []))) false → Calls Try.prog 88 #[.pointer (some ⟨rb, 0, none⟩)] W fun e w' => e = .returned (.int .i64 83) ∧ Rdr w' rb (ofL ((n4 t).list' ++ [])) false ∧ Fr [rb] W w') := fun W rb h => rd_byte rb 83 _ W h (by simp [B4.list'])
  have H3 : Hid (∀ W rb, Rdr W rb (ofL ((n4 t).list' ++ [])) false → Calls Try.prog 87 #[.pointer (some ⟨rb, 0, none⟩)] W fun e w' => e = .returned (.int .i64 t) ∧ Rdr w' rb (ofL []) false ∧ Fr [rb] W w') := fun W rb h => rd_num rb t (by omega) [] W h (by simp)
  have HW : Hid (∀ W, Rep B W b 0 s → Calls Try.prog 24 #[.pointer (some ⟨b, 0, none⟩), .int .i64 t] W fun e w' => e = .returned (.tuple #[.int .i64 (gu s (s.taken + 1)), .int .i64 0]) ∧ ∃ sv lv, Rep B w' b 0 ((s.snap t sv).noted 83 (n4 t).ba lv) ∧ Fr (foot b s) W w' ∧ (∀ k, sv.ownBlock = some k → s.sv.ownBlock = some k ∨ W.heap.size ≤ k) ∧ (∀ k, lv.ownBlock = some k → s.lv.ownBlock = some k ∨ W.heap.size ≤ k)) := fun W hW => snap_ok B b s t W hW ht h1 h2 hf hs hm hc hv hcnt hl
  obtain ⟨g, hg⟩ : ∃ g, gu s (s.taken + 1) = g := ⟨_, rfl⟩
  rw [hg] at HW
  obtain ⟨t0, ht0⟩ : ∃ t', ofL (5 :: 83 :: ((n4 t).list' ++ [])) = t' := ⟨_, rfl⟩
  obtain ⟨t1, ht1⟩ : ∃ t', ofL (83 :: ((n4 t).list' ++ [])) = t' := ⟨_, rfl⟩
  obtain ⟨t2, ht2⟩ : ∃ t', ofL ((n4 t).list' ++ []) = t' := ⟨_, rfl⟩
  rw [ht0] at HN H1 ⊢
  rw [ht1] at H1 H2
  rw [ht2] at H2 H3
  obtain ⟨rb, hrb⟩ : ∃ rb, w.heap.size = rb := ⟨_, rfl⟩
  have HB : Hid (w.heap.size = rb ∧ Rep B w b 0 s) := ⟨hrb, h⟩
  clear ht0 ht1 ht2 hrb h hg hf
  go_enter Try.func69, Try.ntmps69
  go_wp2_with (first
    | (go_at_call 85; refine (HN.out _).mono ?_; rintro e w1 ⟨rfl, r1, f1⟩; rw [HB.out.1] at r1 ⊢; have G1 : Hid (Rdr w1 rb t0 false ∧ Fr [] w w1) := ⟨r1, f1⟩; clear r1 f1)
    | (go_at_call 87; refine (H3.out _ _ G3.out.1).mono ?_; rintro e w4 ⟨rfl, r4, f4⟩; have G4 : Hid (Fr [] w w4) := G3.out.2.trans f4 (fun k hk => Or.inr (by simp at hk; subst hk; exact Nat.le_of_eq HB.out.1)); clear r4 f4)
    | (go_at_call 88; refine (H2.out _ _ G2.out.1).mono ?_; rintro e w3 ⟨rfl, r3, f3⟩; have G3 : Hid (Rdr w3 rb t2 false ∧ Fr [] w w3) := ⟨r3, G2.out.2.trans f3 (fun k hk => Or.inr (by simp at hk; subst hk; exact Nat.le_of_eq HB.out.1))⟩; clear r3 f3)
    | (go_at_call 88; refine (H1.out _ _ G1.out.1).mono ?_; rintro e w2 ⟨rfl, r2, f2⟩; have G2 : Hid (Rdr w2 rb t1 false ∧ Fr [] w w2) := ⟨r2, G1.out.2.trans f2 (fun k hk => Or.inr (by simp at hk; subst hk; exact Nat.le_of_eq HB.out.1))⟩; clear r2 f2)
    | (go_at_call 24; refine (HW.out _ (HB.out.2.kept0 G4.out)).mono ?_; rintro e w6 ⟨rfl, sv, lv, r6, f6, a6, b6⟩; have G6 : Hid (Rep B w6 b 0 ((s.snap t sv).noted 83 (n4 t).ba lv) ∧ Fr (foot b s) w w6 ∧ (∀ j, sv.ownBlock = some j → s.sv.ownBlock = some j ∨ w.heap.size ≤ j) ∧ (∀ j, lv.ownBlock = some j → s.lv.ownBlock = some j ∨ w.heap.size ≤ j)) := ⟨r6, (G4.out.mono (by simp)).trans f6 (fun j hj => Or.inl hj), fun j hj => (a6 j hj).imp_right (fun h => Nat.le_trans G4.out.size h), fun j hj => (b6 j hj).imp_right (fun h => Nat.le_trans G4.out.size h)⟩; clear r6 f6 a6 b6))
  go_end0
  exact ⟨rfl, sv, lv, G6.out⟩
end Go.Proofs.Ythdhegmlknpllaa
