/-
  The walks of begin (67), redo (69).
-/
import Derived.Test.YthdhegmlknpllaaLrd
namespace Go.Proofs.Ythdhegmlknpllaa
open Go.RowKit Go.Maps Go.MuLone

set_option maxHeartbeats 400000 in
theorem new_err0 (w : World) : Calls Try.prog 44 #[.int .i64 0, .int .i64 0] w fun e w' => e = .returned (.tuple #[.pointer none, .int .i64 1]) ∧ w' = w := by
  go_enter Try.func44, Try.ntmps44
  go_wp2
  go_ret2
  exact ⟨rfl, rfl⟩

theorem rdr_fr {w w' : World} {rb : Nat} {t : ByteArray} {sh : Bool} (h : Rdr w rb t sh) (hf : Fr [] w w') : Rdr w' rb t sh := by
  unfold Rdr at h ⊢
  rw [hf.block rb (Array.getElem?_eq_some_iff.1 h).1 (by simp)]
  exact h

/-- The first entry of a log. -/
def entN (d : Int) (n : Nat) : List UInt8 := entry 78 (ntext d n)
theorem entN_eq (d : Int) (n : Nat) : entN d n = 6 :: 78 :: ((n4 d).list' ++ [byt (n : Int)]) := by
  simp [entN, entry, ntext, B4.ba, B4.list']
  rfl

set_option maxRecDepth 100000 in
set_option maxHeartbeats 1600000 in
theorem begin_ok (d : Int) (n : Nat) (hd : 1 ≤ d ∧ d ≤ 999) (hn : 1 ≤ n ∧ n ≤ 16) (w : World) :
    Calls Try.prog 67 #[.string (ofL (entN d n))] w fun e w' => ∃ b vb mb lv, e = .returned (.tuple #[.pointer (some ⟨b, 0, none⟩), .bool true]) ∧ Rep w.heap.size w' b 0 (Sto.made d n vb mb lv) ∧ Fr [] w w' := by
  rw [entN_eq]
  have HN : Hid (∀ W, Calls Try.prog 85 #[.string (ofL (6 :: 78 :: ((n4 d).list' ++ [byt (n : Int)])))] W fun e w' => e = .returned (.pointer (some ⟨W.heap.size, 0, none⟩)) ∧ Rdr w' W.heap.size (ofL (6 :: 78 :: ((n4 d).list' ++ [byt (n : Int)]))) false ∧ Fr [] W w') := fun W => newReader_any _ W
  have H1 : Hid (∀ W rb, Rdr W rb (ofL (6 :: 78 :: ((n4 d).list' ++ [byt (n : Int)]))) false → Calls Try.prog 88 #[.pointer (some ⟨rb, 0, none⟩)] W fun e w' => e = .returned (.int .i64 6) ∧ Rdr w' rb (ofL (78 :: ((n4 d).list' ++ [byt (n : Int)]))) false ∧ Fr [rb] W w') := fun W rb h => rd_byte rb 6 _ W h (by simp [B4.list'])
  have H2 : Hid (∀ W rb, Rdr W rb (ofL (78 :: ((n4 d).list' ++ [byt (n : Int)]))) false → Calls Try.prog 88 #[.pointer (some ⟨rb, 0, none⟩)] W fun e w' => e = .returned (.int .i64 78) ∧ Rdr w' rb (ofL ((n4 d).list' ++ [byt (n : Int)])) false ∧ Fr [rb] W w') := fun W rb h => rd_byte rb 78 _ W h (by simp [B4.list'])
  have H3 : Hid (∀ W rb, Rdr W rb (ofL ((n4 d).list' ++ [byt (n : Int)])) false → Calls Try.prog 87 #[.pointer (some ⟨rb, 0, none⟩)] W fun e w' => e = .returned (.int .i64 d) ∧ Rdr w' rb (ofL [byt (n : Int)]) false ∧ Fr [rb] W w') := fun W rb h => rd_num rb d (by omega) _ W h (by simp)
  have H4 : Hid (∀ W rb, Rdr W rb (ofL [byt (n : Int)]) false → Calls Try.prog 88 #[.pointer (some ⟨rb, 0, none⟩)] W fun e w' => e = .returned (.int .i64 (n : Int)) ∧ Rdr w' rb (ofL []) false ∧ Fr [rb] W w') := fun W rb h => by
    have := rd_byte rb (byt (n : Int)) [] W h (by simp)
    rw [← byt_eq, show (n : Int) % 256 = (n : Int) by omega] at this
    exact this
  have HE : Hid (∀ W rb, Rdr W rb (ofL []) false → Calls Try.prog 89 #[.pointer (some ⟨rb, 0, none⟩)] W fun e w' => e = .returned (.bool true) ∧ w' = W) := fun W rb h => ended_any rb _ _ W h
  have HNw : Hid (∀ W, Calls Try.prog 44 #[.int .i64 d, .int .i64 n] W fun e w' => ∃ b vb mb lv, e = .returned (.tuple #[.pointer (some ⟨b, 0, none⟩), .int .i64 0]) ∧ Rep W.heap.size w' b 0 (Sto.made d n vb mb lv) ∧ Fr [] W w') := fun W => new_ok d n W hd hn
  obtain ⟨t0, ht0⟩ : ∃ t, ofL (6 :: 78 :: ((n4 d).list' ++ [byt (n : Int)])) = t := ⟨_, rfl⟩
  obtain ⟨t1, ht1⟩ : ∃ t, ofL (78 :: ((n4 d).list' ++ [byt (n : Int)])) = t := ⟨_, rfl⟩
  obtain ⟨t2, ht2⟩ : ∃ t, ofL ((n4 d).list' ++ [byt (n : Int)]) = t := ⟨_, rfl⟩
  obtain ⟨t3, ht3⟩ : ∃ t, ofL [byt (n : Int)] = t := ⟨_, rfl⟩
  obtain ⟨t4, ht4⟩ : ∃ t, ofL [] = t := ⟨_, rfl⟩
  rw [ht0] at HN H1 ⊢
  rw [ht1] at H1 H2
  rw [ht2] at H2 H3
  rw [ht3] at H3 H4
  rw [ht4] at H4 HE
  clear ht0 ht1 ht2 ht3 ht4
  obtain ⟨rb, hrb⟩ : ∃ rb, w.heap.size = rb := ⟨_, rfl⟩
  have HB : Hid (w.heap.size = rb) := hrb
  go_enter Try.func67, Try.ntmps67
  go_wp2_with (first
    | (go_at_call 85; refine (HN.out _).mono ?_; rintro e w1 ⟨rfl, r1, f1⟩; rw [HB.out] at r1 ⊢; have G1 : Hid (Rdr w1 rb t0 false ∧ Fr [] w w1) := ⟨r1, f1⟩; clear r1 f1)
    | (go_at_call 88; refine (H4.out _ _ G4.out.1).mono ?_; rintro e w5 ⟨rfl, r5, f5⟩; have G5 : Hid (Rdr w5 rb t4 false ∧ Fr [] w w5) := ⟨r5, G4.out.2.trans f5 (fun k hk => Or.inr (by simp at hk; subst hk; exact Nat.le_of_eq HB.out))⟩; clear r5 f5)
    | (go_at_call 87; refine (H3.out _ _ G3.out.1).mono ?_; rintro e w4 ⟨rfl, r4, f4⟩; have G4 : Hid (Rdr w4 rb t3 false ∧ Fr [] w w4) := ⟨r4, G3.out.2.trans f4 (fun k hk => Or.inr (by simp at hk; subst hk; exact Nat.le_of_eq HB.out))⟩; clear r4 f4)
    | (go_at_call 88; refine (H2.out _ _ G2.out.1).mono ?_; rintro e w3 ⟨rfl, r3, f3⟩; have G3 : Hid (Rdr w3 rb t2 false ∧ Fr [] w w3) := ⟨r3, G2.out.2.trans f3 (fun k hk => Or.inr (by simp at hk; subst hk; exact Nat.le_of_eq HB.out))⟩; clear r3 f3)
    | (go_at_call 88; refine (H1.out _ _ G1.out.1).mono ?_; rintro e w2 ⟨rfl, r2, f2⟩; have G2 : Hid (Rdr w2 rb t1 false ∧ Fr [] w w2) := ⟨r2, G1.out.2.trans f2 (fun k hk => Or.inr (by simp at hk; subst hk; exact Nat.le_of_eq HB.out))⟩; clear r2 f2)
    | (go_at_call 44; refine (HNw.out _).mono ?_; rintro e w6 ⟨b, vb, mb, lv, rfl, r6, f6⟩; have G6 : Hid (Rdr w6 rb t4 false ∧ Fr [] w w6 ∧ Rep w5.heap.size w6 b 0 (Sto.made d n vb mb lv)) := ⟨rdr_fr G5.out.1 f6, G5.out.2.tr f6, r6⟩; clear r6 f6)
    | (go_at_call 89; refine (HE.out _ _ G6.out.1).mono ?_; rintro e w' ⟨rfl, hw'⟩; have hw' := hw'.symm; subst hw'))
  go_ret2
  exact ⟨b, vb, mb, lv, rfl, (G6.out.2.2.base G5.out.2.size), G6.out.2.1⟩

set_option maxRecDepth 100000 in
set_option maxHeartbeats 1600000 in
theorem begin_bad (w : World) :
    Calls Try.prog 67 #[.string ⟨#[]⟩] w fun e w' => e = .returned (.tuple #[.pointer none, .bool false]) ∧ Fr [] w w' := by
  have HN : Hid (∀ W, Calls Try.prog 85 #[.string ⟨#[]⟩] W fun e w' => e = .returned (.pointer (some ⟨W.heap.size, 0, none⟩)) ∧ Rdr w' W.heap.size ⟨#[]⟩ false ∧ Fr [] W w') := fun W => newReader_any _ W
  have H1 : Hid (∀ W rb sh, Rdr W rb ⟨#[]⟩ sh → Calls Try.prog 88 #[.pointer (some ⟨rb, 0, none⟩)] W fun e w' => e = .returned (.int .i64 0) ∧ Rdr w' rb ⟨#[]⟩ true ∧ Fr [rb] W w') := fun W rb sh h => by
    have := rbyte_any rb ⟨#[]⟩ sh W h (by decide)
    exact this
  have H3 : Hid (∀ W rb sh, Rdr W rb ⟨#[]⟩ sh → Calls Try.prog 87 #[.pointer (some ⟨rb, 0, none⟩)] W fun e w' => e = .returned (.int .i64 0) ∧ Rdr w' rb ⟨#[]⟩ true ∧ Fr [rb] W w') := fun W rb sh h => by
    have := rnumber_any rb ⟨#[]⟩ sh W h (by decide)
    exact this
  obtain ⟨rb, hrb⟩ : ∃ rb, w.heap.size = rb := ⟨_, rfl⟩
  have HB : Hid (w.heap.size = rb) := hrb
  have HNw : Hid (∀ W, Calls Try.prog 44 #[.int .i64 0, .int .i64 0] W fun e w' => e = .returned (.tuple #[.pointer none, .int .i64 1]) ∧ w' = W) := fun W => new_err0 W
  go_enter Try.func67, Try.ntmps67
  go_wp2_with (first
    | (go_at_call 85; refine (HN.out _).mono ?_; rintro e w1 ⟨rfl, r1, f1⟩; rw [HB.out] at r1 ⊢; have G1 : Hid (Rdr w1 rb ⟨#[]⟩ false ∧ Fr [] w w1) := ⟨r1, f1⟩; clear r1 f1)
    | (go_at_call 88; refine (H1.out _ _ _ G4.out.1).mono ?_; rintro e w5 ⟨rfl, r5, f5⟩; have G5 : Hid (Fr [] w w5) := G4.out.2.trans f5 (fun k hk => Or.inr (by simp at hk; subst hk; exact Nat.le_of_eq HB.out)); clear r5 f5)
    | (go_at_call 87; refine (H3.out _ _ _ G3.out.1).mono ?_; rintro e w4 ⟨rfl, r4, f4⟩; have G4 : Hid (Rdr w4 rb ⟨#[]⟩ true ∧ Fr [] w w4) := ⟨r4, G3.out.2.trans f4 (fun k hk => Or.inr (by simp at hk; subst hk; exact Nat.le_of_eq HB.out))⟩; clear r4 f4)
    | (go_at_call 88; refine (H1.out _ _ _ G2.out.1).mono ?_; rintro e w3 ⟨rfl, r3, f3⟩; have G3 : Hid (Rdr w3 rb ⟨#[]⟩ true ∧ Fr [] w w3) := ⟨r3, G2.out.2.trans f3 (fun k hk => Or.inr (by simp at hk; subst hk; exact Nat.le_of_eq HB.out))⟩; clear r3 f3)
    | (go_at_call 88; refine (H1.out _ _ _ G1.out.1).mono ?_; rintro e w2 ⟨rfl, r2, f2⟩; have G2 : Hid (Rdr w2 rb ⟨#[]⟩ true ∧ Fr [] w w2) := ⟨r2, G1.out.2.trans f2 (fun k hk => Or.inr (by simp at hk; subst hk; exact Nat.le_of_eq HB.out))⟩; clear r2 f2)
    | (go_at_call 44; refine (HNw.out _).mono ?_; rintro e w' ⟨rfl, hw'⟩; have hw' := hw'.symm; subst hw'))
  go_ret2
  exact ⟨rfl, G5.out⟩
end Go.Proofs.Ythdhegmlknpllaa
