import Derived.Test.YthdhegmlknpllabGreatDoorM29
import Derived.Test.YthdhegmlknpllabGreatDoorM34
import Derived.Laws.ResultCell
/-
  The Reader, on lists.
-/
namespace Go.Proofs.YthdhegmlknpllabGreatDoor
open Go.RowKit Go.Maps Go.MuLone

theorem rd_byte (rb : Nat) (a : UInt8) (l : List UInt8) (W : World) (h : Rdr W rb (ofL (a :: l)) false) (hl : l.length ≤ 1000000) :
    Calls Tryz.prog 52 #[.pointer (some ⟨rb, 0, none⟩)] W fun e w' => e = .returned (.int .i64 (a.toNat : Int)) ∧ Rdr w' rb (ofL l) false ∧ Fr [rb] W w' := by
  have e1 : rdT (ofL ([a] ++ l)) 1 = ofL [a] := rdT_app [a] l 1 rfl
  have e2 := rdN_app [a] l false 1 rfl
  have := rbyte_any rb (ofL ([a] ++ l)) false W h (by rw [ofL_size]; simp; omega)
  rw [e1, ofL_list] at this
  unfold rdN at e2
  have e3 := congrArg Prod.fst e2
  have e4 := congrArg Prod.snd e2
  simp only at e3 e4
  rw [e3, e4] at this
  simpa [valN] using this
theorem rd_num (rb : Nat) (z : Int) (hz : 0 ≤ z ∧ z < 4294967296) (l : List UInt8) (W : World) (h : Rdr W rb (ofL ((n4 z).list' ++ l)) false) (hl : l.length ≤ 1000000) :
    Calls Tryz.prog 53 #[.pointer (some ⟨rb, 0, none⟩)] W fun e w' => e = .returned (.int .i64 z) ∧ Rdr w' rb (ofL l) false ∧ Fr [rb] W w' := by
  have e1 : rdT (ofL ((n4 z).list' ++ l)) 4 = ofL (n4 z).list' := rdT_app _ l 4 rfl
  have e2 := rdN_app (n4 z).list' l false 4 rfl
  have := rnumber_any rb (ofL ((n4 z).list' ++ l)) false W h (by rw [ofL_size]; simp [B4.list']; omega)
  rw [e1, ofL_list, val4 z hz] at this
  unfold rdN at e2
  have e3 := congrArg Prod.fst e2
  have e4 := congrArg Prod.snd e2
  simp only at e3 e4
  rw [e3, e4] at this
  exact this
theorem rd_text (rb : Nat) (l : List UInt8) (W : World) (h : Rdr W rb (ofL l) false) (hl : l.length ≤ 1000000) :
    Calls Tryz.prog 54 #[.pointer (some ⟨rb, 0, none⟩), .int .i64 l.length] W fun e w' => e = .returned (.string (ofL l)) ∧ Rdr w' rb (ofL []) false ∧ Fr [rb] W w' := by
  have e1 : rdT (ofL (l ++ [])) l.length = ofL l := rdT_app _ [] _ rfl
  have e2 := rdN_app l [] false l.length rfl
  rw [List.append_nil] at e1 e2
  have := rtext_any rb (ofL l) false l.length W h hl (by rw [ofL_size]; omega)
  rw [e1] at this
  unfold rdN at e2
  have e3 := congrArg Prod.fst e2
  have e4 := congrArg Prod.snd e2
  simp only at e3 e4
  rw [e3, e4] at this
  exact this
theorem rd_left (rb : Nat) (l : List UInt8) (W : World) (h : Rdr W rb (ofL l) false) :
    Calls Tryz.prog 55 #[.pointer (some ⟨rb, 0, none⟩)] W fun e w' => e = .returned (.int .i64 l.length) ∧ w' = W := by
  have := left_any rb (ofL l) false W h
  rw [ofL_size] at this
  exact this

theorem rdr_fr {w w' : World} {rb : Nat} {t : ByteArray} {sh : Bool} (h : Rdr w rb t sh) (hf : Fr [] w w') : Rdr w' rb t sh := by
  unfold Rdr at h ⊢
  rw [hf.block rb (Array.getElem?_eq_some_iff.1 h).1 (by simp)]
  exact h

end Go.Proofs.YthdhegmlknpllabGreatDoor

/-
  The walk of wire.ParseLetter (35), of letters that are.
-/
namespace Go.Proofs.YthdhegmlknpllabGreatDoor
open Go.RowKit Go.Maps Go.MuLone


set_option maxRecDepth 100000 in
set_option maxHeartbeats 3200000 in
theorem pl_ask (p : Nat) (num : Int) (w : World) (hp : p < 3) (hnum : 0 ≤ num ∧ num < 4294967296) :
    Calls Tryz.prog 35 #[.string (ofL (lhead 65 p num))] w fun e w' => e = .returned (.tuple #[.agg #[.int .u8 65, .int .i64 p, .int .i64 num, .string ⟨#[]⟩, .int .i64 0], .bool true]) ∧ Fr [] w w' := by
  obtain ⟨R, hR⟩ : ∃ R, ([] : List UInt8) = R := ⟨_, rfl⟩
  have HRR : Hid (([] : List UInt8) = R) := hR
  have hRl : R.length ≤ 900000 := by rw [← hR]; simp
  have e0 : lhead 65 p num = 65 :: byt (p : Int) :: ((n4 num).list' ++ R) := by rw [← hR]; simp [lhead]
  rw [e0]
  clear hR
  have HN : Hid (∀ W, Calls Tryz.prog 51 #[.string (ofL (65 :: byt (p : Int) :: ((n4 num).list' ++ R)))] W fun e w' => e = .returned (.pointer (some ⟨W.heap.size, 0, none⟩)) ∧ Rdr w' W.heap.size (ofL (65 :: byt (p : Int) :: ((n4 num).list' ++ R))) false ∧ Fr [] W w') := fun W => newReader_any _ W
  have H1 : Hid (∀ W rb, Rdr W rb (ofL (65 :: byt (p : Int) :: ((n4 num).list' ++ R))) false → Calls Tryz.prog 52 #[.pointer (some ⟨rb, 0, none⟩)] W fun e w' => e = .returned (.int .i64 65) ∧ Rdr w' rb (ofL (byt (p : Int) :: ((n4 num).list' ++ R))) false ∧ Fr [rb] W w') := fun W rb h => rd_byte rb 65 _ W h (by simp [B4.list']; omega)
  have H2 : Hid (∀ W rb, Rdr W rb (ofL (byt (p : Int) :: ((n4 num).list' ++ R))) false → Calls Tryz.prog 52 #[.pointer (some ⟨rb, 0, none⟩)] W fun e w' => e = .returned (.int .i64 (p : Int)) ∧ Rdr w' rb (ofL ((n4 num).list' ++ R)) false ∧ Fr [rb] W w') := fun W rb h => by
    have := rd_byte rb (byt (p : Int)) _ W h (by simp [B4.list']; omega)
    rw [← byt_eq, show (p : Int) % 256 = (p : Int) by omega] at this
    exact this
  have H3 : Hid (∀ W rb, Rdr W rb (ofL ((n4 num).list' ++ R)) false → Calls Tryz.prog 53 #[.pointer (some ⟨rb, 0, none⟩)] W fun e w' => e = .returned (.int .i64 num) ∧ Rdr w' rb (ofL R) false ∧ Fr [rb] W w') := fun W rb h => rd_num rb num hnum R W h (by omega)
  have HE : Hid (∀ W rb, Rdr W rb (ofL []) false → Calls Tryz.prog 56 #[.pointer (some ⟨rb, 0, none⟩)] W fun e w' => e = .returned (.bool true) ∧ w' = W) := fun W rb h => ended_any rb _ _ W h

  obtain ⟨t0, ht0⟩ : ∃ t, ofL (65 :: byt (p : Int) :: ((n4 num).list' ++ R)) = t := ⟨_, rfl⟩
  obtain ⟨t1, ht1⟩ : ∃ t, ofL (byt (p : Int) :: ((n4 num).list' ++ R)) = t := ⟨_, rfl⟩
  obtain ⟨t2, ht2⟩ : ∃ t, ofL ((n4 num).list' ++ R) = t := ⟨_, rfl⟩
  rw [ht0] at HN H1 ⊢
  rw [ht1] at H1 H2
  rw [ht2] at H2 H3
  obtain ⟨w0, hw0⟩ : ∃ w0, w.alloc (.cells #[.int .u8 0, .int .i64 0, .int .i64 0, .string ⟨#[]⟩, .int .i64 0] 100) = w0 := ⟨_, rfl⟩
  obtain ⟨bx, hbx⟩ : ∃ bx, w.heap.size = bx := ⟨_, rfl⟩
  have b0 : w0.heap[bx]? = some (.cells #[.int .u8 0, .int .i64 0, .int .i64 0, .string ⟨#[]⟩, .int .i64 0] 100 (0, 0)) := by rw [← hw0, ← hbx]; exact heap_alloc_new w _
  have lb0 : bx < w0.heap.size := (Array.getElem?_eq_some_iff.1 b0).1
  have HB : Hid (w0.heap[bx]? = some (.cells #[.int .u8 0, .int .i64 0, .int .i64 0, .string ⟨#[]⟩, .int .i64 0] 100 (0, 0)) ∧ Fr [] w w0 ∧ w.heap.size = bx ∧ bx < w0.heap.size) := ⟨b0, by rw [← hw0]; exact (Fr.refl _ _).alloc _, hbx, lb0⟩
  have hpz : ¬ (3 : Int) ≤ (p : Int) := by omega
  have hw0' := hw0
  clear hw0 b0 ht0 ht1 ht2 lb0 e0
  obtain ⟨rb, hrb⟩ : ∃ rb, w0.heap.size = rb := ⟨_, rfl⟩
  have HRB : Hid (w0.heap.size = rb ∧ w.heap.size ≤ rb ∧ bx ≠ rb) := ⟨hrb, by rw [← hrb]; exact HB.out.2.1.size, by have := HB.out.2.2.2; omega⟩
  have HZ : Hid (∀ W, Fr [] w0 W ∨ Fr [rb] w0 W → W.heap[bx]? = some (.cells #[.int .u8 0, .int .i64 0, .int .i64 0, .string ⟨#[]⟩, .int .i64 0] 100 (0, 0))) := fun W hW => by
    rcases hW with h | h
    · rw [h.block bx HB.out.2.2.2 (by simp)]; exact HB.out.1
    · rw [h.block bx HB.out.2.2.2 (by simp; exact HRB.out.2.2)]; exact HB.out.1
  go_enter Tryz.func35, Tryz.ntmps35
  go_wp2_with (first
    | (go_at_call 56; refine (HE.out _ _ HFin.out.1).mono ?_; rintro e w' ⟨rfl, hw'⟩; have hw' := hw'.symm; subst hw')
    | (go_at_call 51; refine (HN.out _).mono ?_; rintro e w1 ⟨rfl, r1, f1⟩; rw [HRB.out.1] at r1 ⊢; have G1 : Hid (Rdr w1 rb t0 false ∧ Fr [rb] w0 w1) := ⟨r1, f1.mono (by simp)⟩; clear r1 f1)
    | (go_at_call 53; refine (H3.out _ _ G3.out.1).mono ?_; rintro e w4 ⟨rfl, r4, f4⟩
       have G4 : Hid (Rdr (w4.alloc (.cells #[.int .u8 65, .int .i64 p, .int .i64 num, .string ⟨#[]⟩, .int .i64 0] 100)) rb (ofL R) false ∧ Fr [rb] w0 (w4.alloc (.cells #[.int .u8 65, .int .i64 p, .int .i64 num, .string ⟨#[]⟩, .int .i64 0] 100)) ∧ (w4.alloc (.cells #[.int .u8 65, .int .i64 p, .int .i64 num, .string ⟨#[]⟩, .int .i64 0] 100)).heap[w4.heap.size]? = some (.cells #[.int .u8 65, .int .i64 p, .int .i64 num, .string ⟨#[]⟩, .int .i64 0] 100 (0, 0)) ∧ bx < w4.heap.size ∧ w.heap.size ≤ w4.heap.size) := (by
         have f04 : Fr [rb] w0 w4 := G3.out.2.trans f4 (fun k hk => Or.inl hk)
         exact ⟨rdr_fr r4 ((Fr.refl _ _).alloc _), f04.alloc _, heap_alloc_new w4 _, Nat.lt_of_lt_of_le HB.out.2.2.2 f04.size, Nat.le_trans HB.out.2.1.size f04.size⟩)
       clear r4 f4;
       have HFin : Hid (Rdr (w4.alloc (.cells #[.int .u8 65, .int .i64 p, .int .i64 num, .string ⟨#[]⟩, .int .i64 0] 100)) rb (ofL []) false ∧ (w4.alloc (.cells #[.int .u8 65, .int .i64 p, .int .i64 num, .string ⟨#[]⟩, .int .i64 0] 100)).heap[w4.heap.size]? = some (.cells #[.int .u8 65, .int .i64 p, .int .i64 num, .string ⟨#[]⟩, .int .i64 0] 100 (0, 0)) ∧ (w4.alloc (.cells #[.int .u8 65, .int .i64 p, .int .i64 num, .string ⟨#[]⟩, .int .i64 0] 100)).heap[bx]? = some (.cells #[.int .u8 0, .int .i64 0, .int .i64 0, .string ⟨#[]⟩, .int .i64 0] 100 (0, 0)) ∧ Fr [] w (w4.alloc (.cells #[.int .u8 65, .int .i64 p, .int .i64 num, .string ⟨#[]⟩, .int .i64 0] 100))) := ⟨(by have := G4.out.1; rw [← HRR.out] at this; exact this), G4.out.2.2.1, HZ.out _ (Or.inr G4.out.2.1), HB.out.2.1.trans G4.out.2.1 (fun k hk => Or.inr (by simp at hk; subst hk; exact HRB.out.2.1))⟩;
       have hbs := HFin.out.2.1;
       have hz := HFin.out.2.2.1;
       have u0 : (w4.alloc (.cells #[.int .u8 65, .int .i64 p, .int .i64 num, .string ⟨#[]⟩, .int .i64 0] 100)).cell? ⟨w4.heap.size, 0, none⟩ = some (.int .u8 65) := (by rw [cell_of hbs]; rfl);
       have u1 : (w4.alloc (.cells #[.int .u8 65, .int .i64 p, .int .i64 num, .string ⟨#[]⟩, .int .i64 0] 100)).cell? ⟨w4.heap.size, 1, none⟩ = some (.int .i64 p) := (by rw [cell_of hbs]; rfl);
       have u2 : (w4.alloc (.cells #[.int .u8 65, .int .i64 p, .int .i64 num, .string ⟨#[]⟩, .int .i64 0] 100)).cell? ⟨w4.heap.size, 2, none⟩ = some (.int .i64 num) := (by rw [cell_of hbs]; rfl);
       have u3 : (w4.alloc (.cells #[.int .u8 65, .int .i64 p, .int .i64 num, .string ⟨#[]⟩, .int .i64 0] 100)).cell? ⟨w4.heap.size, 3, none⟩ = some (.string ⟨#[]⟩) := (by rw [cell_of hbs]; rfl);
       have u4 : (w4.alloc (.cells #[.int .u8 65, .int .i64 p, .int .i64 num, .string ⟨#[]⟩, .int .i64 0] 100)).cell? ⟨w4.heap.size, 4, none⟩ = some (.int .i64 0) := (by rw [cell_of hbs]; rfl);
       have y0 : (w4.alloc (.cells #[.int .u8 65, .int .i64 p, .int .i64 num, .string ⟨#[]⟩, .int .i64 0] 100)).cell? ⟨bx, 0, none⟩ = some (.int .u8 0) := (by rw [cell_of hz]; rfl);
       have y1 : (w4.alloc (.cells #[.int .u8 65, .int .i64 p, .int .i64 num, .string ⟨#[]⟩, .int .i64 0] 100)).cell? ⟨bx, 1, none⟩ = some (.int .i64 0) := (by rw [cell_of hz]; rfl);
       have y2 : (w4.alloc (.cells #[.int .u8 65, .int .i64 p, .int .i64 num, .string ⟨#[]⟩, .int .i64 0] 100)).cell? ⟨bx, 2, none⟩ = some (.int .i64 0) := (by rw [cell_of hz]; rfl);
       have y3 : (w4.alloc (.cells #[.int .u8 65, .int .i64 p, .int .i64 num, .string ⟨#[]⟩, .int .i64 0] 100)).cell? ⟨bx, 3, none⟩ = some (.string ⟨#[]⟩) := (by rw [cell_of hz]; rfl);
       have y4 : (w4.alloc (.cells #[.int .u8 65, .int .i64 p, .int .i64 num, .string ⟨#[]⟩, .int .i64 0] 100)).cell? ⟨bx, 4, none⟩ = some (.int .i64 0) := (by rw [cell_of hz]; rfl);
       have z0 := froz_of hz 0;
       have z1 := froz_of hz 1;
       have z2 := froz_of hz 2;
       have z3 := froz_of hz 3;
       have z4 := froz_of hz 4;
       clear hbs hz)
    | (go_at_call 52; refine (H2.out _ _ G2.out.1).mono ?_; rintro e w3 ⟨rfl, r3, f3⟩; have G3 : Hid (Rdr w3 rb t2 false ∧ Fr [rb] w0 w3) := ⟨r3, G2.out.2.trans f3 (fun k hk => Or.inl hk)⟩; clear r3 f3)
    | (go_at_call 52; refine (H1.out _ _ G1.out.1).mono ?_; rintro e w2 ⟨rfl, r2, f2⟩; have G2 : Hid (Rdr w2 rb t1 false ∧ Fr [rb] w0 w2) := ⟨r2, G1.out.2.trans f2 (fun k hk => Or.inl hk)⟩; clear r2 f2))
  refine bodyPost_ret (v := .tuple #[.agg #[.int .u8 65, .int .i64 p, .int .i64 num, .string ⟨#[]⟩, .int .i64 0], .bool true]) ?_ rfl ⟨rfl, ?_⟩
  · rw [results_cell_tmp rfl]
    go_simp
  · have hbw : w.heap.size ≤ bx := Nat.le_of_eq HB.out.2.2.1
    exact ((((HFin.out.2.2.2.setCell _ (Or.inr hbw)).setCell _ (Or.inr hbw)).setCell _ (Or.inr hbw)).setCell _ (Or.inr hbw)).setCell _ (Or.inr hbw)

set_option maxRecDepth 100000 in
set_option maxHeartbeats 3200000 in
theorem pl_data (p : Nat) (num : Int) (tx : List UInt8) (w : World) (hp : p < 3) (hnum : 0 ≤ num ∧ num < 4294967296) (htx : tx.length ≤ 900000) :
    Calls Tryz.prog 35 #[.string (ofL (lhead 68 p num ++ tx))] w fun e w' => e = .returned (.tuple #[.agg #[.int .u8 68, .int .i64 p, .int .i64 num, .string (ofL tx), .int .i64 0], .bool true]) ∧ Fr [] w w' := by
  obtain ⟨R, hR⟩ : ∃ R, ([] ++ tx : List UInt8) = R := ⟨_, rfl⟩
  have hRt : tx = R := by simpa using hR
  rw [show ofL tx = ofL R by rw [hRt]]
  have HRR : Hid (([] ++ tx : List UInt8) = R) := hR
  have hRl : R.length ≤ 900000 := by rw [← hR]; simpa using htx
  have e0 : lhead 68 p num ++ tx = 68 :: byt (p : Int) :: ((n4 num).list' ++ R) := by rw [← hR]; simp [lhead]
  rw [e0]
  clear hR hRt
  have HN : Hid (∀ W, Calls Tryz.prog 51 #[.string (ofL (68 :: byt (p : Int) :: ((n4 num).list' ++ R)))] W fun e w' => e = .returned (.pointer (some ⟨W.heap.size, 0, none⟩)) ∧ Rdr w' W.heap.size (ofL (68 :: byt (p : Int) :: ((n4 num).list' ++ R))) false ∧ Fr [] W w') := fun W => newReader_any _ W
  have H1 : Hid (∀ W rb, Rdr W rb (ofL (68 :: byt (p : Int) :: ((n4 num).list' ++ R))) false → Calls Tryz.prog 52 #[.pointer (some ⟨rb, 0, none⟩)] W fun e w' => e = .returned (.int .i64 68) ∧ Rdr w' rb (ofL (byt (p : Int) :: ((n4 num).list' ++ R))) false ∧ Fr [rb] W w') := fun W rb h => rd_byte rb 68 _ W h (by simp [B4.list']; omega)
  have H2 : Hid (∀ W rb, Rdr W rb (ofL (byt (p : Int) :: ((n4 num).list' ++ R))) false → Calls Tryz.prog 52 #[.pointer (some ⟨rb, 0, none⟩)] W fun e w' => e = .returned (.int .i64 (p : Int)) ∧ Rdr w' rb (ofL ((n4 num).list' ++ R)) false ∧ Fr [rb] W w') := fun W rb h => by
    have := rd_byte rb (byt (p : Int)) _ W h (by simp [B4.list']; omega)
    rw [← byt_eq, show (p : Int) % 256 = (p : Int) by omega] at this
    exact this
  have H3 : Hid (∀ W rb, Rdr W rb (ofL ((n4 num).list' ++ R)) false → Calls Tryz.prog 53 #[.pointer (some ⟨rb, 0, none⟩)] W fun e w' => e = .returned (.int .i64 num) ∧ Rdr w' rb (ofL R) false ∧ Fr [rb] W w') := fun W rb h => rd_num rb num hnum R W h (by omega)
  have HE : Hid (∀ W rb, Rdr W rb (ofL []) false → Calls Tryz.prog 56 #[.pointer (some ⟨rb, 0, none⟩)] W fun e w' => e = .returned (.bool true) ∧ w' = W) := fun W rb h => ended_any rb _ _ W h
  have HLf : Hid (∀ W rb, Rdr W rb (ofL R) false → Calls Tryz.prog 55 #[.pointer (some ⟨rb, 0, none⟩)] W fun e w' => e = .returned (.int .i64 R.length) ∧ w' = W) := fun W rb h => rd_left rb R W h
  have HTx : Hid (∀ W rb, Rdr W rb (ofL R) false → Calls Tryz.prog 54 #[.pointer (some ⟨rb, 0, none⟩), .int .i64 R.length] W fun e w' => e = .returned (.string (ofL R)) ∧ Rdr w' rb (ofL []) false ∧ Fr [rb] W w') := fun W rb h => rd_text rb R W h (by omega)

  obtain ⟨t0, ht0⟩ : ∃ t, ofL (68 :: byt (p : Int) :: ((n4 num).list' ++ R)) = t := ⟨_, rfl⟩
  obtain ⟨t1, ht1⟩ : ∃ t, ofL (byt (p : Int) :: ((n4 num).list' ++ R)) = t := ⟨_, rfl⟩
  obtain ⟨t2, ht2⟩ : ∃ t, ofL ((n4 num).list' ++ R) = t := ⟨_, rfl⟩
  rw [ht0] at HN H1 ⊢
  rw [ht1] at H1 H2
  rw [ht2] at H2 H3
  obtain ⟨w0, hw0⟩ : ∃ w0, w.alloc (.cells #[.int .u8 0, .int .i64 0, .int .i64 0, .string ⟨#[]⟩, .int .i64 0] 100) = w0 := ⟨_, rfl⟩
  obtain ⟨bx, hbx⟩ : ∃ bx, w.heap.size = bx := ⟨_, rfl⟩
  have b0 : w0.heap[bx]? = some (.cells #[.int .u8 0, .int .i64 0, .int .i64 0, .string ⟨#[]⟩, .int .i64 0] 100 (0, 0)) := by rw [← hw0, ← hbx]; exact heap_alloc_new w _
  have lb0 : bx < w0.heap.size := (Array.getElem?_eq_some_iff.1 b0).1
  have HB : Hid (w0.heap[bx]? = some (.cells #[.int .u8 0, .int .i64 0, .int .i64 0, .string ⟨#[]⟩, .int .i64 0] 100 (0, 0)) ∧ Fr [] w w0 ∧ w.heap.size = bx ∧ bx < w0.heap.size) := ⟨b0, by rw [← hw0]; exact (Fr.refl _ _).alloc _, hbx, lb0⟩
  have hpz : ¬ (3 : Int) ≤ (p : Int) := by omega
  have hw0' := hw0
  clear hw0 b0 ht0 ht1 ht2 lb0 e0
  obtain ⟨rb, hrb⟩ : ∃ rb, w0.heap.size = rb := ⟨_, rfl⟩
  have HRB : Hid (w0.heap.size = rb ∧ w.heap.size ≤ rb ∧ bx ≠ rb) := ⟨hrb, by rw [← hrb]; exact HB.out.2.1.size, by have := HB.out.2.2.2; omega⟩
  have HZ : Hid (∀ W, Fr [] w0 W ∨ Fr [rb] w0 W → W.heap[bx]? = some (.cells #[.int .u8 0, .int .i64 0, .int .i64 0, .string ⟨#[]⟩, .int .i64 0] 100 (0, 0))) := fun W hW => by
    rcases hW with h | h
    · rw [h.block bx HB.out.2.2.2 (by simp)]; exact HB.out.1
    · rw [h.block bx HB.out.2.2.2 (by simp; exact HRB.out.2.2)]; exact HB.out.1
  go_enter Tryz.func35, Tryz.ntmps35
  go_wp2_with (first
    | (go_at_call 55; refine (HLf.out _ _ G4.out.1).mono ?_; rintro e w' ⟨rfl, hw'⟩; have hw' := hw'.symm; subst hw')
    | (go_at_call 54; refine (HTx.out _ _ G4.out.1).mono ?_; rintro e w6 ⟨rfl, r6, f6⟩;
       have f46 : Fr [rb] w0 w6 := G4.out.2.1.trans f6 (fun k hk => Or.inl hk);
       have hne : w4.heap.size ≠ rb := (fun e => (by have h1 := G4.out.1; have h2 := G4.out.2.2.1; unfold Rdr at h1; rw [e, h1] at h2; simp at h2));
       have hb6 : w6.heap[w4.heap.size]? = some (.cells #[.int .u8 68, .int .i64 p, .int .i64 num, .string ⟨#[]⟩, .int .i64 0] 100 (0, 0)) := (by rw [f6.block w4.heap.size (Array.getElem?_eq_some_iff.1 G4.out.2.2.1).1 (by simp; exact hne)]; exact G4.out.2.2.1);
       have s3 : w6.cell? ⟨w4.heap.size, 3, none⟩ = some (.string ⟨#[]⟩) := (by rw [cell_of hb6]; rfl);
       have s4 : w6.cell? ⟨w4.heap.size, 4, none⟩ = some (.int .i64 0) := (by rw [cell_of hb6]; rfl);
       have f3' := froz_of hb6 3;
       have f4' := froz_of hb6 4;
       have hbxs : bx ≠ w4.heap.size := (by have := G4.out.2.2.2.1; omega);
       have HFin : Hid (Rdr (w6.setCell ⟨w4.heap.size, 3, none⟩ (.string (ofL R))) rb (ofL []) false ∧ (w6.setCell ⟨w4.heap.size, 3, none⟩ (.string (ofL R))).heap[w4.heap.size]? = some (.cells #[.int .u8 68, .int .i64 p, .int .i64 num, .string (ofL R), .int .i64 0] 100 (0, 0)) ∧ (w6.setCell ⟨w4.heap.size, 3, none⟩ (.string (ofL R))).heap[bx]? = some (.cells #[.int .u8 0, .int .i64 0, .int .i64 0, .string ⟨#[]⟩, .int .i64 0] 100 (0, 0)) ∧ Fr [] w (w6.setCell ⟨w4.heap.size, 3, none⟩ (.string (ofL R)))) := ⟨(by unfold Rdr at r6 ⊢; rw [heap_setCell_other _ _ _ _ (Ne.symm hne)]; exact r6), (by rw [heap_setCell_same _ _ _ _ _ _ hb6]; rfl), (by rw [heap_setCell_other _ _ _ _ hbxs]; exact HZ.out _ (Or.inr f46)), (HB.out.2.1.trans f46 (fun k hk => Or.inr (by simp at hk; subst hk; exact HRB.out.2.1))).setCell _ (Or.inr G4.out.2.2.2.2)⟩;
       have hbs := HFin.out.2.1;
       have hz := HFin.out.2.2.1;
       have u0 : (w6.setCell ⟨w4.heap.size, 3, none⟩ (.string (ofL R))).cell? ⟨w4.heap.size, 0, none⟩ = some (.int .u8 68) := (by rw [cell_of hbs]; rfl);
       have u1 : (w6.setCell ⟨w4.heap.size, 3, none⟩ (.string (ofL R))).cell? ⟨w4.heap.size, 1, none⟩ = some (.int .i64 p) := (by rw [cell_of hbs]; rfl);
       have u2 : (w6.setCell ⟨w4.heap.size, 3, none⟩ (.string (ofL R))).cell? ⟨w4.heap.size, 2, none⟩ = some (.int .i64 num) := (by rw [cell_of hbs]; rfl);
       have u3 : (w6.setCell ⟨w4.heap.size, 3, none⟩ (.string (ofL R))).cell? ⟨w4.heap.size, 3, none⟩ = some (.string (ofL R)) := (by rw [cell_of hbs]; rfl);
       have u4 : (w6.setCell ⟨w4.heap.size, 3, none⟩ (.string (ofL R))).cell? ⟨w4.heap.size, 4, none⟩ = some (.int .i64 0) := (by rw [cell_of hbs]; rfl);
       have y0 : (w6.setCell ⟨w4.heap.size, 3, none⟩ (.string (ofL R))).cell? ⟨bx, 0, none⟩ = some (.int .u8 0) := (by rw [cell_of hz]; rfl);
       have y1 : (w6.setCell ⟨w4.heap.size, 3, none⟩ (.string (ofL R))).cell? ⟨bx, 1, none⟩ = some (.int .i64 0) := (by rw [cell_of hz]; rfl);
       have y2 : (w6.setCell ⟨w4.heap.size, 3, none⟩ (.string (ofL R))).cell? ⟨bx, 2, none⟩ = some (.int .i64 0) := (by rw [cell_of hz]; rfl);
       have y3 : (w6.setCell ⟨w4.heap.size, 3, none⟩ (.string (ofL R))).cell? ⟨bx, 3, none⟩ = some (.string ⟨#[]⟩) := (by rw [cell_of hz]; rfl);
       have y4 : (w6.setCell ⟨w4.heap.size, 3, none⟩ (.string (ofL R))).cell? ⟨bx, 4, none⟩ = some (.int .i64 0) := (by rw [cell_of hz]; rfl);
       have z0 := froz_of hz 0;
       have z1 := froz_of hz 1;
       have z2 := froz_of hz 2;
       have z3 := froz_of hz 3;
       have z4 := froz_of hz 4;
       clear hbs hz;
       clear r6 f6 f46 hb6 hne hbxs)
    | (go_at_call 56; refine (HE.out _ _ HFin.out.1).mono ?_; rintro e w' ⟨rfl, hw'⟩; have hw' := hw'.symm; subst hw')
    | (go_at_call 51; refine (HN.out _).mono ?_; rintro e w1 ⟨rfl, r1, f1⟩; rw [HRB.out.1] at r1 ⊢; have G1 : Hid (Rdr w1 rb t0 false ∧ Fr [rb] w0 w1) := ⟨r1, f1.mono (by simp)⟩; clear r1 f1)
    | (go_at_call 53; refine (H3.out _ _ G3.out.1).mono ?_; rintro e w4 ⟨rfl, r4, f4⟩
       have G4 : Hid (Rdr (w4.alloc (.cells #[.int .u8 68, .int .i64 p, .int .i64 num, .string ⟨#[]⟩, .int .i64 0] 100)) rb (ofL R) false ∧ Fr [rb] w0 (w4.alloc (.cells #[.int .u8 68, .int .i64 p, .int .i64 num, .string ⟨#[]⟩, .int .i64 0] 100)) ∧ (w4.alloc (.cells #[.int .u8 68, .int .i64 p, .int .i64 num, .string ⟨#[]⟩, .int .i64 0] 100)).heap[w4.heap.size]? = some (.cells #[.int .u8 68, .int .i64 p, .int .i64 num, .string ⟨#[]⟩, .int .i64 0] 100 (0, 0)) ∧ bx < w4.heap.size ∧ w.heap.size ≤ w4.heap.size) := (by
         have f04 : Fr [rb] w0 w4 := G3.out.2.trans f4 (fun k hk => Or.inl hk)
         exact ⟨rdr_fr r4 ((Fr.refl _ _).alloc _), f04.alloc _, heap_alloc_new w4 _, Nat.lt_of_lt_of_le HB.out.2.2.2 f04.size, Nat.le_trans HB.out.2.1.size f04.size⟩)
       clear r4 f4)
    | (go_at_call 52; refine (H2.out _ _ G2.out.1).mono ?_; rintro e w3 ⟨rfl, r3, f3⟩; have G3 : Hid (Rdr w3 rb t2 false ∧ Fr [rb] w0 w3) := ⟨r3, G2.out.2.trans f3 (fun k hk => Or.inl hk)⟩; clear r3 f3)
    | (go_at_call 52; refine (H1.out _ _ G1.out.1).mono ?_; rintro e w2 ⟨rfl, r2, f2⟩; have G2 : Hid (Rdr w2 rb t1 false ∧ Fr [rb] w0 w2) := ⟨r2, G1.out.2.trans f2 (fun k hk => Or.inl hk)⟩; clear r2 f2))
  refine bodyPost_ret (v := .tuple #[.agg #[.int .u8 68, .int .i64 p, .int .i64 num, .string (ofL R), .int .i64 0], .bool true]) ?_ rfl ⟨rfl, ?_⟩
  · rw [results_cell_tmp rfl]
    go_simp
  · have hbw : w.heap.size ≤ bx := Nat.le_of_eq HB.out.2.2.1
    exact ((((HFin.out.2.2.2.setCell _ (Or.inr hbw)).setCell _ (Or.inr hbw)).setCell _ (Or.inr hbw)).setCell _ (Or.inr hbw)).setCell _ (Or.inr hbw)

set_option maxRecDepth 100000 in
set_option maxHeartbeats 3200000 in
theorem pl_has (p : Nat) (num : Int) (g : Int) (w : World) (hp : p < 3) (hnum : 0 ≤ num ∧ num < 4294967296) (hg : 0 ≤ g ∧ g < 4294967296) :
    Calls Tryz.prog 35 #[.string (ofL (lhead 72 p num ++ (n4 g).list'))] w fun e w' => e = .returned (.tuple #[.agg #[.int .u8 72, .int .i64 p, .int .i64 num, .string ⟨#[]⟩, .int .i64 g], .bool true]) ∧ Fr [] w w' := by
  obtain ⟨R, hR⟩ : ∃ R, ([] ++ (n4 g).list' : List UInt8) = R := ⟨_, rfl⟩
  have HRR : Hid (([] ++ (n4 g).list' : List UInt8) = R) := hR
  have hRl : R.length ≤ 900000 := by rw [← hR]; simp [B4.list']
  have e0 : lhead 72 p num ++ (n4 g).list' = 72 :: byt (p : Int) :: ((n4 num).list' ++ R) := by rw [← hR]; simp [lhead]
  rw [e0]
  clear hR
  have HN : Hid (∀ W, Calls Tryz.prog 51 #[.string (ofL (72 :: byt (p : Int) :: ((n4 num).list' ++ R)))] W fun e w' => e = .returned (.pointer (some ⟨W.heap.size, 0, none⟩)) ∧ Rdr w' W.heap.size (ofL (72 :: byt (p : Int) :: ((n4 num).list' ++ R))) false ∧ Fr [] W w') := fun W => newReader_any _ W
  have H1 : Hid (∀ W rb, Rdr W rb (ofL (72 :: byt (p : Int) :: ((n4 num).list' ++ R))) false → Calls Tryz.prog 52 #[.pointer (some ⟨rb, 0, none⟩)] W fun e w' => e = .returned (.int .i64 72) ∧ Rdr w' rb (ofL (byt (p : Int) :: ((n4 num).list' ++ R))) false ∧ Fr [rb] W w') := fun W rb h => rd_byte rb 72 _ W h (by simp [B4.list']; omega)
  have H2 : Hid (∀ W rb, Rdr W rb (ofL (byt (p : Int) :: ((n4 num).list' ++ R))) false → Calls Tryz.prog 52 #[.pointer (some ⟨rb, 0, none⟩)] W fun e w' => e = .returned (.int .i64 (p : Int)) ∧ Rdr w' rb (ofL ((n4 num).list' ++ R)) false ∧ Fr [rb] W w') := fun W rb h => by
    have := rd_byte rb (byt (p : Int)) _ W h (by simp [B4.list']; omega)
    rw [← byt_eq, show (p : Int) % 256 = (p : Int) by omega] at this
    exact this
  have H3 : Hid (∀ W rb, Rdr W rb (ofL ((n4 num).list' ++ R)) false → Calls Tryz.prog 53 #[.pointer (some ⟨rb, 0, none⟩)] W fun e w' => e = .returned (.int .i64 num) ∧ Rdr w' rb (ofL R) false ∧ Fr [rb] W w') := fun W rb h => rd_num rb num hnum R W h (by omega)
  have HE : Hid (∀ W rb, Rdr W rb (ofL []) false → Calls Tryz.prog 56 #[.pointer (some ⟨rb, 0, none⟩)] W fun e w' => e = .returned (.bool true) ∧ w' = W) := fun W rb h => ended_any rb _ _ W h
  have H5 : Hid (∀ W rb, Rdr W rb (ofL R) false → Calls Tryz.prog 53 #[.pointer (some ⟨rb, 0, none⟩)] W fun e w' => e = .returned (.int .i64 g) ∧ Rdr w' rb (ofL []) false ∧ Fr [rb] W w') := fun W rb h => by
    rw [← HRR.out, List.nil_append] at h
    exact rd_num rb g hg [] W (by rw [List.append_nil]; exact h) (by simp)

  obtain ⟨t0, ht0⟩ : ∃ t, ofL (72 :: byt (p : Int) :: ((n4 num).list' ++ R)) = t := ⟨_, rfl⟩
  obtain ⟨t1, ht1⟩ : ∃ t, ofL (byt (p : Int) :: ((n4 num).list' ++ R)) = t := ⟨_, rfl⟩
  obtain ⟨t2, ht2⟩ : ∃ t, ofL ((n4 num).list' ++ R) = t := ⟨_, rfl⟩
  rw [ht0] at HN H1 ⊢
  rw [ht1] at H1 H2
  rw [ht2] at H2 H3
  obtain ⟨w0, hw0⟩ : ∃ w0, w.alloc (.cells #[.int .u8 0, .int .i64 0, .int .i64 0, .string ⟨#[]⟩, .int .i64 0] 100) = w0 := ⟨_, rfl⟩
  obtain ⟨bx, hbx⟩ : ∃ bx, w.heap.size = bx := ⟨_, rfl⟩
  have b0 : w0.heap[bx]? = some (.cells #[.int .u8 0, .int .i64 0, .int .i64 0, .string ⟨#[]⟩, .int .i64 0] 100 (0, 0)) := by rw [← hw0, ← hbx]; exact heap_alloc_new w _
  have lb0 : bx < w0.heap.size := (Array.getElem?_eq_some_iff.1 b0).1
  have HB : Hid (w0.heap[bx]? = some (.cells #[.int .u8 0, .int .i64 0, .int .i64 0, .string ⟨#[]⟩, .int .i64 0] 100 (0, 0)) ∧ Fr [] w w0 ∧ w.heap.size = bx ∧ bx < w0.heap.size) := ⟨b0, by rw [← hw0]; exact (Fr.refl _ _).alloc _, hbx, lb0⟩
  have hpz : ¬ (3 : Int) ≤ (p : Int) := by omega
  have hw0' := hw0
  clear hw0 b0 ht0 ht1 ht2 lb0 e0
  obtain ⟨rb, hrb⟩ : ∃ rb, w0.heap.size = rb := ⟨_, rfl⟩
  have HRB : Hid (w0.heap.size = rb ∧ w.heap.size ≤ rb ∧ bx ≠ rb) := ⟨hrb, by rw [← hrb]; exact HB.out.2.1.size, by have := HB.out.2.2.2; omega⟩
  have HZ : Hid (∀ W, Fr [] w0 W ∨ Fr [rb] w0 W → W.heap[bx]? = some (.cells #[.int .u8 0, .int .i64 0, .int .i64 0, .string ⟨#[]⟩, .int .i64 0] 100 (0, 0))) := fun W hW => by
    rcases hW with h | h
    · rw [h.block bx HB.out.2.2.2 (by simp)]; exact HB.out.1
    · rw [h.block bx HB.out.2.2.2 (by simp; exact HRB.out.2.2)]; exact HB.out.1
  go_enter Tryz.func35, Tryz.ntmps35
  go_wp2_with (first
    | (go_at_call 53; refine (H5.out _ _ G4.out.1).mono ?_; rintro e w6 ⟨rfl, r6, f6⟩;
       have f46 : Fr [rb] w0 w6 := G4.out.2.1.trans f6 (fun k hk => Or.inl hk);
       have hne : w4.heap.size ≠ rb := (fun e => (by have h1 := G4.out.1; have h2 := G4.out.2.2.1; unfold Rdr at h1; rw [e, h1] at h2; simp at h2));
       have hb6 : w6.heap[w4.heap.size]? = some (.cells #[.int .u8 72, .int .i64 p, .int .i64 num, .string ⟨#[]⟩, .int .i64 0] 100 (0, 0)) := (by rw [f6.block w4.heap.size (Array.getElem?_eq_some_iff.1 G4.out.2.2.1).1 (by simp; exact hne)]; exact G4.out.2.2.1);
       have s3 : w6.cell? ⟨w4.heap.size, 3, none⟩ = some (.string ⟨#[]⟩) := (by rw [cell_of hb6]; rfl);
       have s4 : w6.cell? ⟨w4.heap.size, 4, none⟩ = some (.int .i64 0) := (by rw [cell_of hb6]; rfl);
       have f3' := froz_of hb6 3;
       have f4' := froz_of hb6 4;
       have hbxs : bx ≠ w4.heap.size := (by have := G4.out.2.2.2.1; omega);
       have HFin : Hid (Rdr (w6.setCell ⟨w4.heap.size, 4, none⟩ (.int .i64 g)) rb (ofL []) false ∧ (w6.setCell ⟨w4.heap.size, 4, none⟩ (.int .i64 g)).heap[w4.heap.size]? = some (.cells #[.int .u8 72, .int .i64 p, .int .i64 num, .string ⟨#[]⟩, .int .i64 g] 100 (0, 0)) ∧ (w6.setCell ⟨w4.heap.size, 4, none⟩ (.int .i64 g)).heap[bx]? = some (.cells #[.int .u8 0, .int .i64 0, .int .i64 0, .string ⟨#[]⟩, .int .i64 0] 100 (0, 0)) ∧ Fr [] w (w6.setCell ⟨w4.heap.size, 4, none⟩ (.int .i64 g))) := ⟨(by unfold Rdr at r6 ⊢; rw [heap_setCell_other _ _ _ _ (Ne.symm hne)]; exact r6), (by rw [heap_setCell_same _ _ _ _ _ _ hb6]; rfl), (by rw [heap_setCell_other _ _ _ _ hbxs]; exact HZ.out _ (Or.inr f46)), (HB.out.2.1.trans f46 (fun k hk => Or.inr (by simp at hk; subst hk; exact HRB.out.2.1))).setCell _ (Or.inr G4.out.2.2.2.2)⟩;
       have hbs := HFin.out.2.1;
       have hz := HFin.out.2.2.1;
       have u0 : (w6.setCell ⟨w4.heap.size, 4, none⟩ (.int .i64 g)).cell? ⟨w4.heap.size, 0, none⟩ = some (.int .u8 72) := (by rw [cell_of hbs]; rfl);
       have u1 : (w6.setCell ⟨w4.heap.size, 4, none⟩ (.int .i64 g)).cell? ⟨w4.heap.size, 1, none⟩ = some (.int .i64 p) := (by rw [cell_of hbs]; rfl);
       have u2 : (w6.setCell ⟨w4.heap.size, 4, none⟩ (.int .i64 g)).cell? ⟨w4.heap.size, 2, none⟩ = some (.int .i64 num) := (by rw [cell_of hbs]; rfl);
       have u3 : (w6.setCell ⟨w4.heap.size, 4, none⟩ (.int .i64 g)).cell? ⟨w4.heap.size, 3, none⟩ = some (.string ⟨#[]⟩) := (by rw [cell_of hbs]; rfl);
       have u4 : (w6.setCell ⟨w4.heap.size, 4, none⟩ (.int .i64 g)).cell? ⟨w4.heap.size, 4, none⟩ = some (.int .i64 g) := (by rw [cell_of hbs]; rfl);
       have y0 : (w6.setCell ⟨w4.heap.size, 4, none⟩ (.int .i64 g)).cell? ⟨bx, 0, none⟩ = some (.int .u8 0) := (by rw [cell_of hz]; rfl);
       have y1 : (w6.setCell ⟨w4.heap.size, 4, none⟩ (.int .i64 g)).cell? ⟨bx, 1, none⟩ = some (.int .i64 0) := (by rw [cell_of hz]; rfl);
       have y2 : (w6.setCell ⟨w4.heap.size, 4, none⟩ (.int .i64 g)).cell? ⟨bx, 2, none⟩ = some (.int .i64 0) := (by rw [cell_of hz]; rfl);
       have y3 : (w6.setCell ⟨w4.heap.size, 4, none⟩ (.int .i64 g)).cell? ⟨bx, 3, none⟩ = some (.string ⟨#[]⟩) := (by rw [cell_of hz]; rfl);
       have y4 : (w6.setCell ⟨w4.heap.size, 4, none⟩ (.int .i64 g)).cell? ⟨bx, 4, none⟩ = some (.int .i64 0) := (by rw [cell_of hz]; rfl);
       have z0 := froz_of hz 0;
       have z1 := froz_of hz 1;
       have z2 := froz_of hz 2;
       have z3 := froz_of hz 3;
       have z4 := froz_of hz 4;
       clear hbs hz;
       clear r6 f6 f46 hb6 hne hbxs)
    | (go_at_call 56; refine (HE.out _ _ HFin.out.1).mono ?_; rintro e w' ⟨rfl, hw'⟩; have hw' := hw'.symm; subst hw')
    | (go_at_call 51; refine (HN.out _).mono ?_; rintro e w1 ⟨rfl, r1, f1⟩; rw [HRB.out.1] at r1 ⊢; have G1 : Hid (Rdr w1 rb t0 false ∧ Fr [rb] w0 w1) := ⟨r1, f1.mono (by simp)⟩; clear r1 f1)
    | (go_at_call 53; refine (H3.out _ _ G3.out.1).mono ?_; rintro e w4 ⟨rfl, r4, f4⟩
       have G4 : Hid (Rdr (w4.alloc (.cells #[.int .u8 72, .int .i64 p, .int .i64 num, .string ⟨#[]⟩, .int .i64 0] 100)) rb (ofL R) false ∧ Fr [rb] w0 (w4.alloc (.cells #[.int .u8 72, .int .i64 p, .int .i64 num, .string ⟨#[]⟩, .int .i64 0] 100)) ∧ (w4.alloc (.cells #[.int .u8 72, .int .i64 p, .int .i64 num, .string ⟨#[]⟩, .int .i64 0] 100)).heap[w4.heap.size]? = some (.cells #[.int .u8 72, .int .i64 p, .int .i64 num, .string ⟨#[]⟩, .int .i64 0] 100 (0, 0)) ∧ bx < w4.heap.size ∧ w.heap.size ≤ w4.heap.size) := (by
         have f04 : Fr [rb] w0 w4 := G3.out.2.trans f4 (fun k hk => Or.inl hk)
         exact ⟨rdr_fr r4 ((Fr.refl _ _).alloc _), f04.alloc _, heap_alloc_new w4 _, Nat.lt_of_lt_of_le HB.out.2.2.2 f04.size, Nat.le_trans HB.out.2.1.size f04.size⟩)
       clear r4 f4)
    | (go_at_call 52; refine (H2.out _ _ G2.out.1).mono ?_; rintro e w3 ⟨rfl, r3, f3⟩; have G3 : Hid (Rdr w3 rb t2 false ∧ Fr [rb] w0 w3) := ⟨r3, G2.out.2.trans f3 (fun k hk => Or.inl hk)⟩; clear r3 f3)
    | (go_at_call 52; refine (H1.out _ _ G1.out.1).mono ?_; rintro e w2 ⟨rfl, r2, f2⟩; have G2 : Hid (Rdr w2 rb t1 false ∧ Fr [rb] w0 w2) := ⟨r2, G1.out.2.trans f2 (fun k hk => Or.inl hk)⟩; clear r2 f2))
  refine bodyPost_ret (v := .tuple #[.agg #[.int .u8 72, .int .i64 p, .int .i64 num, .string ⟨#[]⟩, .int .i64 g], .bool true]) ?_ rfl ⟨rfl, ?_⟩
  · rw [results_cell_tmp rfl]
    go_simp
  · have hbw : w.heap.size ≤ bx := Nat.le_of_eq HB.out.2.2.1
    exact ((((HFin.out.2.2.2.setCell _ (Or.inr hbw)).setCell _ (Or.inr hbw)).setCell _ (Or.inr hbw)).setCell _ (Or.inr hbw)).setCell _ (Or.inr hbw)

set_option maxRecDepth 100000 in
set_option maxHeartbeats 3200000 in
theorem pl_got (p : Nat) (num : Int) (g : Int) (w : World) (hp : p < 3) (hnum : 0 ≤ num ∧ num < 4294967296) (hg : 0 ≤ g ∧ g < 4294967296) :
    Calls Tryz.prog 35 #[.string (ofL (lhead 71 p num ++ (n4 g).list'))] w fun e w' => e = .returned (.tuple #[.agg #[.int .u8 71, .int .i64 p, .int .i64 num, .string ⟨#[]⟩, .int .i64 g], .bool true]) ∧ Fr [] w w' := by
  obtain ⟨R, hR⟩ : ∃ R, ([] ++ (n4 g).list' : List UInt8) = R := ⟨_, rfl⟩
  have HRR : Hid (([] ++ (n4 g).list' : List UInt8) = R) := hR
  have hRl : R.length ≤ 900000 := by rw [← hR]; simp [B4.list']
  have e0 : lhead 71 p num ++ (n4 g).list' = 71 :: byt (p : Int) :: ((n4 num).list' ++ R) := by rw [← hR]; simp [lhead]
  rw [e0]
  clear hR
  have HN : Hid (∀ W, Calls Tryz.prog 51 #[.string (ofL (71 :: byt (p : Int) :: ((n4 num).list' ++ R)))] W fun e w' => e = .returned (.pointer (some ⟨W.heap.size, 0, none⟩)) ∧ Rdr w' W.heap.size (ofL (71 :: byt (p : Int) :: ((n4 num).list' ++ R))) false ∧ Fr [] W w') := fun W => newReader_any _ W
  have H1 : Hid (∀ W rb, Rdr W rb (ofL (71 :: byt (p : Int) :: ((n4 num).list' ++ R))) false → Calls Tryz.prog 52 #[.pointer (some ⟨rb, 0, none⟩)] W fun e w' => e = .returned (.int .i64 71) ∧ Rdr w' rb (ofL (byt (p : Int) :: ((n4 num).list' ++ R))) false ∧ Fr [rb] W w') := fun W rb h => rd_byte rb 71 _ W h (by simp [B4.list']; omega)
  have H2 : Hid (∀ W rb, Rdr W rb (ofL (byt (p : Int) :: ((n4 num).list' ++ R))) false → Calls Tryz.prog 52 #[.pointer (some ⟨rb, 0, none⟩)] W fun e w' => e = .returned (.int .i64 (p : Int)) ∧ Rdr w' rb (ofL ((n4 num).list' ++ R)) false ∧ Fr [rb] W w') := fun W rb h => by
    have := rd_byte rb (byt (p : Int)) _ W h (by simp [B4.list']; omega)
    rw [← byt_eq, show (p : Int) % 256 = (p : Int) by omega] at this
    exact this
  have H3 : Hid (∀ W rb, Rdr W rb (ofL ((n4 num).list' ++ R)) false → Calls Tryz.prog 53 #[.pointer (some ⟨rb, 0, none⟩)] W fun e w' => e = .returned (.int .i64 num) ∧ Rdr w' rb (ofL R) false ∧ Fr [rb] W w') := fun W rb h => rd_num rb num hnum R W h (by omega)
  have HE : Hid (∀ W rb, Rdr W rb (ofL []) false → Calls Tryz.prog 56 #[.pointer (some ⟨rb, 0, none⟩)] W fun e w' => e = .returned (.bool true) ∧ w' = W) := fun W rb h => ended_any rb _ _ W h
  have H5 : Hid (∀ W rb, Rdr W rb (ofL R) false → Calls Tryz.prog 53 #[.pointer (some ⟨rb, 0, none⟩)] W fun e w' => e = .returned (.int .i64 g) ∧ Rdr w' rb (ofL []) false ∧ Fr [rb] W w') := fun W rb h => by
    rw [← HRR.out, List.nil_append] at h
    exact rd_num rb g hg [] W (by rw [List.append_nil]; exact h) (by simp)

  obtain ⟨t0, ht0⟩ : ∃ t, ofL (71 :: byt (p : Int) :: ((n4 num).list' ++ R)) = t := ⟨_, rfl⟩
  obtain ⟨t1, ht1⟩ : ∃ t, ofL (byt (p : Int) :: ((n4 num).list' ++ R)) = t := ⟨_, rfl⟩
  obtain ⟨t2, ht2⟩ : ∃ t, ofL ((n4 num).list' ++ R) = t := ⟨_, rfl⟩
  rw [ht0] at HN H1 ⊢
  rw [ht1] at H1 H2
  rw [ht2] at H2 H3
  obtain ⟨w0, hw0⟩ : ∃ w0, w.alloc (.cells #[.int .u8 0, .int .i64 0, .int .i64 0, .string ⟨#[]⟩, .int .i64 0] 100) = w0 := ⟨_, rfl⟩
  obtain ⟨bx, hbx⟩ : ∃ bx, w.heap.size = bx := ⟨_, rfl⟩
  have b0 : w0.heap[bx]? = some (.cells #[.int .u8 0, .int .i64 0, .int .i64 0, .string ⟨#[]⟩, .int .i64 0] 100 (0, 0)) := by rw [← hw0, ← hbx]; exact heap_alloc_new w _
  have lb0 : bx < w0.heap.size := (Array.getElem?_eq_some_iff.1 b0).1
  have HB : Hid (w0.heap[bx]? = some (.cells #[.int .u8 0, .int .i64 0, .int .i64 0, .string ⟨#[]⟩, .int .i64 0] 100 (0, 0)) ∧ Fr [] w w0 ∧ w.heap.size = bx ∧ bx < w0.heap.size) := ⟨b0, by rw [← hw0]; exact (Fr.refl _ _).alloc _, hbx, lb0⟩
  have hpz : ¬ (3 : Int) ≤ (p : Int) := by omega
  have hw0' := hw0
  clear hw0 b0 ht0 ht1 ht2 lb0 e0
  obtain ⟨rb, hrb⟩ : ∃ rb, w0.heap.size = rb := ⟨_, rfl⟩
  have HRB : Hid (w0.heap.size = rb ∧ w.heap.size ≤ rb ∧ bx ≠ rb) := ⟨hrb, by rw [← hrb]; exact HB.out.2.1.size, by have := HB.out.2.2.2; omega⟩
  have HZ : Hid (∀ W, Fr [] w0 W ∨ Fr [rb] w0 W → W.heap[bx]? = some (.cells #[.int .u8 0, .int .i64 0, .int .i64 0, .string ⟨#[]⟩, .int .i64 0] 100 (0, 0))) := fun W hW => by
    rcases hW with h | h
    · rw [h.block bx HB.out.2.2.2 (by simp)]; exact HB.out.1
    · rw [h.block bx HB.out.2.2.2 (by simp; exact HRB.out.2.2)]; exact HB.out.1
  go_enter Tryz.func35, Tryz.ntmps35
  go_wp2_with (first
    | (go_at_call 53; refine (H5.out _ _ G4.out.1).mono ?_; rintro e w6 ⟨rfl, r6, f6⟩;
       have f46 : Fr [rb] w0 w6 := G4.out.2.1.trans f6 (fun k hk => Or.inl hk);
       have hne : w4.heap.size ≠ rb := (fun e => (by have h1 := G4.out.1; have h2 := G4.out.2.2.1; unfold Rdr at h1; rw [e, h1] at h2; simp at h2));
       have hb6 : w6.heap[w4.heap.size]? = some (.cells #[.int .u8 71, .int .i64 p, .int .i64 num, .string ⟨#[]⟩, .int .i64 0] 100 (0, 0)) := (by rw [f6.block w4.heap.size (Array.getElem?_eq_some_iff.1 G4.out.2.2.1).1 (by simp; exact hne)]; exact G4.out.2.2.1);
       have s3 : w6.cell? ⟨w4.heap.size, 3, none⟩ = some (.string ⟨#[]⟩) := (by rw [cell_of hb6]; rfl);
       have s4 : w6.cell? ⟨w4.heap.size, 4, none⟩ = some (.int .i64 0) := (by rw [cell_of hb6]; rfl);
       have f3' := froz_of hb6 3;
       have f4' := froz_of hb6 4;
       have hbxs : bx ≠ w4.heap.size := (by have := G4.out.2.2.2.1; omega);
       have HFin : Hid (Rdr (w6.setCell ⟨w4.heap.size, 4, none⟩ (.int .i64 g)) rb (ofL []) false ∧ (w6.setCell ⟨w4.heap.size, 4, none⟩ (.int .i64 g)).heap[w4.heap.size]? = some (.cells #[.int .u8 71, .int .i64 p, .int .i64 num, .string ⟨#[]⟩, .int .i64 g] 100 (0, 0)) ∧ (w6.setCell ⟨w4.heap.size, 4, none⟩ (.int .i64 g)).heap[bx]? = some (.cells #[.int .u8 0, .int .i64 0, .int .i64 0, .string ⟨#[]⟩, .int .i64 0] 100 (0, 0)) ∧ Fr [] w (w6.setCell ⟨w4.heap.size, 4, none⟩ (.int .i64 g))) := ⟨(by unfold Rdr at r6 ⊢; rw [heap_setCell_other _ _ _ _ (Ne.symm hne)]; exact r6), (by rw [heap_setCell_same _ _ _ _ _ _ hb6]; rfl), (by rw [heap_setCell_other _ _ _ _ hbxs]; exact HZ.out _ (Or.inr f46)), (HB.out.2.1.trans f46 (fun k hk => Or.inr (by simp at hk; subst hk; exact HRB.out.2.1))).setCell _ (Or.inr G4.out.2.2.2.2)⟩;
       have hbs := HFin.out.2.1;
       have hz := HFin.out.2.2.1;
       have u0 : (w6.setCell ⟨w4.heap.size, 4, none⟩ (.int .i64 g)).cell? ⟨w4.heap.size, 0, none⟩ = some (.int .u8 71) := (by rw [cell_of hbs]; rfl);
       have u1 : (w6.setCell ⟨w4.heap.size, 4, none⟩ (.int .i64 g)).cell? ⟨w4.heap.size, 1, none⟩ = some (.int .i64 p) := (by rw [cell_of hbs]; rfl);
       have u2 : (w6.setCell ⟨w4.heap.size, 4, none⟩ (.int .i64 g)).cell? ⟨w4.heap.size, 2, none⟩ = some (.int .i64 num) := (by rw [cell_of hbs]; rfl);
       have u3 : (w6.setCell ⟨w4.heap.size, 4, none⟩ (.int .i64 g)).cell? ⟨w4.heap.size, 3, none⟩ = some (.string ⟨#[]⟩) := (by rw [cell_of hbs]; rfl);
       have u4 : (w6.setCell ⟨w4.heap.size, 4, none⟩ (.int .i64 g)).cell? ⟨w4.heap.size, 4, none⟩ = some (.int .i64 g) := (by rw [cell_of hbs]; rfl);
       have y0 : (w6.setCell ⟨w4.heap.size, 4, none⟩ (.int .i64 g)).cell? ⟨bx, 0, none⟩ = some (.int .u8 0) := (by rw [cell_of hz]; rfl);
       have y1 : (w6.setCell ⟨w4.heap.size, 4, none⟩ (.int .i64 g)).cell? ⟨bx, 1, none⟩ = some (.int .i64 0) := (by rw [cell_of hz]; rfl);
       have y2 : (w6.setCell ⟨w4.heap.size, 4, none⟩ (.int .i64 g)).cell? ⟨bx, 2, none⟩ = some (.int .i64 0) := (by rw [cell_of hz]; rfl);
       have y3 : (w6.setCell ⟨w4.heap.size, 4, none⟩ (.int .i64 g)).cell? ⟨bx, 3, none⟩ = some (.string ⟨#[]⟩) := (by rw [cell_of hz]; rfl);
       have y4 : (w6.setCell ⟨w4.heap.size, 4, none⟩ (.int .i64 g)).cell? ⟨bx, 4, none⟩ = some (.int .i64 0) := (by rw [cell_of hz]; rfl);
       have z0 := froz_of hz 0;
       have z1 := froz_of hz 1;
       have z2 := froz_of hz 2;
       have z3 := froz_of hz 3;
       have z4 := froz_of hz 4;
       clear hbs hz;
       clear r6 f6 f46 hb6 hne hbxs)
    | (go_at_call 56; refine (HE.out _ _ HFin.out.1).mono ?_; rintro e w' ⟨rfl, hw'⟩; have hw' := hw'.symm; subst hw')
    | (go_at_call 51; refine (HN.out _).mono ?_; rintro e w1 ⟨rfl, r1, f1⟩; rw [HRB.out.1] at r1 ⊢; have G1 : Hid (Rdr w1 rb t0 false ∧ Fr [rb] w0 w1) := ⟨r1, f1.mono (by simp)⟩; clear r1 f1)
    | (go_at_call 53; refine (H3.out _ _ G3.out.1).mono ?_; rintro e w4 ⟨rfl, r4, f4⟩
       have G4 : Hid (Rdr (w4.alloc (.cells #[.int .u8 71, .int .i64 p, .int .i64 num, .string ⟨#[]⟩, .int .i64 0] 100)) rb (ofL R) false ∧ Fr [rb] w0 (w4.alloc (.cells #[.int .u8 71, .int .i64 p, .int .i64 num, .string ⟨#[]⟩, .int .i64 0] 100)) ∧ (w4.alloc (.cells #[.int .u8 71, .int .i64 p, .int .i64 num, .string ⟨#[]⟩, .int .i64 0] 100)).heap[w4.heap.size]? = some (.cells #[.int .u8 71, .int .i64 p, .int .i64 num, .string ⟨#[]⟩, .int .i64 0] 100 (0, 0)) ∧ bx < w4.heap.size ∧ w.heap.size ≤ w4.heap.size) := (by
         have f04 : Fr [rb] w0 w4 := G3.out.2.trans f4 (fun k hk => Or.inl hk)
         exact ⟨rdr_fr r4 ((Fr.refl _ _).alloc _), f04.alloc _, heap_alloc_new w4 _, Nat.lt_of_lt_of_le HB.out.2.2.2 f04.size, Nat.le_trans HB.out.2.1.size f04.size⟩)
       clear r4 f4)
    | (go_at_call 52; refine (H2.out _ _ G2.out.1).mono ?_; rintro e w3 ⟨rfl, r3, f3⟩; have G3 : Hid (Rdr w3 rb t2 false ∧ Fr [rb] w0 w3) := ⟨r3, G2.out.2.trans f3 (fun k hk => Or.inl hk)⟩; clear r3 f3)
    | (go_at_call 52; refine (H1.out _ _ G1.out.1).mono ?_; rintro e w2 ⟨rfl, r2, f2⟩; have G2 : Hid (Rdr w2 rb t1 false ∧ Fr [rb] w0 w2) := ⟨r2, G1.out.2.trans f2 (fun k hk => Or.inl hk)⟩; clear r2 f2))
  refine bodyPost_ret (v := .tuple #[.agg #[.int .u8 71, .int .i64 p, .int .i64 num, .string ⟨#[]⟩, .int .i64 g], .bool true]) ?_ rfl ⟨rfl, ?_⟩
  · rw [results_cell_tmp rfl]
    go_simp
  · have hbw : w.heap.size ≤ bx := Nat.le_of_eq HB.out.2.2.1
    exact ((((HFin.out.2.2.2.setCell _ (Or.inr hbw)).setCell _ (Or.inr hbw)).setCell _ (Or.inr hbw)).setCell _ (Or.inr hbw)).setCell _ (Or.inr hbw)
end Go.Proofs.YthdhegmlknpllabGreatDoor
