import Derived.Test.YthdhegmlknpllabGreatDoorM29
import Derived.Test.YthdhegmlknpllabGreatDoorM30
import Derived.Test.YthdhegmlknpllabGreatDoorM18
import Derived.Test.YthdhegmlknpllabGreatDoorM21
/-
  What holds while ParseStream (50) reads the blocks.
-/
namespace Go.Proofs.YthdhegmlknpllabGreatDoor
open Go.RowKit Go.Maps Go.MuLone

theorem PJ.apart {w W : World} {bx rb : Nat} {r : RS} (h : PJ w W bx rb r) : bx ≠ rb := fun e => by
  have h1 := h.box
  have h2 := h.rd
  unfold Rdr at h2
  unfold z116 at h1
  rw [e, h2] at h1
  simp at h1

structure PK (w W : World) (bx rb bs : Nat) (r : RS) (f t m nb : Int) (vf : Value) (l : List (Int × B4)) : Prop where
  pj : PJ w W bx rb r
  box : W.heap[bs]? = some (.cells #[.int .i64 f, .int .i64 t, .int .i64 m, .int .i64 nb, vf] 133 (0, 0))
  row : W.ownsRow w.heap.size 166 5 vf l.length (blC l)
  ge : w.heap.size ≤ bs
  ne : bs ≠ bx

theorem PK.read {w W W' : World} {bx rb bs n : Nat} {r : RS} {f t m nb : Int} {vf : Value} {l : List (Int × B4)} (h : PK w W bx rb bs r f t m nb vf l) (hr : PJ w W' bx rb (rdN r n)) (hf : Fr [rb] W W') : PK w W' bx rb bs (rdN r n) f t m nb vf l := by
  have hne : bs ≠ rb := fun e => by
    have h1 := h.box
    have h2 := h.pj.rd
    unfold Rdr at h2
    rw [e, h2] at h1
    simp at h1
  refine ⟨hr, ?_, own_of_block h.row (fun k hk => hf.block k (h.row.lt k hk).2 ?_), h.ge, h.ne⟩
  · rw [hf.block bs (Array.getElem?_eq_some_iff.1 h.box).1 (by simpa using hne)]
    exact h.box
  · intro e
    obtain ⟨_, cur, h2⟩ := own_tag h.row hk
    have h3 := h.pj.rd
    unfold Rdr at h3
    simp at e
    rw [e, h3] at h2
    simp at h2

theorem PK.alloc {w W : World} {bx rb bs : Nat} {r : RS} {f t m nb : Int} {vf : Value} {l : List (Int × B4)} (h : PK w W bx rb bs r f t m nb vf l) (o : Obj) : PK w (W.alloc o) bx rb bs r f t m nb vf l :=
  ⟨h.pj.alloc o, by rw [Below.heap_alloc _ _ _ (Array.getElem?_eq_some_iff.1 h.box).1]; exact h.box, h.row.alloc _, h.ge, h.ne⟩
theorem PK.drew {w W : World} {bx rb bs : Nat} {r : RS} {f t m nb : Int} {vf : Value} {l : List (Int × B4)} (h : PK w W bx rb bs r f t m nb vf l) : PK w W.drew bx rb bs r f t m nb vf l :=
  ⟨⟨h.pj.rd, h.pj.fr.drew, h.pj.box, h.pj.le, h.pj.le2⟩, h.box, own_of_block h.row (fun _ _ => rfl), h.ge, h.ne⟩

/-- A block behind all of these is written. -/
theorem PK.other {w W W' : World} {bx rb bs b8 : Nat} {r : RS} {f t m nb : Int} {vf : Value} {l : List (Int × B4)} (h : PK w W bx rb bs r f t m nb vf l) (hf : Fr [b8] W W') (h1 : b8 ≠ bx ∧ b8 ≠ rb ∧ b8 ≠ bs) (h2 : ∀ k, vf.ownBlock = some k → k ≠ b8) (h3 : w.heap.size ≤ b8) : PK w W' bx rb bs r f t m nb vf l := by
  refine ⟨⟨?_, h.pj.fr.trans hf (fun k hk => Or.inr (by simp at hk; subst hk; exact h3)), ?_, h.pj.le, h.pj.le2⟩, ?_, own_of_block h.row (fun k hk => hf.block k (h.row.lt k hk).2 (by simpa using h2 k hk)), h.ge, h.ne⟩
  · have := h.pj.rd
    unfold Rdr at this ⊢
    rw [hf.block rb (Array.getElem?_eq_some_iff.1 this).1 (by simpa using (Ne.symm h1.2.1))]
    exact this
  · rw [hf.block bx (Array.getElem?_eq_some_iff.1 h.pj.box).1 (by simpa using (Ne.symm h1.1))]
    exact h.pj.box
  · rw [hf.block bs (Array.getElem?_eq_some_iff.1 h.box).1 (by simpa using (Ne.symm h1.2.2))]
    exact h.box

theorem PK.lts {w W : World} {bx rb bs : Nat} {r : RS} {f t m nb : Int} {vf : Value} {l : List (Int × B4)} (h : PK w W bx rb bs r f t m nb vf l) : bx < W.heap.size ∧ rb < W.heap.size ∧ bs < W.heap.size ∧ ∀ k, vf.ownBlock = some k → k < W.heap.size := by
  have := h.pj.rd
  unfold Rdr at this
  exact ⟨(Array.getElem?_eq_some_iff.1 h.pj.box).1, (Array.getElem?_eq_some_iff.1 this).1, (Array.getElem?_eq_some_iff.1 h.box).1, fun k hk => (h.row.lt k hk).2⟩

theorem PK.push {w wr w9 : World} {bx rb bs : Nat} {r : RS} {f t m nb : Int} {vf v9 : Value} {l : List (Int × B4)} {x : Int × B4} (h : PK w wr bx rb bs r f t m nb vf l) (ho : w9.ownsRow w.heap.size 166 5 v9 (l.length + 1) (blC l ++ bkC x)) (hg : wr.grownBy w9 vf.ownBlock) :
    PK w (w9.setCell ⟨bs, 4, none⟩ v9) bx rb bs r f t m nb v9 (l ++ [x]) ∧ w9.cell? ⟨bs, 4, none⟩ = some vf ∧ w9.frozen? ⟨bs, 4, none⟩ = false := by
  have tag : ∀ k, vf.ownBlock = some k → ∃ cur, wr.heap[k]? = some (.cells cur 166 (0, 0)) := fun k hk => (own_tag h.row hk).2
  have rd := h.pj.rd
  unfold Rdr at rd
  have hbx := h.pj.box
  unfold z116 at hbx
  have n1 : some bs ≠ vf.ownBlock := fun e => by
    obtain ⟨cur, h2⟩ := tag bs e.symm
    rw [h.box] at h2
    simp at h2
  have n2 : some rb ≠ vf.ownBlock := fun e => by
    obtain ⟨cur, h2⟩ := tag rb e.symm
    rw [rd] at h2
    simp at h2
  have n3 : some bx ≠ vf.ownBlock := fun e => by
    obtain ⟨cur, h2⟩ := tag bx e.symm
    rw [hbx] at h2
    simp at h2
  obtain ⟨l1, l2, l3, l4⟩ := h.lts
  have b9 : w9.heap[bs]? = some (.cells #[.int .i64 f, .int .i64 t, .int .i64 m, .int .i64 nb, vf] 133 (0, 0)) := by rw [hg.block bs l3 n1]; exact h.box
  have r9 : w9.heap[rb]? = some (.cells #[.string r.1, .bool r.2] 162 (0, 0)) := by rw [hg.block rb l2 n2]; exact rd
  have x9 : w9.heap[bx]? = some z116 := by rw [hg.block bx l1 n3]; exact h.pj.box
  have hrs : rb ≠ bs := fun e => by rw [e, b9] at r9; simp at r9
  have hne9 : ∀ k, v9.ownBlock = some k → k ≠ bs := fun k hk e => by
    obtain ⟨_, cur, h2⟩ := own_tag ho hk
    rw [e, b9] at h2
    simp at h2
  refine ⟨⟨⟨?_, (h.pj.fr.grown hg (fun k hk => Or.inr (h.row.lt k hk).1)).setCell _ (Or.inr h.ge), ?_, h.pj.le, h.pj.le2⟩, ?_, ?_, h.ge, h.ne⟩, ?_, froz_of b9 _⟩
  · unfold Rdr
    rw [heap_setCell_other _ _ _ _ hrs]
    exact r9
  · rw [heap_setCell_other _ _ _ _ (Ne.symm h.ne)]
    exact x9
  · rw [heap_setCell_same w9 bs 4 _ _ _ b9]
    rfl
  · have e : blC (l ++ [x]) = blC l ++ bkC x := by simp [blC]
    rw [e, List.length_append]
    exact own_of_block ho (fun k hk => heap_setCell_other _ _ _ _ (hne9 k hk))
  · rw [cell_of b9]
    rfl
end Go.Proofs.YthdhegmlknpllabGreatDoor

/-
  The walk of wire.ParseStream (50), where the check is right.
-/
namespace Go.Proofs.YthdhegmlknpllabGreatDoor
open Go.RowKit Go.Maps Go.MuLone

theorem rdBs_succ (r : RS) (k : Nat) : rdBs r (k + 1) = ((rdBs r k).1 ++ [((valN (rdT (rdBs r k).2.1 1).data.toList : Int), b4 (rdT (rdN (rdBs r k).2 1).1 4))], rdN (rdN (rdBs r k).2 1) 4) := rfl

theorem val_byte (x : ByteArray) (h : x.size ≤ 1) : valN x.data.toList < 256 := by
  have hl : x.data.toList.length ≤ 1 := by rw [Array.length_toList]; exact h
  have := valN_lt x.data.toList x.data.toList.length (Nat.le_refl _)
  rw [List.take_length] at this
  have h2 : 256 ^ x.data.toList.length ≤ 256 ^ 1 := Nat.pow_le_pow_right (by omega) hl
  omega

set_option maxRecDepth 100000 in
set_option maxHeartbeats 6400000 in
theorem parse_any (t : ByteArray) (w : World) (ht : t.size ≤ 1000000) (h5 : 5 ≤ t.size) (hc : ((t.extract (ckAt t) t.size).toList == (chk (t.extract 0 (ckAt t)).data.toList).ba.toList) = true) (ok : Bool)
    (h0 : ok = false → ¬ ((qe (t.extract 0 (ckAt t))).2 = false ∧ (qe (t.extract 0 (ckAt t))).1.size = 0))
    (h1 : ok = true → rdT (t.extract 0 (ckAt t)) 4 = ⟨#[83, 78, 68, 49]⟩ ∧ (qe (t.extract 0 (ckAt t))).2 = false ∧ (qe (t.extract 0 (ckAt t))).1.size = 0)
    (h2 : ok = true → ∀ W v, W.ownsRow w.heap.size 166 5 v (ql (t.extract 0 (ckAt t))).length (blC (ql (t.extract 0 (ckAt t)))) → Calls Tryz.prog 86 #[.agg #[.int .i64 (qf (t.extract 0 (ckAt t)) : Int), .int .i64 (qt (t.extract 0 (ckAt t)) : Int), .int .i64 (qm (t.extract 0 (ckAt t)) : Int), .int .i64 (qb (t.extract 0 (ckAt t)) : Int), v]] W fun e w' => e = .returned (.bool true) ∧ Fr [] W w') :
    Calls Tryz.prog 59 #[.string t] w fun e w' => (ok = false → e = .returned (.tuple #[zeroS, .bool false])) ∧ (ok = true → ∃ v, e = .returned (.tuple #[.agg #[.int .i64 (qf (t.extract 0 (ckAt t)) : Int), .int .i64 (qt (t.extract 0 (ckAt t)) : Int), .int .i64 (qm (t.extract 0 (ckAt t)) : Int), .int .i64 (qb (t.extract 0 (ckAt t)) : Int), v], .bool true]) ∧ w'.ownsRow w.heap.size 166 5 v (ql (t.extract 0 (ckAt t))).length (blC (ql (t.extract 0 (ckAt t))))) ∧ Fr [] w w' := by
  obtain ⟨i0, hi, hz0, hz1, hz2⟩ := info_parts info120
  obtain ⟨c, hcc⟩ : ∃ c, ckAt t = c := ⟨_, rfl⟩
  have hce : c = t.size - 4 := by rw [← hcc]; rfl
  rw [hcc] at hc h0 h1 h2 ⊢
  have HC : Hid (∀ W, Calls Tryz.prog 85 #[.string (t.extract 0 c)] W fun e w' => e = .returned (.string (chk (t.extract 0 c).data.toList).ba) ∧ Fr [] W w') := fun W => checkOf_any _ W (by rw [ByteArray.size_extract]; omega)
  obtain ⟨ck, hck⟩ : ∃ ck, (chk (t.extract 0 c).data.toList).ba = ck := ⟨_, rfl⟩
  rw [hck] at HC hc
  obtain ⟨n, hn⟩ : ∃ n, t.size = n := ⟨_, rfl⟩
  rw [hn] at hce hc ht h5
  have c0 : (0 : Int) ≤ (c : Int) := by omega
  have c1 : (c : Int) ≤ (n : Int) := by omega
  have hnc : (n : Int) - 4 = (c : Int) := by omega
  have cpos : ¬ (c : Int) ≤ 0 := by omega
  have cpos2 : (0 : Int) < (c : Int) := by omega
  obtain ⟨w0, hw0⟩ : ∃ w0, w.alloc (.cells #[.int .i64 0, .int .i64 0, .int .i64 0, .int .i64 0, .slice none 0 0] 133) = w0 := ⟨_, rfl⟩
  obtain ⟨bx, hbx⟩ : ∃ bx, w.heap.size = bx := ⟨_, rfl⟩
  have b0 : w0.heap[bx]? = some z116 := by rw [← hw0, ← hbx]; exact heap_alloc_new w _
  have HB : Hid (w0.heap[bx]? = some z116 ∧ Fr [] w w0 ∧ w.heap.size = bx ∧ (t.extract 0 c).size ≤ 1000000) := ⟨b0, by rw [← hw0]; exact (Fr.refl _ _).alloc _, hbx, by rw [ByteArray.size_extract]; omega⟩
  have HNR : Hid (∀ W, Calls Tryz.prog 51 #[.string (t.extract 0 c)] W fun e w' => e = .returned (.pointer (some ⟨W.heap.size, 0, none⟩)) ∧ Rdr w' W.heap.size (t.extract 0 c) false ∧ Fr [] W w') := fun W => newReader_any _ W
  have HT0 : Hid (∀ W rb, PJ w W bx rb ((t.extract 0 c), false) → Calls Tryz.prog 54 #[.pointer (some ⟨rb, 0, none⟩), .int .i64 4] W fun e w' => e = .returned (.string (rdT (t.extract 0 c) 4)) ∧ PJ w w' bx rb (q1 (t.extract 0 c)) ∧ Fr [rb] W w') := fun W rb h => h.text
  have HN1 : Hid (∀ W rb, PJ w W bx rb (q1 (t.extract 0 c)) → Calls Tryz.prog 53 #[.pointer (some ⟨rb, 0, none⟩)] W fun e w' => e = .returned (.int .i64 (qf (t.extract 0 c) : Int)) ∧ PJ w w' bx rb (q2 (t.extract 0 c)) ∧ Fr [rb] W w') := fun W rb h => h.number
  have HN2 : Hid (∀ W rb, PJ w W bx rb (q2 (t.extract 0 c)) → Calls Tryz.prog 53 #[.pointer (some ⟨rb, 0, none⟩)] W fun e w' => e = .returned (.int .i64 (qt (t.extract 0 c) : Int)) ∧ PJ w w' bx rb (q3 (t.extract 0 c)) ∧ Fr [rb] W w') := fun W rb h => h.number
  have HN3 : Hid (∀ W rb, PJ w W bx rb (q3 (t.extract 0 c)) → Calls Tryz.prog 53 #[.pointer (some ⟨rb, 0, none⟩)] W fun e w' => e = .returned (.int .i64 (qm (t.extract 0 c) : Int)) ∧ PJ w w' bx rb (q4 (t.extract 0 c)) ∧ Fr [rb] W w') := fun W rb h => h.number
  have HN4 : Hid (∀ W rb, PJ w W bx rb (q4 (t.extract 0 c)) → Calls Tryz.prog 52 #[.pointer (some ⟨rb, 0, none⟩)] W fun e w' => e = .returned (.int .i64 (qb (t.extract 0 c) : Int)) ∧ PJ w w' bx rb (q5 (t.extract 0 c)) ∧ Fr [rb] W w') := fun W rb h => h.byte
  have HN5 : Hid (∀ W rb bs f t' m nb vf l, PK w W bx rb bs (q5 (t.extract 0 c)) f t' m nb vf l → Calls Tryz.prog 52 #[.pointer (some ⟨rb, 0, none⟩)] W fun e w' => e = .returned (.int .i64 (qn (t.extract 0 c) : Int)) ∧ PK w w' bx rb bs (q6 (t.extract 0 c)) f t' m nb vf l) := fun W rb bs f t' m nb vf l h => h.pj.byte.mono fun _ _ ⟨e, a, b⟩ => ⟨e, h.read a b⟩
  have hqn : qn (t.extract 0 c) < 256 := val_byte _ (rdT_size _ 1)
  have HQ : Hid (((rdBs (q6 (t.extract 0 c)) (qn (t.extract 0 c))).1 = ql (t.extract 0 c)) ∧ (rdBs (q6 (t.extract 0 c)) (qn (t.extract 0 c))).2 = qe (t.extract 0 c)) := ⟨rfl, rfl⟩
  have H012 : Hid ((ok = false → ¬ ((qe (t.extract 0 c)).2 = false ∧ (qe (t.extract 0 c)).1.size = 0)) ∧ (ok = true → rdT (t.extract 0 c) 4 = ⟨#[83, 78, 68, 49]⟩ ∧ (qe (t.extract 0 c)).2 = false ∧ (qe (t.extract 0 c)).1.size = 0) ∧ (ok = true → ∀ W v, W.ownsRow w.heap.size 166 5 v (ql (t.extract 0 c)).length (blC (ql (t.extract 0 c))) → Calls Tryz.prog 86 #[.agg #[.int .i64 (qf (t.extract 0 c) : Int), .int .i64 (qt (t.extract 0 c) : Int), .int .i64 (qm (t.extract 0 c) : Int), .int .i64 (qb (t.extract 0 c) : Int), v]] W fun e w' => e = .returned (.bool true) ∧ Fr [] W w')) := ⟨h0, h1, h2⟩
  obtain ⟨fv, hfv⟩ : ∃ fv, qf (t.extract 0 c) = fv := ⟨_, rfl⟩
  obtain ⟨tv, htv⟩ : ∃ tv, qt (t.extract 0 c) = tv := ⟨_, rfl⟩
  obtain ⟨mv, hmv⟩ : ∃ mv, qm (t.extract 0 c) = mv := ⟨_, rfl⟩
  obtain ⟨nv, hnv⟩ : ∃ nv, qb (t.extract 0 c) = nv := ⟨_, rfl⟩
  obtain ⟨N, hN⟩ : ∃ N, qn (t.extract 0 c) = N := ⟨_, rfl⟩
  obtain ⟨r6, hr6⟩ : ∃ r6, q6 (t.extract 0 c) = r6 := ⟨_, rfl⟩
  obtain ⟨lL, hlL⟩ : ∃ lL, ql (t.extract 0 c) = lL := ⟨_, rfl⟩
  rw [hfv] at HN1
  rw [htv] at HN2
  rw [hmv] at HN3
  rw [hnv] at HN4
  rw [hN, hr6] at HN5
  rw [hN] at hqn
  rw [hN, hr6, hlL] at HQ
  rw [hfv, htv, hmv, hnv, hlL] at H012
  rw [hfv, htv, hmv, hnv, hlL]
  have hw0' := hw0
  clear hw0 b0 hck hcc hce h0 h1 h2 hfv htv hmv hnv hN hr6 hlL
  go_enter Tryz.func59, Tryz.ntmps59
  go_wp2
  go_region_with
    (first
      | (go_at_call 85; refine (HC.out _).mono ?_; rintro e w5 ⟨rfl, f5⟩; have F5 : Hid (Fr [] w0 w5) := ((Fr.refl [] w0).drew).tr f5; clear f5))
  go_wp2_with (first
      | (go_at_call 51; refine (HNR.out _).mono ?_; rintro e w6 ⟨rfl, r6, f6⟩; have H6 : Hid (PJ w w6 bx w5.heap.size ((t.extract 0 c), false)) := ⟨r6, (HB.out.2.1.tr F5.out).tr f6, (by rw [(F5.out.tr f6).block bx (Array.getElem?_eq_some_iff.1 HB.out.1).1 (by simp)]; exact HB.out.1), (HB.out.2.1.tr F5.out).size, HB.out.2.2.2⟩; clear r6 f6)
      | (go_at_call 54; refine (HT0.out _ _ H6.out).mono ?_; rintro e w7 ⟨rfl, r7, f7⟩; have H7 : Hid (PJ w w7 bx w5.heap.size (q1 (t.extract 0 c))) := r7; clear r7 f7)
      | (go_at_call 53; refine (HN3.out _ _ H9.out).mono ?_; rintro e w10 ⟨rfl, r10, f10⟩; have H10 : Hid (PJ w w10 bx w5.heap.size (q4 (t.extract 0 c))) := r10; clear r10 f10)
      | (go_at_call 53; refine (HN2.out _ _ H8.out).mono ?_; rintro e w9 ⟨rfl, r9, f9⟩; have H9 : Hid (PJ w w9 bx w5.heap.size (q3 (t.extract 0 c))) := r9; clear r9 f9)
      | (go_at_call 53; refine (HN1.out _ _ H7.out).mono ?_; rintro e w8 ⟨rfl, r8, f8⟩; have H8 : Hid (PJ w w8 bx w5.heap.size (q2 (t.extract 0 c))) := r8; clear r8 f8)
      | (go_at_call 52; refine (HN5.out _ _ _ _ _ _ _ _ _ HX.out).mono ?_; rintro e w12 ⟨rfl, r12⟩; have H12 : Hid (PK w w12 bx w5.heap.size w11.heap.size r6 fv tv mv nv (.slice none 0 0) []) := r12; clear r12)
      | (go_at_call 52; refine (HN4.out _ _ H10.out).mono ?_; rintro e w11 ⟨rfl, r11, f11⟩; have HX : Hid (PK w (w11.alloc (.cells #[.int .i64 fv, .int .i64 tv, .int .i64 mv, .int .i64 nv, .slice none 0 0] 133)) bx w5.heap.size w11.heap.size (q5 (t.extract 0 c)) fv tv mv nv (.slice none 0 0) []) := ⟨r11.alloc _, heap_alloc_new w11 _, World.ownsRow_nil _ _ _ _, r11.fr.size, Nat.ne_of_gt (Array.getElem?_eq_some_iff.1 r11.box).1⟩; clear r11 f11))
  obtain ⟨sg, hsg⟩ : ∃ sg, ((rdT (t.extract 0 c) 4).toList == [83, 78, 68, 49]) = sg := ⟨_, rfl⟩
  have HSG : Hid (((rdT (t.extract 0 c) 4).toList == [83, 78, 68, 49]) = sg) := hsg
  rw [hsg]
  obtain ⟨rb, hrb⟩ : ∃ rb, w5.heap.size = rb := ⟨_, rfl⟩
  obtain ⟨bs, hbs⟩ : ∃ bs, w11.heap.size = bs := ⟨_, rfl⟩
  rw [hrb, hbs] at H12
  rw [hrb, hbs]
  clear hsg hrb hbs HX H10 H9 H8 H7 H6 HN1 HN2 HN3 HN4 HN5 HT0 HNR HC F5 hw0' hc c0 c1 hnc cpos cpos2 ht h5
  go_loopw [40] (fun i wr => ∃ (k : Nat) (vf : Value), k ≤ N ∧ i = .int .i64 k ∧ Hid (PK w wr bx rb bs (rdBs r6 k).2 fv tv mv nv vf (rdBs r6 k).1)) (fun i _ => N - (intOf i).toNat)
  case atStart => exact ⟨0, _, Nat.zero_le _, rfl, H12⟩
  case round =>
    obtain ⟨k, vf, hk, rfl, HK⟩ := hrel
    obtain ⟨W3, hW3⟩ : ∃ W3, W3 = wr := ⟨_, rfl⟩
    subst hW3
    clear H12
    have hlen := rdBs_len r6 k
    obtain ⟨fa, fc, hsh⟩ := own_shape HK.out.row
    rw [hlen] at hsh
    subst hsh
    by_cases hlt : k < N
    · have hltz : (k : Int) < (N : Int) := by omega
      have hsucc := rdBs_succ r6 k
      obtain ⟨l, hl⟩ : ∃ l, (rdBs r6 k).1 = l := ⟨_, rfl⟩
      obtain ⟨r, hr⟩ : ∃ r, (rdBs r6 k).2 = r := ⟨_, rfl⟩
      rw [hl, hr] at HK
      rw [hl] at hlen
      rw [hl, hr] at hsucc
      have HBy : Hid (Calls Tryz.prog 52 #[.pointer (some ⟨rb, 0, none⟩)] W3 fun e w' => e = .returned (.int .i64 (valN (rdT r.1 1).data.toList : Int)) ∧ PK w w' bx rb bs (rdN r 1) fv tv mv nv (.slice fa k fc) l) := HK.out.pj.byte.mono fun _ _ ⟨e, a, b⟩ => ⟨e, HK.out.read a b⟩
      have HTx : Hid (∀ W, PK w W bx rb bs (rdN r 1) fv tv mv nv (.slice fa k fc) l → Calls Tryz.prog 54 #[.pointer (some ⟨rb, 0, none⟩), .int .i64 4] W fun e w' => e = .returned (.string (rdT (rdN r 1).1 4)) ∧ PK w w' bx rb bs (rdN (rdN r 1) 4) fv tv mv nv (.slice fa k fc) l ∧ Fr [rb] W w') := fun W h => h.pj.text.mono fun _ _ ⟨e, a, b⟩ => ⟨e, h.read a b, b⟩
      have hxs := rdT_two (rdN r 1).1 4
      obtain ⟨z, hz⟩ : ∃ z, valN (rdT r.1 1).data.toList = z := ⟨_, rfl⟩
      obtain ⟨x, hx⟩ : ∃ x, rdT (rdN r 1).1 4 = x := ⟨_, rfl⟩
      obtain ⟨r1, hr1⟩ : ∃ r1, rdN r 1 = r1 := ⟨_, rfl⟩
      rw [hz] at HBy
      rw [hx] at HTx hxs
      rw [hz, hx] at hsucc
      rw [hr1] at HBy HTx hsucc
      have HS : Hid (rdBs r6 (k + 1) = (l ++ [((z : Int), b4 x)], rdN r1 4) ∧ l.length = k ∧ (x.size = 0 ∨ x.size = 4)) := ⟨hsucc, hlen, hxs⟩
      obtain ⟨y, hy⟩ : ∃ y, b4 x = y := ⟨_, rfl⟩
      have HCP : Hid (∀ (w : World) (b8 : Nat), w.heap[b8]? = some (.cells #[.int .i64 (z : Int), .int .u8 0, .int .u8 0, .int .u8 0, .int .u8 0] 166 (0, 0)) → ∃ w', (∀ ty, (Builtin.copy_ #[50, 9] ty #[.slice (some ⟨b8, 1, none⟩) 4 4, .string x]).run Tryz.prog w = .ok (goInt x.size) w') ∧ w'.heap[b8]? = some (.cells #[.int .i64 (z : Int), .int .u8 (y.a.toNat : Int), .int .u8 (y.b.toNat : Int), .int .u8 (y.c.toNat : Int), .int .u8 (y.d.toNat : Int)] 166 (0, 0)) ∧ Fr [b8] w w') := fun w b8 h => by
        obtain ⟨w', a, b, c⟩ := copy4 w b8 z x h hxs
        rw [hy] at b
        exact ⟨w', a, b, c⟩
      rw [hy] at HS
      clear hlen hsucc hxs hl hr hz hx hr1 hy HK
      go_wp2_with (go_at_call 52; refine HBy.out.mono ?_; rintro e w13 ⟨rfl, r13⟩; have H13 : Hid (PK w (w13.alloc (.cells #[.int .i64 (z : Int), .int .u8 0, .int .u8 0, .int .u8 0, .int .u8 0] 166)) bx rb bs r1 fv tv mv nv (.slice fa k fc) l ∧ PK w w13 bx rb bs r1 fv tv mv nv (.slice fa k fc) l) := ⟨r13.alloc _, r13⟩; clear r13)
      obtain ⟨b8, hb8⟩ : ∃ b8, w13.heap.size = b8 := ⟨_, rfl⟩
      have H8 : Hid ((w13.alloc (.cells #[.int .i64 (z : Int), .int .u8 0, .int .u8 0, .int .u8 0, .int .u8 0] 166)).heap[b8]? = some (.cells #[.int .i64 (z : Int), .int .u8 0, .int .u8 0, .int .u8 0, .int .u8 0] 166 (0, 0)) ∧ (b8 ≠ bx ∧ b8 ≠ rb ∧ b8 ≠ bs) ∧ (∀ k', (Value.slice fa k fc).ownBlock = some k' → k' ≠ b8) ∧ w.heap.size ≤ b8) := by
        obtain ⟨l1, l2, l3, l4⟩ := H13.out.2.lts
        refine ⟨by rw [← hb8]; exact heap_alloc_new w13 _, ⟨by omega, by omega, by omega⟩, fun k' hk' => by have := l4 k' hk'; omega, by rw [← hb8]; exact H13.out.2.pj.fr.size⟩
      rw [hb8]
      have H13' : Hid (PK w (w13.alloc (.cells #[.int .i64 (z : Int), .int .u8 0, .int .u8 0, .int .u8 0, .int .u8 0] 166)) bx rb bs r1 fv tv mv nv (.slice fa k fc) l) := H13.out.1
      obtain ⟨wa, hwa⟩ : ∃ wa, w13.alloc (.cells #[.int .i64 (z : Int), .int .u8 0, .int .u8 0, .int .u8 0, .int .u8 0] 166) = wa := ⟨_, rfl⟩
      rw [hwa] at H8 H13'
      rw [hwa]
      clear hwa hb8 H13 HBy
      go_region_with
        (first
          | (go_at_call 54; refine (HTx.out _ H13'.out.drew).mono ?_; rintro e w14 ⟨rfl, r14, f14⟩
             obtain ⟨w15, hcp, hb15, f15⟩ := HCP.out w14 b8 (by rw [f14.block b8 (Array.getElem?_eq_some_iff.1 H8.out.1).1 (by simpa using H8.out.2.1.2.1)]; exact H8.out.1)
             have H15 : Hid (PK w w15 bx rb bs (rdN r1 4) fv tv mv nv (.slice fa k fc) l ∧ w15.heap[b8]? = some (.cells #[.int .i64 (z : Int), .int .u8 (y.a.toNat : Int), .int .u8 (y.b.toNat : Int), .int .u8 (y.c.toNat : Int), .int .u8 (y.d.toNat : Int)] 166 (0, 0))) := ⟨r14.other f15 H8.out.2.1 H8.out.2.2.1 H8.out.2.2.2, hb15⟩
             clear r14 f14 f15 hb15))
      all_goals
        clear hcp
        have e0 : w15.cell? ⟨b8, 0, none⟩ = some (.int .i64 (z : Int)) := by rw [cell_of H15.out.2]; rfl
        have e1 : w15.cell? ⟨b8, 1, none⟩ = some (.int .u8 (y.a.toNat : Int)) := by rw [cell_of H15.out.2]; rfl
        have e2 : w15.cell? ⟨b8, 2, none⟩ = some (.int .u8 (y.b.toNat : Int)) := by rw [cell_of H15.out.2]; rfl
        have e3 : w15.cell? ⟨b8, 3, none⟩ = some (.int .u8 (y.c.toNat : Int)) := by rw [cell_of H15.out.2]; rfl
        have e4 : w15.cell? ⟨b8, 4, none⟩ = some (.int .u8 (y.d.toNat : Int)) := by rw [cell_of H15.out.2]; rfl
        have x4 : w15.cell? ⟨bs, 4, none⟩ = some (.slice fa k fc) := by rw [cell_of H15.out.1.box]; rfl
        have lbs : bs < w15.heap.size := World.block_lt_of_cell? _ _ x4
        have HNW : Hid (∀ j u, [Value.int .i64 (z : Int), .int .u8 (y.a.toNat : Int), .int .u8 (y.b.toNat : Int), .int .u8 (y.c.toNat : Int), .int .u8 (y.d.toNat : Int)][j]? = some u → (w15.alloc (.cells #[.int .i64 (z : Int), .int .u8 (y.a.toNat : Int), .int .u8 (y.b.toNat : Int), .int .u8 (y.c.toNat : Int), .int .u8 (y.d.toNat : Int)] 166)).cell? ((⟨w15.heap.size, 0, none⟩ : Addr).add j) = some u) := World.news_of_block (cs := #[.int .i64 (z : Int), .int .u8 (y.a.toNat : Int), .int .u8 (y.b.toNat : Int), .int .u8 (y.c.toNat : Int), .int .u8 (y.d.toNat : Int)]) (t := 166) (fr := (0, 0)) (heap_alloc_new w15 _)
        have HRow : Hid (w15.ownsRow w.heap.size 166 5 (.slice fa k fc) k (blC l)) := by
          have := H15.out.1.row
          rw [HS.out.2.1] at this
          exact this
        have hwle : w.heap.size ≤ w15.heap.size := H15.out.1.pj.fr.size
        go_wp2_with (at_builtin; refine wpList_append_own _ rfl _ _ 131 rfl w.heap.size 166 i0 _ 5 16 Tryz.underlying131 hi hz0 hz1 hz2 rfl (by omega) (.slice fa k fc) k (blC l) rfl (HRow.out.alloc _) ⟨w15.heap.size, 0, none⟩ 1 1 [.int .i64 (z : Int), .int .u8 (y.a.toNat : Int), .int .u8 (y.b.toNat : Int), .int .u8 (y.c.toNat : Int), .int .u8 (y.d.toNat : Int)] rfl rfl HNW.out (by simp [Value.oneCell']) (by unfold maxLen; omega) (by omega) (by simp; omega) ?_; intro v9 w9 hown9 hgrow9 hne9; obtain ⟨a9, k9, hv9⟩ := own_shape hown9; subst hv9; have HP := (H15.out.1.alloc (.cells #[.int .i64 (z : Int), .int .u8 (y.a.toNat : Int), .int .u8 (y.b.toNat : Int), .int .u8 (y.c.toNat : Int), .int .u8 (y.d.toNat : Int)] 166)).push (x := ((z : Int), y)) (by rw [HS.out.2.1]; exact hown9) hgrow9; have H9 : Hid (PK w (w9.setCell ⟨bs, 4, none⟩ (.slice a9 (k + 1) k9)) bx rb bs (rdN r1 4) fv tv mv nv (.slice a9 (k + 1) k9) (l ++ [((z : Int), y)])) := HP.1; have x9 := HP.2.1; have z9 := HP.2.2; clear HP hown9 hgrow9 hne9)
        go_roundw
        case rel => exact ⟨k + 1, _, by omega, by go_num, by rw [HS.out.1]; exact H9⟩
        case measure => simp [intOf]; omega
    · have hkk : k = N := by omega
      subst hkk
      rw [HQ.out.1, HQ.out.2] at HK
      rw [HQ.out.1] at hlen
      have HX : Hid (lL.length = k) := hlen
      clear hlen
      have y0 : W3.cell? ⟨bx, 0, none⟩ = some (.int .i64 0) := by have := HK.out.pj.box; unfold z116 at this; rw [cell_of this]; rfl
      have y1 : W3.cell? ⟨bx, 1, none⟩ = some (.int .i64 0) := by have := HK.out.pj.box; unfold z116 at this; rw [cell_of this]; rfl
      have y2 : W3.cell? ⟨bx, 2, none⟩ = some (.int .i64 0) := by have := HK.out.pj.box; unfold z116 at this; rw [cell_of this]; rfl
      have y3 : W3.cell? ⟨bx, 3, none⟩ = some (.int .i64 0) := by have := HK.out.pj.box; unfold z116 at this; rw [cell_of this]; rfl
      have y4 : W3.cell? ⟨bx, 4, none⟩ = some (.slice none 0 0) := by have := HK.out.pj.box; unfold z116 at this; rw [cell_of this]; rfl
      have zz : ∀ j, W3.frozen? ⟨bx, j, none⟩ = false := fun j => by have := HK.out.pj.box; unfold z116 at this; exact froz_of this j
      have z0 := zz 0
      have z1 := zz 1
      have z2 := zz 2
      have z3 := zz 3
      have z4 := zz 4
      clear zz
      have HE : Hid (Calls Tryz.prog 56 #[.pointer (some ⟨rb, 0, none⟩)] W3 fun e w' => e = .returned (.bool (decide ((qe (t.extract 0 c)).1.size = 0) && !(qe (t.extract 0 c)).2)) ∧ w' = W3) := ended_any rb _ _ W3 HK.out.pj.rd
      have hbs : w.heap.size ≤ bx := Nat.le_of_eq HB.out.2.2.1
      have HF5 : Hid (∀ W a b c' d e, Fr [] w W → Fr [] w (((((W.setCell ⟨bx, 0, none⟩ a).setCell ⟨bx, 1, none⟩ b).setCell ⟨bx, 2, none⟩ c').setCell ⟨bx, 3, none⟩ d).setCell ⟨bx, 4, none⟩ e)) := fun W a b c' d e h => ((((h.setCell _ (Or.inr hbs)).setCell _ (Or.inr hbs)).setCell _ (Or.inr hbs)).setCell _ (Or.inr hbs)).setCell _ (Or.inr hbs)
      cases ok with
      | false =>
        have hb : (decide ((qe (t.extract 0 c)).1.size = 0) && !(qe (t.extract 0 c)).2) = false := by
          have := H012.out.1 rfl
          cases h : (qe (t.extract 0 c)).2
          · simp [h] at this
            simp [this]
          · simp
        rw [hb] at HE
        cases sg with
        | false =>
          go_wp2
          refine bodyPost_ret (v := .tuple #[zeroS, .bool false]) ?_ rfl ⟨rfl, HF5.out _ _ _ _ _ _ HK.out.pj.fr⟩
          rw [results_cell_tmp rfl]
          go_simp
          rfl
        | true =>
          go_wp2_with (go_at_call 56; refine HE.out.mono ?_; rintro e w' ⟨rfl, hw'⟩; have hw' := hw'.symm; subst hw')
          refine bodyPost_ret (v := .tuple #[zeroS, .bool false]) ?_ rfl ⟨rfl, HF5.out _ _ _ _ _ _ HK.out.pj.fr⟩
          rw [results_cell_tmp rfl]
          go_simp
          rfl
      | true =>
        have h1 := H012.out.2.1 rfl
        have hsg : sg = true := by
          rw [← HSG.out, h1.1, ByteArray.toList_eq]
          rfl
        subst hsg
        have hb : (decide ((qe (t.extract 0 c)).1.size = 0) && !(qe (t.extract 0 c)).2) = true := by
          simp [h1.2.1, h1.2.2]
        rw [hb] at HE
        have HM : Hid (Calls Tryz.prog 86 #[.agg #[.int .i64 (fv : Int), .int .i64 (tv : Int), .int .i64 (mv : Int), .int .i64 (nv : Int), .slice fa k fc]] W3 fun e w' => e = .returned (.bool true) ∧ Fr [] W3 w') := H012.out.2.2 rfl W3 _ HK.out.row
        have u0 : W3.cell? ⟨bs, 0, none⟩ = some (.int .i64 (fv : Int)) := by rw [cell_of HK.out.box]; rfl
        have u1 : W3.cell? ⟨bs, 1, none⟩ = some (.int .i64 (tv : Int)) := by rw [cell_of HK.out.box]; rfl
        have u2 : W3.cell? ⟨bs, 2, none⟩ = some (.int .i64 (mv : Int)) := by rw [cell_of HK.out.box]; rfl
        have u3 : W3.cell? ⟨bs, 3, none⟩ = some (.int .i64 (nv : Int)) := by rw [cell_of HK.out.box]; rfl
        have u4 : W3.cell? ⟨bs, 4, none⟩ = some (.slice fa k fc) := by rw [cell_of HK.out.box]; rfl
        have HBX : Hid (∀ W, Fr [] W3 W → W.heap[bx]? = some z116 ∧ W.heap[bs]? = some (.cells #[.int .i64 fv, .int .i64 tv, .int .i64 mv, .int .i64 nv, .slice fa k fc] 133 (0, 0)) ∧ W.ownsRow w.heap.size 166 5 (.slice fa k fc) lL.length (blC lL)) := fun W h => by
          obtain ⟨l1, l2, l3, l4⟩ := HK.out.lts
          refine ⟨by rw [h.block bx l1 (by simp)]; exact HK.out.pj.box, by rw [h.block bs l3 (by simp)]; exact HK.out.box, own_fr' HK.out.row h⟩
        clear h1
        go_wp2_with (first
          | (go_at_call 56; refine HE.out.mono ?_; rintro e w' ⟨rfl, hw'⟩; have hw' := hw'.symm; subst hw')
          | (go_at_call 86; refine HM.out.mono ?_; rintro e w17 ⟨rfl, f17⟩
             have H17 : Hid (Fr [] w w17 ∧ w17.heap[bx]? = some z116 ∧ w17.ownsRow w.heap.size 166 5 (.slice fa k fc) lL.length (blC lL)) := ⟨HK.out.pj.fr.tr f17, (HBX.out _ f17).1, (HBX.out _ f17).2.2⟩
             have hq := (HBX.out _ f17).1
             unfold z116 at hq
             have hq2 := (HBX.out _ f17).2.1
             have y0 : w17.cell? ⟨bx, 0, none⟩ = some (.int .i64 0) := (by rw [cell_of hq]; rfl)
             have y1 : w17.cell? ⟨bx, 1, none⟩ = some (.int .i64 0) := (by rw [cell_of hq]; rfl)
             have y2 : w17.cell? ⟨bx, 2, none⟩ = some (.int .i64 0) := (by rw [cell_of hq]; rfl)
             have y3 : w17.cell? ⟨bx, 3, none⟩ = some (.int .i64 0) := (by rw [cell_of hq]; rfl)
             have y4 : w17.cell? ⟨bx, 4, none⟩ = some (.slice none 0 0) := (by rw [cell_of hq]; rfl)
             have z0 := froz_of hq 0
             have z1 := froz_of hq 1
             have z2 := froz_of hq 2
             have z3 := froz_of hq 3
             have z4 := froz_of hq 4
             have u0 : w17.cell? ⟨bs, 0, none⟩ = some (.int .i64 (fv : Int)) := (by rw [cell_of hq2]; rfl)
             have u1 : w17.cell? ⟨bs, 1, none⟩ = some (.int .i64 (tv : Int)) := (by rw [cell_of hq2]; rfl)
             have u2 : w17.cell? ⟨bs, 2, none⟩ = some (.int .i64 (mv : Int)) := (by rw [cell_of hq2]; rfl)
             have u3 : w17.cell? ⟨bs, 3, none⟩ = some (.int .i64 (nv : Int)) := (by rw [cell_of hq2]; rfl)
             have u4 : w17.cell? ⟨bs, 4, none⟩ = some (.slice fa k fc) := (by rw [cell_of hq2]; rfl)
             clear f17 hq hq2))
        refine bodyPost_ret (v := .tuple #[.agg #[.int .i64 (fv : Int), .int .i64 (tv : Int), .int .i64 (mv : Int), .int .i64 (nv : Int), .slice fa k fc], .bool true]) ?_ rfl ⟨⟨_, rfl, ?_⟩, HF5.out _ _ _ _ _ _ H17.out.1⟩
        · rw [results_cell_tmp rfl]
          go_simp
        · have hr := H17.out.2.2
          rw [HB.out.2.2.1] at hr
          refine own_of_block hr (fun k' hk' => ?_)
          have hne : k' ≠ bx := fun e => by
            obtain ⟨_, cur, h2⟩ := own_tag H17.out.2.2 hk'
            have h3 := H17.out.2.1
            unfold z116 at h3
            rw [e, h3] at h2
            simp at h2
          rw [heap_setCell_other _ _ _ _ hne, heap_setCell_other _ _ _ _ hne, heap_setCell_other _ _ _ _ hne, heap_setCell_other _ _ _ _ hne, heap_setCell_other _ _ _ _ hne]
end Go.Proofs.YthdhegmlknpllabGreatDoor

/-
  The walk of Receive (32), where the stream goes with what there is.
-/
namespace Go.Proofs.YthdhegmlknpllabGreatDoor
open Go.RowKit Go.Maps Go.MuLone

def World.put5 (w : World) (vb k : Nat) (x : Ct) : World :=
  ((((w.setCell ⟨vb, k * 5, none⟩ (.int .u8 (x.x.a.toNat : Int))).setCell ⟨vb, k * 5 + 1, none⟩ (.int .u8 (x.x.b.toNat : Int))).setCell ⟨vb, k * 5 + 2, none⟩ (.int .u8 (x.x.c.toNat : Int))).setCell ⟨vb, k * 5 + 3, none⟩ (.int .u8 (x.x.d.toNat : Int))).setCell ⟨vb, k * 5 + 4, none⟩ (.int .i64 x.n)
theorem put5_other (w : World) (vb k : Nat) (x : Ct) (j : Nat) (hj : j ≠ vb) : (World.put5 w vb k x).heap[j]? = w.heap[j]? := by
  unfold World.put5
  rw [heap_setCell_other _ _ _ _ hj, heap_setCell_other _ _ _ _ hj, heap_setCell_other _ _ _ _ hj, heap_setCell_other _ _ _ _ hj, heap_setCell_other _ _ _ _ hj]
theorem Rep.put5 {B : Nat} {w : World} {b : Nat} {q : Int} {s : Sto} (h : Rep B w b q s) (k : Nat) (x : Ct) (hk : k < s.vol.length) : Rep B (World.put5 w s.vb k x) b q { s with vol := s.vol.set k x } := by
  obtain ⟨a1, a2, a3, a4, a5, a6⟩ := h.apart
  have ho := put5_other w s.vb k x
  refine ⟨?_, ?_, ?_, ?_, ?_, ?_, h.hb, h.hvb, h.hmb⟩
  · rw [ho b (Ne.symm a1), h.blk]; simp [Sto.blk]
  · show (World.put5 w s.vb k x).heap[s.vb]? = some (.cells (volC (s.vol.set k x)).toArray 92 (0, 0))
    have h1 := heap_setCell_same w s.vb (k * 5) _ _ (.int .u8 (x.x.a.toNat : Int)) h.vol
    have h2 := heap_setCell_same _ s.vb (k * 5 + 1) _ _ (.int .u8 (x.x.b.toNat : Int)) h1
    have h3 := heap_setCell_same _ s.vb (k * 5 + 2) _ _ (.int .u8 (x.x.c.toNat : Int)) h2
    have h4 := heap_setCell_same _ s.vb (k * 5 + 3) _ _ (.int .u8 (x.x.d.toNat : Int)) h3
    have h5 := heap_setCell_same _ s.vb (k * 5 + 4) _ _ (.int .i64 x.n) h4
    unfold World.put5
    rw [h5, ← set5 s.vol k x.x x.n hk]
    simp [u8]
  · exact own_of_block h.ss (fun j hj => ho j (a4 j hj).2.1)
  · exact h.th.of_block (ho s.mb a3)
  · exact own_of_block h.ms (fun j hj => ho j (a5 j hj).2.1)
  · exact own_of_block h.lg (fun j hj => ho j (a6 j hj).2.1)
theorem put5_fr {F : List Nat} {w w1 : World} {vb k : Nat} {x : Ct} (h : Fr F w w1) (hv : vb ∈ F) : Fr F w (World.put5 w1 vb k x) :=
  ((((h.setCell _ (Or.inl hv)).setCell _ (Or.inl hv)).setCell _ (Or.inl hv)).setCell _ (Or.inl hv)).setCell _ (Or.inl hv)

/-- The volume while it becomes what it was at a snapshot. -/
def vk (s : Sto) (f : Int) (k : Nat) : List Ct := (List.range k).map (fun j : Nat => s.th f (j : Int)) ++ s.vol.drop k
theorem vk_zero (s : Sto) (f : Int) : vk s f 0 = s.vol := by simp [vk]
theorem vk_len (s : Sto) (f : Int) (k : Nat) (h : k ≤ s.vol.length) : (vk s f k).length = s.vol.length := by simp [vk]; omega
theorem vk_succ (s : Sto) (f : Int) (k : Nat) (h : k < s.vol.length) : (vk s f k).set k (s.th f (k : Int)) = vk s f (k + 1) := by
  unfold vk
  rw [List.set_append_right _ _ (by simp), List.drop_eq_getElem_cons h, List.length_map, List.length_range, Nat.sub_self, List.set_cons_zero, List.range_succ, List.map_append, List.append_assoc]
  rfl
/-- The volume while the blocks of a stream are laid into it. -/
def fv (c : Int) (v : List Ct) (l : List (Int × B4)) : List Ct := l.foldl (fun v o => v.set o.1.toNat ⟨o.2, c⟩) v
theorem fv_len (c : Int) : ∀ (l : List (Int × B4)) (v : List Ct), (fv c v l).length = v.length
  | [], _ => rfl
  | x :: r, v => by
    have := fv_len c r (v.set x.1.toNat ⟨x.2, c⟩)
    rw [List.length_set] at this
    exact this
theorem fv_succ (c : Int) (v : List Ct) (l : List (Int × B4)) (k : Nat) (h : k < l.length) : fv c v (l.take (k + 1)) = (fv c v (l.take k)).set l[k].1.toNat ⟨l[k].2, c⟩ := by
  unfold fv
  rw [List.take_succ_eq_append_getElem h, List.foldl_append]
  rfl
def rvol (s : Sto) (f : Int) (l : List (Int × B4)) : List Ct := fv s.came (vk s f s.vol.length) l
def Sto.recv (s : Sto) (f t m : Int) (l : List (Int × B4)) (tx : ByteArray) (sv lv : Value) : Sto := (Sto.add { s with vol := rvol s f l } t m sv).noted 84 tx lv

structure RJ (B b : Nat) (w wr : World) (s : Sto) (V : List Ct) (bx : Nat) (f t m : Int) (n : Nat) (v : Value) (l : List (Int × B4)) : Prop where
  rep : Rep B wr b 1 { s with vol := V }
  fr : Fr (foot b s) w wr
  box : wr.heap[bx]? = some (.cells #[.int .i64 f, .int .i64 t, .int .i64 m, .int .i64 n, v] 133 (0, 0))
  row : wr.ownsRow w.heap.size 166 5 v l.length (blC l)

theorem RJ.put {B b : Nat} {w wr : World} {s : Sto} {V : List Ct} {bx : Nat} {f t m : Int} {n : Nat} {v : Value} {l : List (Int × B4)} (h : RJ B b w wr s V bx f t m n v l) (k : Nat) (x : Ct) (hk : k < V.length) : RJ B b w (World.put5 wr s.vb k x) s (V.set k x) bx f t m n v l := by
  have h2 : wr.heap[s.vb]? = some (.cells (volC V).toArray 92 (0, 0)) := h.rep.vol
  have hx : bx ≠ s.vb := fun e => by
    have h1 := h.box
    rw [← e, h1] at h2
    simp at h2
  have hr := h.rep.put5 k x hk
  refine ⟨hr, put5_fr h.fr (by simp [foot]), ?_, own_of_block h.row (fun j hj => put5_other _ _ _ _ _ (fun e => ?_))⟩
  · rw [put5_other _ _ _ _ _ hx]
    exact h.box
  · obtain ⟨_, cur, h1⟩ := own_tag h.row hj
    rw [← e, h1] at h2
    simp at h2
theorem RJ.same {B b : Nat} {w wr w' : World} {s : Sto} {V : List Ct} {bx : Nat} {f t m : Int} {n : Nat} {v : Value} {l : List (Int × B4)} (h : RJ B b w wr s V bx f t m n v l) (hf : Fr [] wr w') : RJ B b w w' s V bx f t m n v l :=
  ⟨h.rep.kept0 hf, h.fr.trans hf (by simp), by rw [hf.block bx (Array.getElem?_eq_some_iff.1 h.box).1 (by simp)]; exact h.box, own_fr' h.row hf⟩
/-- The cells of a block of the volume. -/
theorem RJ.vol {B b : Nat} {w wr : World} {s : Sto} {V : List Ct} {bx : Nat} {f t m : Int} {n : Nat} {v : Value} {l : List (Int × B4)} (h : RJ B b w wr s V bx f t m n v l) (k : Nat) (hk : k < V.length) : ∃ z : Ct, wr.cell? ⟨s.vb, k * 5, none⟩ = some (.int .u8 (z.x.a.toNat : Int)) ∧ wr.cell? ⟨s.vb, k * 5 + 1, none⟩ = some (.int .u8 (z.x.b.toNat : Int)) ∧ wr.cell? ⟨s.vb, k * 5 + 2, none⟩ = some (.int .u8 (z.x.c.toNat : Int)) ∧ wr.cell? ⟨s.vb, k * 5 + 3, none⟩ = some (.int .u8 (z.x.d.toNat : Int)) ∧ wr.cell? ⟨s.vb, k * 5 + 4, none⟩ = some (.int .i64 z.n) ∧ ∀ j, wr.frozen? ⟨s.vb, j, none⟩ = false := by
  have h2 : wr.heap[s.vb]? = some (.cells (volC V).toArray 92 (0, 0)) := h.rep.vol
  obtain ⟨g0, g1, g2, g3, g4⟩ := volC_get V k hk
  refine ⟨V[k], ?_, ?_, ?_, ?_, ?_, fun j => froz_of h2 j⟩
  · rw [cell_of h2, List.getElem?_toArray, g0]; rfl
  · rw [cell_of h2, List.getElem?_toArray, g1]; rfl
  · rw [cell_of h2, List.getElem?_toArray, g2]; rfl
  · rw [cell_of h2, List.getElem?_toArray, g3]; rfl
  · rw [cell_of h2, List.getElem?_toArray, g4]

set_option maxRecDepth 100000 in
set_option maxHeartbeats 6400000 in
theorem receive_ok (B b : Nat) (s : Sto) (tx : ByteArray) (w : World) (h : Rep B w b 0 s) (f t m : Int) (l : List (Int × B4))
    (hp : ∀ W, Calls Tryz.prog 59 #[.string tx] W fun e w' => ∃ v, e = .returned (.tuple #[.agg #[.int .i64 f, .int .i64 t, .int .i64 m, .int .i64 (s.vol.length : Int), v], .bool true]) ∧ w'.ownsRow W.heap.size 166 5 v l.length (blC l) ∧ Fr [] W w')
    (hs : s.ss.length < 12) (hms : s.ms.length ≤ 12) (hf1 : fi (fun y : Sn => y.guid == t) 0 s.ss = -1) (hf2 : fi (fun y : Int × Int => y.1 == t) 0 s.ms = -1) (hlast : f = lastG s.ss)
    (hr : ∀ k (h : k < l.length), 0 ≤ l[k].1 ∧ l[k].1 < s.vol.length) (hll : l.length ≤ 16) (hfv : In64 f) (htv : In64 t) (hc : 0 ≤ s.came ∧ s.came ≤ 1000000000000) (hv : s.vol.length ≤ 16) (hcnt : s.cnt + s.vol.length < maxLen) (hlog : s.log.length ≤ 140000000000000) (htx : tx.size ≤ 1000) :
    Calls Tryz.prog 57 #[.pointer (some ⟨b, 0, none⟩), .string tx] w fun e w' => e = .returned (.tuple #[.int .i64 t, .int .i64 0]) ∧ ∃ sv lv, Rep B w' b 0 (s.recv f t m l tx sv lv) ∧ Fr (foot b s) w w' ∧ (∀ k, sv.ownBlock = some k → s.sv.ownBlock = some k ∨ w.heap.size ≤ k) ∧ (∀ k, lv.ownBlock = some k → s.lv.ownBlock = some k ∨ w.heap.size ≤ k) := by
  have R1 := h.lock 1
  obtain ⟨w1, hw1⟩ : ∃ w1, w.setCell ⟨b, 0, none⟩ (.int .i32 1) = w1 := ⟨_, rfl⟩
  rw [hw1] at R1
  have HL := lock_free Tryz.muLib ⟨b, 0, none⟩ w h.cells.1 (h.frozen 0)
  have F1 : Fr (foot b s) w w1 := by rw [← hw1]; exact fr_lock b s w _
  have HF : Hid (w.setCell ⟨b, 0, none⟩ (.int .i32 1) = w1 ∧ Rep B w1 b 1 s ∧ Fr (foot b s) w w1) := ⟨hw1, R1, F1⟩
  obtain ⟨nv, hnv⟩ : ∃ nv, s.vol.length = nv := ⟨_, rfl⟩
  rw [hnv] at hp hr hv hcnt
  have HP : Hid (∀ W, Calls Tryz.prog 59 #[.string tx] W fun e w' => ∃ v, e = .returned (.tuple #[.agg #[.int .i64 f, .int .i64 t, .int .i64 m, .int .i64 (nv : Int), v], .bool true]) ∧ w'.ownsRow W.heap.size 166 5 v l.length (blC l) ∧ Fr [] W w') := hp
  have HAc : Hid (∀ W v, Rep B W b 1 s → (∃ a n c, v = .slice a n c) → Calls Tryz.prog 84 #[.pointer (some ⟨b, 0, none⟩), .agg #[.int .i64 f, .int .i64 t, .int .i64 m, .int .i64 (nv : Int), v]] W fun e w' => e = .returned (.int .i64 0) ∧ Fr [] W w') := fun W v hW hv => by
    have := accepts_ok B b 1 s f t m v W hW hs hms hv hf1 hf2 hlast
    rw [hnv] at this
    exact this
  have HFa : Hid (s.vol.length = nv ∧ In64 f ∧ In64 t ∧ (∀ k (h : k < l.length), 0 ≤ l[k].1 ∧ l[k].1 < nv) ∧ w.heap.size = w.heap.size) := ⟨hnv, hfv, htv, hr, rfl⟩
  have HAd : Hid (∀ W, Rep B W b 1 { s with vol := rvol s f l } → Calls Tryz.prog 69 #[.pointer (some ⟨b, 0, none⟩), .int .i64 t, .int .i64 m] W fun e w' => e = .returned (.tuple #[]) ∧ ∃ sv, Rep B w' b 1 (Sto.add { s with vol := rvol s f l } t m sv) ∧ Fr (foot b s) W w' ∧ (∀ k, sv.ownBlock = some k → s.sv.ownBlock = some k ∨ W.heap.size ≤ k)) := fun W hW => by
    have e : (rvol s f l).length = nv := by unfold rvol; rw [fv_len, vk_len _ _ _ (Nat.le_refl _), hnv]
    exact add_any B b 1 { s with vol := rvol s f l } t m W hW hs hc (by show (rvol s f l).length ≤ 16; omega) (by show s.cnt + (rvol s f l).length < maxLen; omega) htv
  have HNt : Hid (∀ W sv, Rep B W b 1 (Sto.add { s with vol := rvol s f l } t m sv) → Calls Tryz.prog 33 #[.pointer (some ⟨b, 0, none⟩), .int .u8 84, .string tx] W fun e w' => e = .returned (.tuple #[]) ∧ ∃ lv, Rep B w' b 1 ((Sto.add { s with vol := rvol s f l } t m sv).noted 84 tx lv) ∧ Fr (foot b (Sto.add { s with vol := rvol s f l } t m sv)) W w' ∧ (∀ k, lv.ownBlock = some k → s.lv.ownBlock = some k ∨ W.heap.size ≤ k)) := fun W sv hW => note_any B b 1 (Sto.add { s with vol := rvol s f l } t m sv) 84 tx W hW htx hlog
  unfold Sto.recv
  clear h R1 F1 hw1 hp hf1 hf2 hlast hr hfv htv hc hcnt hlog htx hs hms hnv
  go_enter_defers Tryz.func57, Tryz.ntmps57
  go_wp2_with (first
    | (go_at_call 30; refine HL.mono ?_; rintro e w' ⟨rfl, hw'⟩; rw [HF.out.1] at hw'; have hw' := hw'.symm; subst hw')
    | (go_at_call 59; refine (HP.out _).mono ?_; rintro e w2 ⟨v, rfl, o2, hfr⟩
       obtain ⟨va, vc, hva⟩ := own_shape o2
       subst hva
       have HR2 : Hid (RJ B b w (w2.alloc (.cells #[.int .i64 f, .int .i64 t, .int .i64 m, .int .i64 (nv : Int), .slice va l.length vc] 133)) s s.vol w2.heap.size f t m nv (.slice va l.length vc) l) := ⟨(HF.out.2.1.kept0 hfr).kept0 ((Fr.refl _ _).alloc _), (HF.out.2.2.trans hfr (by simp)).alloc _, heap_alloc_new w2 _, (by have o3 := o2.alloc (.cells #[.int .i64 f, .int .i64 t, .int .i64 m, .int .i64 (nv : Int), .slice va l.length vc] 133); refine ⟨o3.1, ?_⟩; rcases o3.2 with h0 | ⟨g, cap, cur, h1, h2, r⟩; exact .inl h0; exact .inr ⟨g, cap, cur, h1, Nat.le_trans HF.out.2.2.size h2, r⟩)⟩
       clear hfr o2)
    | (go_at_call 84; refine (HAc.out _ _ HR2.out.rep ⟨_, _, _, rfl⟩).mono ?_; rintro e w3 ⟨rfl, hfr⟩
       have HR3 : Hid (RJ B b w w3 s s.vol w2.heap.size f t m nv (.slice va l.length vc) l) := HR2.out.same hfr
       have c3 : w3.cell? ⟨b, 3, none⟩ = some (.slice (some ⟨s.vb, 0, none⟩) nv nv) := (by rw [← HFa.out.1]; exact HR3.out.rep.cells.2.2.1)
       clear hfr))
  obtain ⟨bx, hbx⟩ : ∃ bx, w2.heap.size = bx := ⟨_, rfl⟩
  rw [hbx] at HR3
  rw [hbx]
  clear HR2 hbx HL HP HAc
  go_loopw [37] (fun i wr => ∃ k : Nat, k ≤ nv ∧ i = .int .i64 k ∧ Hid (RJ B b w wr s (vk s f k) bx f t m nv (.slice va l.length vc) l)) (fun i _ => nv - (intOf i).toNat)
  case atStart => exact ⟨0, Nat.zero_le _, rfl, by rw [vk_zero]; exact HR3⟩
  case round =>
    obtain ⟨k, hk, rfl, HK⟩ := hrel
    obtain ⟨W3, hW3⟩ : ∃ W3, W3 = wr := ⟨_, rfl⟩
    subst hW3
    clear HR3 c3
    have hvl : (vk s f k).length = nv := by rw [vk_len _ _ _ (by rw [HFa.out.1]; exact hk), HFa.out.1]
    by_cases hlt : k < nv
    · have hltz : (k : Int) < (nv : Int) := by omega
      obtain ⟨z, v0, v1, v2, v3, v4, vz⟩ := HK.out.vol k (by omega)
      have z0 := vz (k * 5)
      have z1 := vz (k * 5 + 1)
      have z2 := vz (k * 5 + 2)
      have z3 := vz (k * 5 + 3)
      have z4 := vz (k * 5 + 4)
      have j3 : W3.cell? ⟨b, 3, none⟩ = some (.slice (some ⟨s.vb, 0, none⟩) nv nv) := by have := HK.out.rep.cells.2.2.1; simp only [hvl] at this; exact this
      have j5 : W3.cell? ⟨b, 5, none⟩ = some (.map (some s.mb)) := HK.out.rep.cells.2.2.2.2.1
      have x0 : W3.cell? ⟨bx, 0, none⟩ = some (.int .i64 f) := by rw [cell_of HK.out.box]; rfl
      have lk0 : (Instr.lookup 83 (.map (some s.mb)) (.agg #[.int .i64 f, .int .i64 k]) false).run Tryz.prog W3 = .ok (s.th f (k : Int)).val W3 := HK.out.rep.look HFa.out.2.1 (i := (k : Int)) ⟨by omega, by omega⟩
      have lk1 : (Instr.lookup 83 (.map (some s.mb)) (.agg #[.int .i64 f, .int .i64 k]) false).run Tryz.prog W3.drew = .ok (s.th f (k : Int)).val W3.drew := (HK.out.rep.kept0 (Fr.refl _ _).drew).look HFa.out.2.1 (i := (k : Int)) ⟨by omega, by omega⟩
      have HPt : Hid (RJ B b w (World.put5 W3 s.vb k (s.th f (k : Int))).drew s (vk s f (k + 1)) bx f t m nv (.slice va l.length vc) l) := by
        have := (HK.out.put k (s.th f (k : Int)) (by omega)).same (Fr.refl _ _).drew
        rw [vk_succ s f k (by rw [HFa.out.1]; exact hlt)] at this
        exact this
      obtain ⟨y, hy⟩ : ∃ y, s.th f (k : Int) = y := ⟨_, rfl⟩
      rw [hy] at lk0 lk1 HPt
      have lk : (Instr.lookup 83 (.map (some s.mb)) (.agg #[.int .i64 f, .int .i64 k]) false).run Tryz.prog W3 = .ok (.agg #[.int .u8 (y.x.a.toNat : Int), .int .u8 (y.x.b.toNat : Int), .int .u8 (y.x.c.toNat : Int), .int .u8 (y.x.d.toNat : Int), .int .i64 y.n]) W3 := lk0
      have lk2 : (Instr.lookup 83 (.map (some s.mb)) (.agg #[.int .i64 f, .int .i64 k]) false).run Tryz.prog W3.drew = .ok (.agg #[.int .u8 (y.x.a.toNat : Int), .int .u8 (y.x.b.toNat : Int), .int .u8 (y.x.c.toNat : Int), .int .u8 (y.x.d.toNat : Int), .int .i64 y.n]) W3.drew := lk1
      clear lk0 lk1 hy vz hvl
      go_wp2
      refine wp_region_noPanic ?_
      go_region
      refine NoPanic.normal ?_
      go_wp2
      go_roundw
      case rel => exact ⟨k + 1, by omega, by go_num, HPt⟩
      case measure => simp [intOf]; omega
    · have hkk : k = nv := by omega
      subst hkk
      have x4 : W3.cell? ⟨bx, 4, none⟩ = some (.slice va l.length vc) := by rw [cell_of HK.out.box]; rfl
      obtain ⟨V, hV⟩ : ∃ V, vk s f k = V := ⟨_, rfl⟩
      rw [hV] at hvl
      have HVe : Hid (vk s f k = V ∧ V.length = k ∧ rvol s f l = fv s.came V l) := ⟨hV, hvl, by unfold rvol; rw [HFa.out.1, hV]⟩
      rw [hV] at HK
      clear hV hvl
      go_wp2
      go_loopw [59] (fun i wr => ∃ j : Nat, j ≤ l.length ∧ i = .int .i64 j ∧ Hid (RJ B b w wr s (fv s.came V (l.take j)) bx f t m k (.slice va l.length vc) l)) (fun i _ => l.length - (intOf i).toNat)
      case atStart => exact ⟨0, Nat.zero_le _, rfl, by simpa [fv] using HK⟩
      case round =>
        obtain ⟨j, hj, rfl, HJ⟩ := hrel
        obtain ⟨W4, hW4⟩ : ∃ W4, W4 = wr := ⟨_, rfl⟩
        subst hW4
        clear HK x4
        have hfl : (fv s.came V (l.take j)).length = k := by rw [fv_len]; exact HVe.out.2.1
        by_cases hlt2 : j < l.length
        · have hltz : (j : Int) < (l.length : Int) := by omega
          obtain ⟨lg, hlg, hc9, hcc⟩ := own_addr' HJ.out.row (by omega)
          subst hlg
          have hb5 := blC_get l j hlt2
          have hrj := HFa.out.2.2.2.1 j hlt2
          have hsu := fv_succ s.came V l j hlt2
          obtain ⟨x, hx⟩ : ∃ x, l[j] = x := ⟨_, rfl⟩
          rw [hx] at hb5 hrj hsu
          obtain ⟨x1, x2⟩ := x
          simp only at hb5 hrj hsu
          obtain ⟨p, hp⟩ : ∃ p : Nat, x1 = (p : Int) := ⟨x1.toNat, by omega⟩
          subst hp
          have hpk : p < k := by omega
          have hpz : (p : Int) < (k : Int) := by omega
          have hp0 : (0 : Int) ≤ (p : Int) := by omega
          rw [Int.toNat_natCast] at hsu
          have d0 : W4.cell? ⟨lg, j * 5, none⟩ = some (.int .i64 (p : Int)) := by rw [hcc _ (by omega)]; exact hb5.1
          have d1 : W4.cell? ⟨lg, j * 5 + 1, none⟩ = some (.int .u8 (x2.a.toNat : Int)) := by rw [hcc _ (by omega)]; exact hb5.2.1
          have d2 : W4.cell? ⟨lg, j * 5 + 2, none⟩ = some (.int .u8 (x2.b.toNat : Int)) := by rw [hcc _ (by omega)]; exact hb5.2.2.1
          have d3 : W4.cell? ⟨lg, j * 5 + 3, none⟩ = some (.int .u8 (x2.c.toNat : Int)) := by rw [hcc _ (by omega)]; exact hb5.2.2.2.1
          have d4 : W4.cell? ⟨lg, j * 5 + 4, none⟩ = some (.int .u8 (x2.d.toNat : Int)) := by rw [hcc _ (by omega)]; exact hb5.2.2.2.2
          obtain ⟨W5, hW5⟩ : ∃ W5, W4.alloc (.cells #[.int .i64 (p : Int), .int .u8 (x2.a.toNat : Int), .int .u8 (x2.b.toNat : Int), .int .u8 (x2.c.toNat : Int), .int .u8 (x2.d.toNat : Int)] 166) = W5 := ⟨_, rfl⟩
          obtain ⟨b9, hb9⟩ : ∃ b9, W4.heap.size = b9 := ⟨_, rfl⟩
          have n9 : W5.heap[b9]? = some (.cells #[.int .i64 (p : Int), .int .u8 (x2.a.toNat : Int), .int .u8 (x2.b.toNat : Int), .int .u8 (x2.c.toNat : Int), .int .u8 (x2.d.toNat : Int)] 166 (0, 0)) := by rw [← hW5, ← hb9]; exact heap_alloc_new W4 _
          have HJ5 : Hid (RJ B b w W5 s (fv s.came V (l.take j)) bx f t m k (.slice (some ⟨lg, 0, none⟩) l.length vc) l) := by rw [← hW5]; exact HJ.out.same ((Fr.refl _ _).alloc _)
          obtain ⟨z, v0, v1, v2, v3, v4, vz⟩ := HJ5.out.vol p (by omega)
          have z0 := vz (p * 5)
          have z1 := vz (p * 5 + 1)
          have z2 := vz (p * 5 + 2)
          have z3 := vz (p * 5 + 3)
          have z4 := vz (p * 5 + 4)
          have g0 : W5.cell? ⟨b9, 0, none⟩ = some (.int .i64 (p : Int)) := by rw [cell_of n9]; rfl
          have g1 : W5.cell? ⟨b9, 1, none⟩ = some (.int .u8 (x2.a.toNat : Int)) := by rw [cell_of n9]; rfl
          have g2 : W5.cell? ⟨b9, 2, none⟩ = some (.int .u8 (x2.b.toNat : Int)) := by rw [cell_of n9]; rfl
          have g3 : W5.cell? ⟨b9, 3, none⟩ = some (.int .u8 (x2.c.toNat : Int)) := by rw [cell_of n9]; rfl
          have g4 : W5.cell? ⟨b9, 4, none⟩ = some (.int .u8 (x2.d.toNat : Int)) := by rw [cell_of n9]; rfl
          have j3 : W5.cell? ⟨b, 3, none⟩ = some (.slice (some ⟨s.vb, 0, none⟩) k k) := by have := HJ5.out.rep.cells.2.2.1; simp only [hfl] at this; exact this
          have j7 : W5.cell? ⟨b, 7, none⟩ = some (.int .i64 s.came) := HJ5.out.rep.cells.2.2.2.2.2.2.1
          have HPt : Hid (RJ B b w (World.put5 W5 s.vb p ⟨x2, s.came⟩).drew s (fv s.came V (l.take (j + 1))) bx f t m k (.slice (some ⟨lg, 0, none⟩) l.length vc) l) := by
            have := (HJ5.out.put p ⟨x2, s.came⟩ (by omega)).same (Fr.refl _ _).drew
            rw [← hsu] at this
            exact this
          clear vz hfl hcc hb5 hx hsu hrj n9 HJ
          go_wp2
          clear hW5 hb9 d0 d1 d2 d3 d4
          refine wp_region_noPanic ?_
          go_region
          refine NoPanic.normal ?_
          go_wp2
          go_roundw
          case rel => exact ⟨j + 1, by omega, by go_num, HPt⟩
          case measure => simp [intOf]; omega
        · have hjj : j = l.length := by omega
          subst hjj
          have HE : Hid (RJ B b w W4 s (rvol s f l) bx f t m k (.slice va l.length vc) l) := by
            have := HJ.out
            rw [List.take_length] at this
            rw [HVe.out.2.2]
            exact this
          have x1 : W4.cell? ⟨bx, 1, none⟩ = some (.int .i64 t) := by rw [cell_of HE.out.box]; rfl
          have x2 : W4.cell? ⟨bx, 2, none⟩ = some (.int .i64 m) := by rw [cell_of HE.out.box]; rfl
          clear HJ hfl
          have HBX : Hid (∀ W, Fr (foot b s) W4 W → W.heap[bx]? = some (.cells #[.int .i64 f, .int .i64 t, .int .i64 m, .int .i64 k, .slice va l.length vc] 133 (0, 0))) := fun W hW => by
            have hn : bx ∉ foot b { s with vol := rvol s f l } := tag_foot HE.out.rep HE.out.box (by decide)
            rw [hW.block bx (Array.getElem?_eq_some_iff.1 HE.out.box).1 hn]
            exact HE.out.box
          go_wp2_with (first
            | (go_at_call 69; refine (HAd.out _ HE.out.rep).mono ?_; rintro e w5 ⟨rfl, sv, r5, f5, a5⟩
               have HR5 : Hid (Rep B w5 b 1 (Sto.add { s with vol := rvol s f l } t m sv) ∧ Fr (foot b s) w w5 ∧ (∀ k, sv.ownBlock = some k → s.sv.ownBlock = some k ∨ w.heap.size ≤ k) ∧ Fr (foot b s) W4 w5) := ⟨r5, HE.out.fr.trans f5 (fun k hk => Or.inl hk), fun k hk => (a5 k hk).imp_right (fun h => Nat.le_trans HE.out.fr.size h), f5⟩
               clear r5 f5 a5)
            | (go_at_call 33; refine (HNt.out _ sv HR5.out.1).mono ?_; rintro e w6 ⟨rfl, lv, r6, f6, a6⟩
               have HR6 : Hid (Rep B w6 b 1 ((Sto.add { s with vol := rvol s f l } t m sv).noted 84 tx lv) ∧ Fr (foot b s) w w6 ∧ (∀ k, lv.ownBlock = some k → s.lv.ownBlock = some k ∨ w.heap.size ≤ k)) := ⟨r6, HR5.out.2.1.trans f6 (fun k hk => add_foot (s := { s with vol := rvol s f l }) (n := s.taken) HR5.out.2.2.1 hk), fun k hk => (a6 k hk).imp_right (fun h => Nat.le_trans HR5.out.2.1.size h)⟩
               have x6 : w6.cell? ⟨bx, 1, none⟩ = some (.int .i64 t) := (by
                 have hh := HBX.out w5 HR5.out.2.2.2
                 have hn : bx ∉ foot b (Sto.add { s with vol := rvol s f l } t m sv) := tag_foot HR5.out.1 hh (by decide)
                 have h6 := (f6.block bx (Array.getElem?_eq_some_iff.1 hh).1 hn).trans hh
                 rw [cell_of h6]
                 rfl)
               clear r6 f6 a6))
          refine leaves_cons (f := 31) (args := #[.pointer (some ⟨b, 0, none⟩)]) (by simp) (by simp [go_sem]) ?_
          refine (unlock_deferred Tryz.muLib ⟨b, 0, none⟩ .returning _ HR6.out.1.cells.1 (HR6.out.1.frozen 0)).mono ?_
          rintro e u' w'' ⟨rfl, rfl, rfl⟩
          exact ⟨_, results_tmp2 rfl _ _ _, rfl, sv, lv, HR6.out.1.lock 0, HR6.out.2.1.setCell _ (Or.inl (by simp [foot])), HR5.out.2.2.1, HR6.out.2.2⟩
end Go.Proofs.YthdhegmlknpllabGreatDoor

/-
  The walk of Receive (32), where the snapshot is there already.
-/
namespace Go.Proofs.YthdhegmlknpllabGreatDoor
open Go.RowKit Go.Maps Go.MuLone

set_option maxRecDepth 100000 in
set_option maxHeartbeats 3200000 in
theorem receive_dup (B b : Nat) (s : Sto) (tx : ByteArray) (w : World) (h : Rep B w b 0 s) (f t m : Int) (l : List (Int × B4)) (j : Nat)
    (hp : ∀ W, Calls Tryz.prog 59 #[.string tx] W fun e w' => ∃ v, e = .returned (.tuple #[.agg #[.int .i64 f, .int .i64 t, .int .i64 m, .int .i64 (s.vol.length : Int), v], .bool true]) ∧ w'.ownsRow W.heap.size 166 5 v l.length (blC l) ∧ Fr [] W w')
    (hs : s.ss.length ≤ 12) (hf : fi (fun y : Sn => y.guid == t) 0 s.ss = (j : Int)) :
    Calls Tryz.prog 57 #[.pointer (some ⟨b, 0, none⟩), .string tx] w fun e w' => e = .returned (.tuple #[.int .i64 0, .int .i64 7]) ∧ Rep B w' b 0 s ∧ Fr (foot b s) w w' := by
  have R1 := h.lock 1
  obtain ⟨w1, hw1⟩ : ∃ w1, w.setCell ⟨b, 0, none⟩ (.int .i32 1) = w1 := ⟨_, rfl⟩
  rw [hw1] at R1
  have HL := lock_free Tryz.muLib ⟨b, 0, none⟩ w h.cells.1 (h.frozen 0)
  have F1 : Fr (foot b s) w w1 := by rw [← hw1]; exact fr_lock b s w _
  have HF : Hid (w.setCell ⟨b, 0, none⟩ (.int .i32 1) = w1 ∧ Rep B w1 b 1 s ∧ Fr (foot b s) w w1) := ⟨hw1, R1, F1⟩
  obtain ⟨nv, hnv⟩ : ∃ nv, s.vol.length = nv := ⟨_, rfl⟩
  rw [hnv] at hp
  have HP : Hid (∀ W, Calls Tryz.prog 59 #[.string tx] W fun e w' => ∃ v, e = .returned (.tuple #[.agg #[.int .i64 f, .int .i64 t, .int .i64 m, .int .i64 (nv : Int), v], .bool true]) ∧ w'.ownsRow W.heap.size 166 5 v l.length (blC l) ∧ Fr [] W w') := hp
  have HAc : Hid (∀ W v, Rep B W b 1 s → (∃ a n c, v = .slice a n c) → Calls Tryz.prog 84 #[.pointer (some ⟨b, 0, none⟩), .agg #[.int .i64 f, .int .i64 t, .int .i64 m, .int .i64 (nv : Int), v]] W fun e w' => e = .returned (.int .i64 7) ∧ Fr [] W w') := fun W v hW hv => by
    have := accepts_dup B b 1 s f t m v j W hW hs hv hf
    rw [hnv] at this
    exact this
  clear h R1 F1 hw1 hp hf hs hnv
  go_enter_defers Tryz.func57, Tryz.ntmps57
  go_wp2_with (first
    | (go_at_call 30; refine HL.mono ?_; rintro e w' ⟨rfl, hw'⟩; rw [HF.out.1] at hw'; have hw' := hw'.symm; subst hw')
    | (go_at_call 59; refine (HP.out _).mono ?_; rintro e w2 ⟨v, rfl, o2, hfr⟩
       obtain ⟨va, vc, hva⟩ := own_shape o2
       subst hva
       have HR2 : Hid (Rep B (w2.alloc (.cells #[.int .i64 f, .int .i64 t, .int .i64 m, .int .i64 (nv : Int), .slice va l.length vc] 133)) b 1 s ∧ Fr (foot b s) w (w2.alloc (.cells #[.int .i64 f, .int .i64 t, .int .i64 m, .int .i64 (nv : Int), .slice va l.length vc] 133))) := ⟨(HF.out.2.1.kept0 hfr).kept0 ((Fr.refl _ _).alloc _), (HF.out.2.2.trans hfr (by simp)).alloc _⟩
       clear hfr o2)
    | (go_at_call 84; refine (HAc.out _ _ HR2.out.1 ⟨_, _, _, rfl⟩).mono ?_; rintro e w3 ⟨rfl, hfr⟩
       have HR3 : Hid (Rep B w3 b 1 s ∧ Fr (foot b s) w w3) := ⟨HR2.out.1.kept0 hfr, HR2.out.2.trans hfr (by simp)⟩
       clear hfr))
  refine leaves_cons (f := 31) (args := #[.pointer (some ⟨b, 0, none⟩)]) (by simp) (by simp [go_sem]) ?_
  refine (unlock_deferred Tryz.muLib ⟨b, 0, none⟩ .returning _ HR3.out.1.cells.1 (HR3.out.1.frozen 0)).mono ?_
  rintro e u' w'' ⟨rfl, rfl, rfl⟩
  exact ⟨_, results_tmp2 rfl _ _ _, rfl, HR3.out.1.lock 0, HR3.out.2.setCell _ (Or.inl (by simp [foot]))⟩
end Go.Proofs.YthdhegmlknpllabGreatDoor
