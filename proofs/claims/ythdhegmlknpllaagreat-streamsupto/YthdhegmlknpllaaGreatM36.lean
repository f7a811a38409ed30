import Derived.Test.YthdhegmlknpllaaGreatM34
/-
  What holds while ParseStream (74) reads the blocks.
-/
namespace Go.Proofs.YthdhegmlknpllaaGreat
open Go.RowKit Go.Maps Go.MuLone

theorem PJ.apart {w W : World} {bx rb : Nat} {r : RS} (h : PJ w W bx rb r) : bx ≠ rb := fun e => by
  have h1 := h.box
  have h2 := h.rd
  unfold Rdr at h2
  unfold z116 at h1
  rw [e, h2] at h1
  simp at h1

structure PK (w W : World) (bx rb bs : Nat) (r : RS) (f t m nb : Int) (vf : Value) (l : List (Int × B4)) : Prop where
  pj : PJ w W bx rb r
  box : W.heap[bs]? = some (.cells #[.int .i64 f, .int .i64 t, .int .i64 m, .int .i64 nb, vf] 135 (0, 0))
  row : W.ownsRow w.heap.size 137 5 vf l.length (blC l)
  ge : w.heap.size ≤ bs
  ne : bs ≠ bx

theorem PK.read {w W W' : World} {bx rb bs n : Nat} {r : RS} {f t m nb : Int} {vf : Value} {l : List (Int × B4)} (h : PK w W bx rb bs r f t m nb vf l) (hr : PJ w W' bx rb (rdN r n)) (hf : Fr [rb] W W') : PK w W' bx rb bs (rdN r n) f t m nb vf l := by
  have hne : bs ≠ rb := fun e => by
    have h1 := h.box
    have h2 := h.pj.rd
    unfold Rdr at h2
    rw [e, h2] at h1
    simp at h1
  refine ⟨hr, ?_, own_of_block h.row (fun k hk => hf.block k (h.row.lt k hk).2 ?_), h.ge, h.ne⟩
  · rw [hf.block bs (Array.getElem?_eq_some_iff.1 h.box).1 (by simpa using hne)]
    exact h.box
  · intro e
    obtain ⟨_, cur, h2⟩ := own_tag h.row hk
    have h3 := h.pj.rd
    unfold Rdr at h3
    simp at e
    rw [e, h3] at h2
    simp at h2

theorem PK.alloc {w W : World} {bx rb bs : Nat} {r : RS} {f t m nb : Int} {vf : Value} {l : List (Int × B4)} (h : PK w W bx rb bs r f t m nb vf l) (o : Obj) : PK w (W.alloc o) bx rb bs r f t m nb vf l :=
  ⟨h.pj.alloc o, by rw [Below.heap_alloc _ _ _ (Array.getElem?_eq_some_iff.1 h.box).1]; exact h.box, h.row.alloc _, h.ge, h.ne⟩
theorem PK.drew {w W : World} {bx rb bs : Nat} {r : RS} {f t m nb : Int} {vf : Value} {l : List (Int × B4)} (h : PK w W bx rb bs r f t m nb vf l) : PK w W.drew bx rb bs r f t m nb vf l :=
  ⟨⟨h.pj.rd, h.pj.fr.drew, h.pj.box, h.pj.le, h.pj.le2⟩, h.box, own_of_block h.row (fun _ _ => rfl), h.ge, h.ne⟩

/-- A block behind all of these is written. -/
theorem PK.other {w W W' : World} {bx rb bs b8 : Nat} {r : RS} {f t m nb : Int} {vf : Value} {l : List (Int × B4)} (h : PK w W bx rb bs r f t m nb vf l) (hf : Fr [b8] W W') (h1 : b8 ≠ bx ∧ b8 ≠ rb ∧ b8 ≠ bs) (h2 : ∀ k, vf.ownBlock = some k → k ≠ b8) (h3 : w.heap.size ≤ b8) : PK w W' bx rb bs r f t m nb vf l := by
  refine ⟨⟨?_, h.pj.fr.trans hf (fun k hk => Or.inr (by simp at hk; subst hk; exact h3)), ?_, h.pj.le, h.pj.le2⟩, ?_, own_of_block h.row (fun k hk => hf.block k (h.row.lt k hk).2 (by simpa using h2 k hk)), h.ge, h.ne⟩
  · have := h.pj.rd
    unfold Rdr at this ⊢
    rw [hf.block rb (Array.getElem?_eq_some_iff.1 this).1 (by simpa using (Ne.symm h1.2.1))]
    exact this
  · rw [hf.block bx (Array.getElem?_eq_some_iff.1 h.pj.box).1 (by simpa using (Ne.symm h1.1))]
    exact h.pj.box
  · rw [hf.block bs (Array.getElem?_eq_some_iff.1 h.box).1 (by simpa using (Ne.symm h1.2.2))]
    exact h.box

theorem PK.lts {w W : World} {bx rb bs : Nat} {r : RS} {f t m nb : Int} {vf : Value} {l : List (Int × B4)} (h : PK w W bx rb bs r f t m nb vf l) : bx < W.heap.size ∧ rb < W.heap.size ∧ bs < W.heap.size ∧ ∀ k, vf.ownBlock = some k → k < W.heap.size := by
  have := h.pj.rd
  unfold Rdr at this
  exact ⟨(Array.getElem?_eq_some_iff.1 h.pj.box).1, (Array.getElem?_eq_some_iff.1 this).1, (Array.getElem?_eq_some_iff.1 h.box).1, fun k hk => (h.row.lt k hk).2⟩

theorem PK.push {w wr w9 : World} {bx rb bs : Nat} {r : RS} {f t m nb : Int} {vf v9 : Value} {l : List (Int × B4)} {x : Int × B4} (h : PK w wr bx rb bs r f t m nb vf l) (ho : w9.ownsRow w.heap.size 137 5 v9 (l.length + 1) (blC l ++ bkC x)) (hg : wr.grownBy w9 vf.ownBlock) :
    PK w (w9.setCell ⟨bs, 4, none⟩ v9) bx rb bs r f t m nb v9 (l ++ [x]) ∧ w9.cell? ⟨bs, 4, none⟩ = some vf ∧ w9.frozen? ⟨bs, 4, none⟩ = false := by
  have tag : ∀ k, vf.ownBlock = some k → ∃ cur, wr.heap[k]? = some (.cells cur 137 (0, 0)) := fun k hk => (own_tag h.row hk).2
  have rd := h.pj.rd
  unfold Rdr at rd
  have hbx := h.pj.box
  unfold z116 at hbx
  have n1 : some bs ≠ vf.ownBlock := fun e => by
    obtain ⟨cur, h2⟩ := tag bs e.symm
    rw [h.box] at h2
    simp at h2
  have n2 : some rb ≠ vf.ownBlock := fun e => by
    obtain ⟨cur, h2⟩ := tag rb e.symm
    rw [rd] at h2
    simp at h2
  have n3 : some bx ≠ vf.ownBlock := fun e => by
    obtain ⟨cur, h2⟩ := tag bx e.symm
    rw [hbx] at h2
    simp at h2
  obtain ⟨l1, l2, l3, l4⟩ := h.lts
  have b9 : w9.heap[bs]? = some (.cells #[.int .i64 f, .int .i64 t, .int .i64 m, .int .i64 nb, vf] 135 (0, 0)) := by rw [hg.block bs l3 n1]; exact h.box
  have r9 : w9.heap[rb]? = some (.cells #[.string r.1, .bool r.2] 166 (0, 0)) := by rw [hg.block rb l2 n2]; exact rd
  have x9 : w9.heap[bx]? = some z116 := by rw [hg.block bx l1 n3]; exact h.pj.box
  have hrs : rb ≠ bs := fun e => by rw [e, b9] at r9; simp at r9
  have hne9 : ∀ k, v9.ownBlock = some k → k ≠ bs := fun k hk e => by
    obtain ⟨_, cur, h2⟩ := own_tag ho hk
    rw [e, b9] at h2
    simp at h2
  refine ⟨⟨⟨?_, (h.pj.fr.grown hg (fun k hk => Or.inr (h.row.lt k hk).1)).setCell _ (Or.inr h.ge), ?_, h.pj.le, h.pj.le2⟩, ?_, ?_, h.ge, h.ne⟩, ?_, froz_of b9 _⟩
  · unfold Rdr
    rw [heap_setCell_other _ _ _ _ hrs]
    exact r9
  · rw [heap_setCell_other _ _ _ _ (Ne.symm h.ne)]
    exact x9
  · rw [heap_setCell_same w9 bs 4 _ _ _ b9]
    rfl
  · have e : blC (l ++ [x]) = blC l ++ bkC x := by simp [blC]
    rw [e, List.length_append]
    exact own_of_block ho (fun k hk => heap_setCell_other _ _ _ _ (hne9 k hk))
  · rw [cell_of b9]
    rfl
end Go.Proofs.YthdhegmlknpllaaGreat
