/-
  The reference's Snap (24): what its wide region does.
-/
import Derived.Test.YthdhegmlknpllaaGreatRum
import Derived.Deep.MidRow
namespace Go.Proofs.YthdhegmlknpllaaGreat
open Go.RowKit Go.Maps Go.MuLone

theorem info108 : (Tryz.prog.info? 117).map (fun i => (i.size, i.bytes)) = some (36, 416) := by kernel_rfl
theorem info108z : ((Tryz.prog.info? 117).bind (fun i => i.zero)).map (fun z => z.cells.size) = some 36 := by kernel_rfl

theorem list16 {α : Type} : ∀ (l : List α), l.length = 16 → ∃ a0 a1 a2 a3 a4 a5 a6 a7 a8 a9 a10 a11 a12 a13 a14 a15, l = [a0, a1, a2, a3, a4, a5, a6, a7, a8, a9, a10, a11, a12, a13, a14, a15]
  | [a0, a1, a2, a3, a4, a5, a6, a7, a8, a9, a10, a11, a12, a13, a14, a15], _ => ⟨a0, a1, a2, a3, a4, a5, a6, a7, a8, a9, a10, a11, a12, a13, a14, a15, rfl⟩

/-- The next guid is new. -/
def RFree (s : RSto) : Prop := (s.sh.any (fun x => x.guid == 1000000 * s.id + (s.last + 1)) || s.ms.any (fun x => x.1 == 1000000 * s.id + (s.last + 1))) = false
def RSto.snap (s : RSto) (t : Int) (sv : Value) : RSto :=
  { s with now := s.now + 1, last := s.last + 1, sh := s.sh ++ [⟨1000000 * s.id + (s.last + 1), t, 0, s.now + 1, s.dat, s.born⟩], sv := sv }

theorem cset_sv (s : RSto) (hd : s.dat.length = 16) (hb : s.born.length = 16) (v : Value) : s.cells.set 36 v = { s with sv := v }.cells := by
  unfold RSto.cells
  rw [List.set_append_right _ _ (by simp), show 36 - [Value.int .i64 s.id, .int .i64 s.blocks, .int .i64 s.now, .int .i64 s.last].length = 32 by simp, List.set_append_right _ _ (by simp [datC, hd]), show 32 - (datC s.dat).length = 16 by simp [datC, hd], List.set_append_right _ _ (by simp [bornC, hb]), show 16 - (bornC s.born).length = 0 by simp [bornC, hb]]
  rfl

/-- Behind the append. -/
theorem RRep.appended {B : Nat} {w w' : World} {b : Nat} {s : RSto} (h : RRep B w b s) {x : RSh} (hx : x.wf) {sv : Value} (ho : w'.ownsRow B 117 36 sv (s.sh.length + 1) (rshC s.sh ++ x.cells)) (hg : w.grownBy w' s.sv.ownBlock) :
    RRep B (w'.setCell ⟨b, 36, none⟩ sv) b { s with sh := s.sh ++ [x], sv := sv } := by
  obtain ⟨a1, a2⟩ := h.apart
  have hb : w'.heap[b]? = some (.cells s.cells.toArray 86 (0, 0)) := by rw [hg.block b (h.lt b (by simp [rfoot])).2 (fun e => (a1 b e.symm).1 rfl)]; exact h.blk
  have hsb : ∀ k, sv.ownBlock = some k → k ≠ b := fun k hk e => by
    obtain ⟨_, cur, h4⟩ := own_tag ho hk
    rw [e, hb] at h4
    simp at h4
  refine ⟨?_, h.d16, h.b16, fun y hy => ?_, ?_, ?_, h.hb⟩
  · rw [heap_setCell_same w' b 36 _ _ _ hb]
    have := cset_sv s h.d16 h.b16 sv
    rw [show ({ s with sh := s.sh ++ [x], sv := sv } : RSto).cells = ({ s with sv := sv } : RSto).cells from rfl, ← this]
    simp
  · rcases List.mem_append.1 hy with hy | hy
    · exact h.wf y hy
    · have : y = x := by simpa using hy
      rw [this]; exact hx
  · refine own_of_block (w := w') ?_ (fun k hk => heap_setCell_other _ _ _ _ (hsb k hk))
    show w'.ownsRow B 117 36 sv (s.sh ++ [x]).length (rshC (s.sh ++ [x]))
    rw [show rshC (s.sh ++ [x]) = rshC s.sh ++ x.cells by simp [rshC], List.length_append]
    exact ho
  · refine own_of_block h.ms (fun k hk => ?_)
    rw [heap_setCell_other _ _ _ _ (a2 k hk), hg.block k (h.ms.lt k hk).2 (fun e => (a1 k e.symm).2 hk)]


set_option maxRecDepth 100000 in
theorem run_build108 (p t q : Int) (W : World) : ∀ (cs : List Value), cs.length = 32 → (Instr.build 117 #[(0, .int .i64 p), (1, .int .i64 t), (3, .int .i64 q), (4, .agg cs.toArray)]).run Tryz.prog W = .ok (.agg (.int .i64 p :: .int .i64 t :: .int .i64 0 :: .int .i64 q :: cs).toArray) W
  | a0 :: a1 :: a2 :: a3 :: a4 :: a5 :: a6 :: a7 :: a8 :: a9 :: a10 :: a11 :: a12 :: a13 :: a14 :: a15 :: a16 :: a17 :: a18 :: a19 :: a20 :: a21 :: a22 :: a23 :: a24 :: a25 :: a26 :: a27 :: a28 :: a29 :: a30 :: a31   :: [], _ => by kernel_rfl

set_option maxRecDepth 100000 in
theorem run_bslice80 (W : World) : ∀ (X : List Value), X.length = 36 → (Instr.buildSlice 83 1 #[(0, .agg X.toArray)]).run Tryz.prog W = .ok (.slice (some ⟨W.heap.size, 0, none⟩) 1 1) (W.alloc (.cells X.toArray 117))
  | a0 :: a1 :: a2 :: a3 :: a4 :: a5 :: a6 :: a7 :: a8 :: a9 :: a10 :: a11 :: a12 :: a13 :: a14 :: a15 :: a16 :: a17 :: a18 :: a19 :: a20 :: a21 :: a22 :: a23 :: a24 :: a25 :: a26 :: a27 :: a28 :: a29 :: a30 :: a31 :: a32 :: a33 :: a34 :: a35 :: [], _ => by kernel_rfl
theorem size79 : (Tryz.prog.info? 82).map (·.size) = some 32 := by kernel_rfl
theorem RRep.range {B : Nat} {w : World} {b : Nat} {s : RSto} (h : RRep B w b s) : w.rangeAt b 4 (datC s.dat ++ bornC s.born) := by
  intro j v hv
  have hj : j < 32 := by
    have := (List.getElem?_eq_some_iff.1 hv).1
    simpa [datC, bornC, h.d16, h.b16] using this
  rw [cell_of h.blk, List.getElem?_toArray]
  unfold RSto.cells
  rw [List.getElem?_append_right (by simp), show 4 + j - [Value.int .i64 s.id, .int .i64 s.blocks, .int .i64 s.now, .int .i64 s.last].length = j by simp, ← List.append_assoc, List.getElem?_append_left (by simp [datC, bornC, h.d16, h.b16]; omega)]
  exact hv

theorem la3 (a : Addr) (W : World) : (Instr.loadAt 3 (.pointer (some a))).run Tryz.prog W = (load a).run Tryz.prog W := by
  simp only [Instr.loadAt, Instr.sureAddr, loadVar, Sem.run_bind, Sem.run_pure, Result.andThen_ok, Tryz.isAgg3]
  rfl
theorem la80 (a : Addr) (W : World) : (Instr.loadAt 83 (.pointer (some a))).run Tryz.prog W = (load a).run Tryz.prog W := by
  simp only [Instr.loadAt, Instr.sureAddr, loadVar, Sem.run_bind, Sem.run_pure, Result.andThen_ok, Tryz.isAgg83]
  rfl
theorem rsnap_end {B b cap cap1 gg : Nat} {ao : Option Addr} {s : RSto} {t : Int} {w w1 w9 : World} {X : List Value} (hR : RRep B w1 b { s with now := s.now + 1, last := s.last + 1 }) (hF : Fr (rfoot b s) w w1) (hz : w1.heap.size = w.heap.size) (hsv : s.sv = .slice ao s.sh.length cap)
    (hX : (Value.int .i64 (1000000 * s.id + (s.last + 1)) :: .int .i64 t :: .int .i64 0 :: .int .i64 (s.now + 1) :: (datC s.dat ++ bornC s.born)) = X) (hd : s.dat.length = 16) (hb : s.born.length = 16)
    (hown : w9.ownsRow B 117 36 (.slice (some ⟨gg, 0, none⟩) (s.sh.length + 1) cap1) (s.sh.length + 1) (rshC s.sh ++ X)) (hgrow : (w1.alloc (.cells X.toArray 117)).drew.grownBy w9 (Value.slice ao s.sh.length cap).ownBlock) (hat : (Value.slice ao s.sh.length cap).ownBlock = some gg ∨ gg = w1.heap.size + 1) :
    ∃ sv, RRep B (w9.setCell ⟨b, 36, none⟩ (.slice (some ⟨gg, 0, none⟩) (s.sh.length + 1) cap1)) b (s.snap t sv) ∧ Fr (rfoot b s) w (w9.setCell ⟨b, 36, none⟩ (.slice (some ⟨gg, 0, none⟩) (s.sh.length + 1) cap1)) ∧ (∀ k, sv.ownBlock = some k → s.sv.ownBlock = some k ∨ w.heap.size ≤ k) := by
  rw [← hsv] at hgrow hat
  have hg1 : w1.grownBy w9 s.sv.ownBlock := ⟨hgrow.os, hgrow.tape, hgrow.output, by have := hgrow.size; simp at this; omega, fun k hk hne => (hgrow.block k (by simp; omega) hne).trans (Below.heap_alloc w1 _ k hk)⟩
  have hx : (⟨1000000 * s.id + (s.last + 1), t, 0, s.now + 1, s.dat, s.born⟩ : RSh).cells = X := by rw [← hX]; rfl
  refine ⟨_, hR.appended (x := ⟨1000000 * s.id + (s.last + 1), t, 0, s.now + 1, s.dat, s.born⟩) ⟨hd, hb⟩ (by rw [hx]; exact hown) hg1, (hF.grown hg1 (fun k hk => Or.inl (by simp [rfoot, hk]))).setCell _ (Or.inl (by simp [rfoot])), fun k hk => ?_⟩
  have e : gg = k := by simpa [Value.ownBlock] using hk
  subst e
  rcases hat with h | h
  · exact Or.inl h
  · exact Or.inr (by omega)
end Go.Proofs.YthdhegmlknpllaaGreat
