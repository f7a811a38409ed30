import Derived.Test.YthdhegmlknpllaaGreatM31
import Derived.Test.YthdhegmlknpllaaGreatM22
namespace Go.Proofs.YthdhegmlknpllaaGreat
open Go.RowKit Go.Maps Go.MuLone
theorem setCs_heap (b : Nat) (t : TypeId) : ∀ (vs : List Value) (o : Nat) (w : World) (C : List Value), w.heap[b]? = some (.cells C.toArray t (0, 0)) → o + vs.length ≤ C.length → (w.setCells b o vs).heap[b]? = some (.cells (C.take o ++ vs ++ C.drop (o + vs.length)).toArray t (0, 0))
 | [], o, w, C, h, _ => by
  show w.heap[b]? = _
  rw [h]
  simp
 | v :: r, o, w, C, h, hl => by
  simp only [List.length_cons] at hl
  have h1 : (w.setCell ⟨b, o, none⟩ v).heap[b]? = some (.cells (C.set o v).toArray t (0, 0)) := by
   rw [heap_setCell_same w b o _ _ v h]
   simp
  have ih := setCs_heap b t r (o + 1) _ (C.set o v) h1 (by rw [List.length_set]; omega)
  show ((w.setCell ⟨b, o, none⟩ v).setCells b (o + 1) r).heap[b]? = _
  rw [ih]
  congr 3
  rw [List.take_set, List.drop_set]
  have e1 : (C.take (o + 1)).set o v = C.take o ++ [v] := by
   rw [List.take_succ_eq_append_getElem (by omega), List.set_append_right _ _ (by rw [List.length_take]; omega), List.length_take, Nat.min_eq_left (by omega), Nat.sub_self]
   rfl
  rw [e1, if_pos (by omega)]
  simp only [List.length_cons, List.append_assoc, List.singleton_append]
  rw [show o + 1 + r.length = o + (r.length + 1) by omega]
  try rfl
theorem setCs_other (b : Nat) : ∀ (vs : List Value) (o : Nat) (w : World) (k : Nat), k ≠ b → (w.setCells b o vs).heap[k]? = w.heap[k]?
 | [], _, _, _, _ => rfl
 | v :: r, o, w, k, hk => by
  show ((w.setCell ⟨b, o, none⟩ v).setCells b (o + 1) r).heap[k]? = _
  rw [setCs_other b r (o + 1) _ k hk, heap_setCell_other _ _ _ _ hk]
theorem setCs_fr {F : List Nat} {w : World} {b : Nat} (hb : b ∈ F) : ∀ (vs : List Value) (o : Nat) (W : World), Fr F w W → Fr F w (W.setCells b o vs)
 | [], _, _, h => h
 | v :: r, o, _, h => setCs_fr hb r (o + 1) _ (h.setCell v (Or.inl hb))
theorem RRep.setV {B : Nat} {w : World} {b : Nat} {s : RSto} (h : RRep B w b s) (D : List ByteArray) (Bo : List Int) (hD : D.length = 16) (hB : Bo.length = 16) : RRep B (w.setCells b 4 (datC D ++ bornC Bo)) b { s with dat := D, born := Bo } := by
 obtain ⟨a1, a2⟩ := h.apart
 have hlen : (datC D ++ bornC Bo).length = 32 := by simp [datC, bornC, hD, hB]
 have hcl : s.cells.length = 38 := by simp [RSto.cells, datC, bornC, h.d16, h.b16]
 refine ⟨?_, hD, hB, h.wf, own_of_block h.sh (fun k hk => setCs_other _ _ _ _ _ (a1 k hk).1), own_of_block h.ms (fun k hk => setCs_other _ _ _ _ _ (a2 k hk)), h.hb⟩
 rw [setCs_heap b 86 _ 4 w s.cells h.blk (by rw [hlen, hcl]; omega), hlen]
 have e1 : s.cells.take 4 = [Value.int .i64 s.id, .int .i64 s.blocks, .int .i64 s.now, .int .i64 s.last] := rfl
 have e2 : s.cells.drop (4 + 32) = [s.sv, s.mv] := by
  unfold RSto.cells
  rw [List.drop_append, List.drop_of_length_le (by simp), List.nil_append]
  have : 4 + 32 - [Value.int .i64 s.id, .int .i64 s.blocks, .int .i64 s.now, .int .i64 s.last].length = 32 := rfl
  rw [this, List.drop_append, List.drop_of_length_le (by simp [datC, h.d16]), List.nil_append, List.drop_append, List.drop_of_length_le (by simp [datC, bornC, h.d16, h.b16]), List.nil_append]
  simp [datC, bornC, h.d16, h.b16]
 rw [e1, e2]
 simp [RSto.cells]
theorem RRep.thereV {B : Nat} {w : World} {b : Nat} {s : RSto} (h : RRep B w b s) : w.there b 4 32 := fun j hj => by
 refine ⟨?_, h.frozen _⟩
 have hcl : s.cells.length = 38 := by simp [RSto.cells, datC, bornC, h.d16, h.b16]
 rw [cell_of h.blk, List.getElem?_toArray, List.getElem?_eq_getElem (by rw [hcl]; omega)]
 rfl
def fD (D : List ByteArray) (l : List (Int × B4)) : List ByteArray := l.foldl (fun D o => D.set o.1.toNat o.2.ba) D
def fB (z : Int) (Bo : List Int) (l : List (Int × B4)) : List Int := l.foldl (fun D o => D.set o.1.toNat z) Bo
theorem fD_len : ∀ (l : List (Int × B4)) (D : List ByteArray), (fD D l).length = D.length
 | [], _ => rfl
 | x :: r, D => by
  have := fD_len r (D.set x.1.toNat x.2.ba)
  rw [List.length_set] at this
  exact this
theorem fB_len (z : Int) : ∀ (l : List (Int × B4)) (D : List Int), (fB z D l).length = D.length
 | [], _ => rfl
 | x :: r, D => by
  have := fB_len z r (D.set x.1.toNat z)
  rw [List.length_set] at this
  exact this
theorem fD_succ (D : List ByteArray) (l : List (Int × B4)) (k : Nat) (h : k < l.length) : fD D (l.take (k + 1)) = (fD D (l.take k)).set l[k].1.toNat l[k].2.ba := by
 unfold fD
 rw [List.take_succ_eq_append_getElem h, List.foldl_append]
 rfl
theorem fB_succ (z : Int) (D : List Int) (l : List (Int × B4)) (k : Nat) (h : k < l.length) : fB z D (l.take (k + 1)) = (fB z D (l.take k)).set l[k].1.toNat z := by
 unfold fB
 rw [List.take_succ_eq_append_getElem h, List.foldl_append]
 rfl
structure RTk (B b : Nat) (s0 : RSto) (w W : World) (s : RSto) (bx : Nat) (f t m nb : Int) (na : Option Addr) (nc : Nat) (da : Option Addr) (dc ln : Nat) (l : List (Int × B4)) : Prop where
 rep : RRep B W b s
 fr : Fr (rfoot b s0) w W
 box : W.heap[bx]? = some (.cells #[.int .i64 f, .int .i64 t, .int .i64 m, .int .i64 nb, .slice na ln nc, .slice da ln dc] 143 (0, 0))
 nr : W.ownsRow w.heap.size 3 1 (.slice na ln nc) ln (l.map fun x => Value.int .i64 x.1)
 dr : W.ownsRow w.heap.size 9 1 (.slice da ln dc) ln (l.map fun x => Value.string x.2.ba)
section
variable {B b : Nat} {s0 : RSto} {w W W' : World} {s s' : RSto} {bx : Nat} {f t m nb : Int} {na : Option Addr} {nc : Nat} {da : Option Addr} {dc ln : Nat} {l : List (Int × B4)}
theorem RTk.same (h : RTk B b s0 w W s bx f t m nb na nc da dc ln l) (hf : Fr [] W W') : RTk B b s0 w W' s bx f t m nb na nc da dc ln l :=
 ⟨h.rep.kept0 hf, h.fr.trans hf (by simp), by rw [hf.block bx (Array.getElem?_eq_some_iff.1 h.box).1 (by simp)]; exact h.box, own_fr' h.nr hf, own_fr' h.dr hf⟩
theorem RTk.far (h : RTk B b s0 w W s bx f t m nb na nc da dc ln l) : bx ≠ b ∧ (∀ k, (Value.slice na ln nc).ownBlock = some k → k ≠ b) ∧ ∀ k, (Value.slice da ln dc).ownBlock = some k → k ≠ b := by
 have h1 := h.rep.blk
 refine ⟨fun e => ?_, fun k hk e => ?_, fun k hk e => ?_⟩
 · have h2 := h.box
   rw [e, h1] at h2
   simp at h2
 · obtain ⟨_, cur, h2⟩ := own_tag h.nr hk
   rw [e, h1] at h2
   simp at h2
 · obtain ⟨_, cur, h2⟩ := own_tag h.dr hk
   rw [e, h1] at h2
   simp at h2
theorem RTk.wr (h : RTk B b s0 w W s bx f t m nb na nc da dc ln l) (hr : RRep B W' b s') (ho : ∀ k, k ≠ b → W'.heap[k]? = W.heap[k]?) (hf : Fr (rfoot b s0) w W') : RTk B b s0 w W' s' bx f t m nb na nc da dc ln l := by
 obtain ⟨a1, a2, a3⟩ := h.far
 exact ⟨hr, hf, by rw [ho bx a1]; exact h.box, own_of_block h.nr (fun k hk => ho k (a2 k hk)), own_of_block h.dr (fun k hk => ho k (a3 k hk))⟩
theorem RTk.xs (h : RTk B b s0 w W s bx f t m nb na nc da dc ln l) : W.cell? ⟨bx, 0, none⟩ = some (.int .i64 f) ∧ W.cell? ⟨bx, 1, none⟩ = some (.int .i64 t) ∧ W.cell? ⟨bx, 2, none⟩ = some (.int .i64 m) ∧ W.cell? ⟨bx, 3, none⟩ = some (.int .i64 nb) ∧ W.cell? ⟨bx, 4, none⟩ = some (.slice na ln nc) ∧ W.cell? ⟨bx, 5, none⟩ = some (.slice da ln dc) :=
 ⟨by rw [cell_of h.box]; rfl, by rw [cell_of h.box]; rfl, by rw [cell_of h.box]; rfl, by rw [cell_of h.box]; rfl, by rw [cell_of h.box]; rfl, by rw [cell_of h.box]; rfl⟩
theorem RTk.now (h : RTk B b s0 w W s bx f t m nb na nc da dc ln l) (z : Int) : RTk B b s0 w (W.setCell ⟨b, 2, none⟩ (.int .i64 z)) { s with now := z } bx f t m nb na nc da dc ln l :=
 h.wr (h.rep.put 2 _ (cset_now s _) h.rep.d16 h.rep.b16 rfl rfl rfl rfl) (fun k hk => heap_setCell_other _ _ _ _ hk) (h.fr.setCell _ (Or.inl (by simp [rfoot])))
theorem RTk.vol (h : RTk B b s0 w W s bx f t m nb na nc da dc ln l) (D : List ByteArray) (Bo : List Int) (hD : D.length = 16) (hB : Bo.length = 16) : RTk B b s0 w (W.setCells b 4 (datC D ++ bornC Bo)) { s with dat := D, born := Bo } bx f t m nb na nc da dc ln l :=
 h.wr (h.rep.setV D Bo hD hB) (fun k hk => setCs_other _ _ _ _ _ hk) (setCs_fr (by simp [rfoot]) _ _ _ h.fr)
theorem RTk.blk (h : RTk B b s0 w W s bx f t m nb na nc da dc ln l) (k : Nat) (hk : k < 16) (x : ByteArray) (z : Int) : RTk B b s0 w ((W.setCell ⟨b, 4 + k, none⟩ (.string x)).setCell ⟨b, 20 + k, none⟩ (.int .i64 z)) { s with dat := s.dat.set k x, born := s.born.set k z } bx f t m nb na nc da dc ln l := by
 have h1 := h.rep.put (4 + k) (.string x) (cset_dat s h.rep.d16 k hk x) (by simp [h.rep.d16]) h.rep.b16 rfl rfl rfl rfl
 have h2 := h1.put (20 + k) (.int .i64 z) (cset_born { s with dat := s.dat.set k x } (by simp [h.rep.d16]) h.rep.b16 k hk z) (by simp [h.rep.d16]) (by simp [h.rep.b16]) rfl rfl rfl rfl
 exact h.wr h2 (fun k hk => by rw [heap_setCell_other _ _ _ _ hk, heap_setCell_other _ _ _ _ hk]) ((h.fr.setCell _ (Or.inl (by simp [rfoot]))).setCell _ (Or.inl (by simp [rfoot])))
end
theorem rtk_end {B b cap cap1 gg sn : Nat} {ao : Option Addr} {s s5 : RSto} {w W5 w9 : World} {X : List Value} {x : RSh} (hR : RRep B W5 b s5) (hF : Fr (rfoot b s) w W5) (hsv : s.sv = .slice ao sn cap) (hsn : s.sh.length = sn) (e1 : s5.sv = s.sv) (e2 : s5.sh = s.sh) (hX : x.cells = X) (hx : x.wf)
  (hown : w9.ownsRow B 117 36 (.slice (some ⟨gg, 0, none⟩) (sn + 1) cap1) (sn + 1) (rshC s.sh ++ X)) (hgrow : (W5.alloc (.cells X.toArray 117)).drew.grownBy w9 (Value.slice ao sn cap).ownBlock) (hat : (Value.slice ao sn cap).ownBlock = some gg ∨ gg = W5.heap.size + 1) :
  ∃ sv, RRep B (w9.setCell ⟨b, 36, none⟩ (.slice (some ⟨gg, 0, none⟩) (sn + 1) cap1)) b { s5 with sh := s.sh ++ [x], sv := sv } ∧ Fr (rfoot b s) w (w9.setCell ⟨b, 36, none⟩ (.slice (some ⟨gg, 0, none⟩) (sn + 1) cap1)) ∧ (∀ k, sv.ownBlock = some k → s.sv.ownBlock = some k ∨ w.heap.size ≤ k) := by
 rw [← hsv] at hgrow hat
 have hg1 : W5.grownBy w9 s.sv.ownBlock := ⟨hgrow.os, hgrow.tape, hgrow.output, by have := hgrow.size; simp at this; omega, fun k hk hne => (hgrow.block k (by simp; omega) hne).trans (Below.heap_alloc W5 _ k hk)⟩
 have hsz := hF.size
 have h9 := hR.appended (x := x) hx (sv := .slice (some ⟨gg, 0, none⟩) (sn + 1) cap1) (w' := w9) (by rw [e2, hsn, hX]; exact hown) (by rw [e1]; exact hg1)
 rw [e2] at h9
 refine ⟨_, h9, (hF.grown hg1 (fun k hk => Or.inl (by simp [rfoot, hk]))).setCell _ (Or.inl (by simp [rfoot])), fun k hk => ?_⟩
 have e : gg = k := by simpa [Value.ownBlock] using hk
 subst e
 rcases hat with h | h
 · exact Or.inl h
 · exact Or.inr (by omega)
end Go.Proofs.YthdhegmlknpllaaGreat
