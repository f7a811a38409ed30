/-
  What holds while ParseStream (63) reads.
-/
import Derived.Test.YthdhegmlknpllaaPar
namespace Go.Proofs.Ythdhegmlknpllaa
open Go.RowKit Go.Maps Go.MuLone

def z116 : Obj := .cells #[.int .i64 0, .int .i64 0, .int .i64 0, .int .i64 0, .slice none 0 0] 116 (0, 0)
/-- While the text is read. -/
structure PJ (w W : World) (bx rb : Nat) (r : RS) : Prop where
  rd : Rdr W rb r.1 r.2
  fr : Fr [] w W
  box : W.heap[bx]? = some z116
  le : w.heap.size ≤ rb
  le2 : r.1.size ≤ 1000000

theorem rdN_le (r : RS) (n : Nat) : (rdN r n).1.size ≤ r.1.size := rdL_size r.1 n

theorem PJ.read {w W W' : World} {bx rb n : Nat} {r : RS} (h : PJ w W bx rb r) (hr : Rdr W' rb (rdL r.1 n) (rdS r.1 r.2 n)) (hf : Fr [rb] W W') : PJ w W' bx rb (rdN r n) := by
  have hne : bx ≠ rb := fun e => by
    have h1 := h.box
    have h2 := h.rd
    unfold Rdr at h2
    unfold z116 at h1
    rw [e, h2] at h1
    simp at h1
  refine ⟨hr, h.fr.trans hf (fun k hk => Or.inr (by simp at hk; subst hk; exact h.le)), ?_, h.le, Nat.le_trans (rdN_le r n) h.le2⟩
  rw [hf.block bx (Array.getElem?_eq_some_iff.1 h.box).1 (by simpa using hne)]
  exact h.box

theorem PJ.number {w W : World} {bx rb : Nat} {r : RS} (h : PJ w W bx rb r) : Calls Try.prog 87 #[.pointer (some ⟨rb, 0, none⟩)] W fun e w' => e = .returned (.int .i64 (valN (rdT r.1 4).data.toList : Int)) ∧ PJ w w' bx rb (rdN r 4) ∧ Fr [rb] W w' :=
  (rnumber_any rb r.1 r.2 W h.rd (by have := h.le2; omega)).mono fun _ _ ⟨e, a, b⟩ => ⟨e, h.read a b, b⟩
theorem PJ.byte {w W : World} {bx rb : Nat} {r : RS} (h : PJ w W bx rb r) : Calls Try.prog 88 #[.pointer (some ⟨rb, 0, none⟩)] W fun e w' => e = .returned (.int .i64 (valN (rdT r.1 1).data.toList : Int)) ∧ PJ w w' bx rb (rdN r 1) ∧ Fr [rb] W w' :=
  (rbyte_any rb r.1 r.2 W h.rd (by have := h.le2; omega)).mono fun _ _ ⟨e, a, b⟩ => ⟨e, h.read a b, b⟩
theorem PJ.text {w W : World} {bx rb : Nat} {r : RS} (h : PJ w W bx rb r) : Calls Try.prog 86 #[.pointer (some ⟨rb, 0, none⟩), .int .i64 4] W fun e w' => e = .returned (.string (rdT r.1 4)) ∧ PJ w w' bx rb (rdN r 4) ∧ Fr [rb] W w' :=
  (rtext_any rb r.1 r.2 4 W h.rd (by omega) (by have := h.le2; omega)).mono fun _ _ ⟨e, a, b⟩ => ⟨e, h.read a b, b⟩

theorem PJ.alloc {w W : World} {bx rb : Nat} {r : RS} (h : PJ w W bx rb r) (o : Obj) : PJ w (W.alloc o) bx rb r :=
  ⟨by have := h.rd; unfold Rdr at this ⊢; rw [Below.heap_alloc _ _ _ (Array.getElem?_eq_some_iff.1 this).1]; exact this, h.fr.alloc _, by rw [Below.heap_alloc _ _ _ (Array.getElem?_eq_some_iff.1 h.box).1]; exact h.box, h.le, h.le2⟩
end Go.Proofs.Ythdhegmlknpllaa
