/-
  What ParseStream (63) reads: pure, and the copy of four bytes.
-/
import Derived.Test.YthdhegmlknpllaaPab
import Derived.Laws.IdiomCopy
namespace Go.Proofs.Ythdhegmlknpllaa
open Go.RowKit Go.Maps Go.MuLone

abbrev RS := ByteArray × Bool
def rdN (r : RS) (n : Nat) : RS := (rdL r.1 n, rdS r.1 r.2 n)
/-- Four bytes, or none. -/
def b4 (t : ByteArray) : B4 := ⟨t.data.toList[0]?.getD 0, t.data.toList[1]?.getD 0, t.data.toList[2]?.getD 0, t.data.toList[3]?.getD 0⟩
/-- The first k blocks that are read, and what is left. -/
def rdBs (r : RS) : Nat → List (Int × B4) × RS
  | 0 => ([], r)
  | k + 1 => ((rdBs r k).1 ++ [((valN (rdT (rdBs r k).2.1 1).data.toList : Int), b4 (rdT (rdN (rdBs r k).2 1).1 4))], rdN (rdN (rdBs r k).2 1) 4)

theorem rdT_two (t : ByteArray) (n : Nat) : (rdT t n).size = 0 ∨ (rdT t n).size = n := by
  unfold rdT
  split
  · exact Or.inl rfl
  · right
    rw [ByteArray.size_extract]
    omega

theorem rdBs_len (r : RS) : ∀ k, (rdBs r k).1.length = k
  | 0 => rfl
  | k + 1 => by rw [rdBs, List.length_append, rdBs_len r k]; rfl

/-- What was short stays short. -/
theorem rdN_short {r : RS} (h : r.2 = true) (n : Nat) : (rdN r n).2 = true := by
  unfold rdN rdS
  simp only
  split
  · rfl
  · exact h
theorem rdBs_short {r : RS} (h : r.2 = true) : ∀ k, (rdBs r k).2.2 = true
  | 0 => h
  | k + 1 => by
    rw [rdBs]
    exact rdN_short (rdN_short (rdBs_short h k) 1) 4
/-- What is read in all: as many bytes as there were, less those that are left, if none was wanting. -/
theorem rdN_size {r : RS} {n : Nat} (h : (rdN r n).2 = false) : r.2 = false ∧ r.1.size = n + (rdN r n).1.size := by
  unfold rdN rdS rdL at h ⊢
  simp only at h ⊢
  by_cases hlt : r.1.size < n
  · rw [if_pos hlt] at h
    cases h
  · rw [if_neg hlt] at h
    refine ⟨h, ?_⟩
    rw [if_neg hlt, ByteArray.size_extract]
    omega
theorem rdBs_size {r : RS} : ∀ k, (rdBs r k).2.2 = false → r.2 = false ∧ r.1.size = 5 * k + (rdBs r k).2.1.size
  | 0, h => ⟨h, by simp [rdBs]⟩
  | k + 1, h => by
    rw [rdBs] at h ⊢
    have h1 := rdN_size h
    have h2 := rdN_size h1.1
    have h3 := rdBs_size k h2.1
    refine ⟨h3.1, ?_⟩
    simp only
    omega

theorem fr_cells' {F : List Nat} {w : World} {vb : Nat} (hv : vb ∈ F) : ∀ (l : List Value) (o : Nat) (w1 : World), Fr F w w1 → Fr F w (w1.setCells vb o l)
  | [], _, _, h => h
  | v :: r, o, _, h => fr_cells' hv r (o + 1) _ (h.setCell v (Or.inl hv))

theorem copy4 (w : World) (b8 : Nat) (z : Int) (tx : ByteArray) (h : w.heap[b8]? = some (.cells #[.int .i64 z, .int .u8 0, .int .u8 0, .int .u8 0, .int .u8 0] 120 (0, 0))) (ht : tx.size = 0 ∨ tx.size = 4) :
    ∃ w', (∀ ty, (Builtin.copy_ #[63, 9] ty #[.slice (some ⟨b8, 1, none⟩) 4 4, .string tx]).run Try.prog w = .ok (goInt tx.size) w') ∧ w'.heap[b8]? = some (.cells (bkC (z, b4 tx)).toArray 120 (0, 0)) ∧ Fr [b8] w w' := by
  have hrun := fun ty => run_copy_string (P := Try.prog) w 63 9 ty 5 b8 1 4 4 tx Try.underlying63 (fun w => Try.sizeOf5 w) (by omega) (by
      intro j hj
      have hj' : j < 4 := by omega
      rw [cell_of h]
      rcases (by omega : j = 0 ∨ j = 1 ∨ j = 2 ∨ j = 3) with rfl | rfl | rfl | rfl <;> rfl) (fun j _ => froz_of h _)
  refine ⟨_, hrun, ?_, ?_⟩
  · rcases ht with h0 | h4
    · have e : tx.data.toList = [] := by
        apply List.eq_nil_of_length_eq_zero
        rw [Array.length_toList]
        exact h0
      have e3 : b4 tx = ⟨0, 0, 0, 0⟩ := by
        unfold b4
        rw [e]
        rfl
      rw [e, e3]
      exact h
    · obtain ⟨a, b, c, d, e⟩ : ∃ a b c d, tx.data.toList = [a, b, c, d] := by
        have hl : tx.data.toList.length = 4 := by rw [Array.length_toList]; exact h4
        match hh : tx.data.toList, hl with
        | [a, b, c, d], _ => exact ⟨a, b, c, d, rfl⟩
      have e3 : b4 tx = ⟨a, b, c, d⟩ := by
        unfold b4
        rw [e]
        rfl
      rw [e, e3]
      have h1 := heap_setCell_same w b8 1 _ _ (.int .u8 (a.toNat : Int)) h
      have h2 := heap_setCell_same _ b8 2 _ _ (.int .u8 (b.toNat : Int)) h1
      have h3 := heap_setCell_same _ b8 3 _ _ (.int .u8 (c.toNat : Int)) h2
      have h4 := heap_setCell_same _ b8 4 _ _ (.int .u8 (d.toNat : Int)) h3
      simp only [List.map_cons, List.map_nil, World.setCells]
      rw [h4]
      rfl
  · exact fr_cells' (by simp) _ _ _ (Fr.refl _ _)
end Go.Proofs.Ythdhegmlknpllaa
