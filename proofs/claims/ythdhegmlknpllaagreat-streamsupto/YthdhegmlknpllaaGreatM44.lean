import Derived.Test.YthdhegmlknpllaaGreatM04
/-
  Where a block of another type lies.
-/
namespace Go.Proofs.YthdhegmlknpllaaGreat
open Go.RowKit Go.Maps Go.MuLone

theorem tag_foot {B : Nat} {w : World} {b : Nat} {q : Int} {s : Sto} {k : Nat} {cur : Array Value} {t : TypeId} {fr : Nat × Nat} (h : Rep B w b q s) (hk : w.heap[k]? = some (.cells cur t fr)) (ht : t ≠ 76 ∧ t ≠ 112 ∧ t ≠ 119 ∧ t ≠ 125 ∧ t ≠ 5) : k ∉ foot b s := by
  intro hm
  simp only [foot, List.mem_append, List.mem_cons, List.not_mem_nil, or_false, Option.mem_toList] at hm
  rcases hm with (((rfl | rfl | rfl) | h1) | h1) | h1
  · rw [h.blk] at hk
    simp [Sto.blk] at hk
    exact ht.1 hk.2.1.symm
  · rw [h.vol] at hk
    simp at hk
    exact ht.2.1 hk.2.1.symm
  · obtain ⟨es, c, h1⟩ := h.th.at
    rw [h1] at hk
    simp at hk
  · obtain ⟨_, cur', h2⟩ := own_tag h.ss h1
    rw [h2] at hk
    simp at hk
    exact ht.2.2.1 hk.2.1.symm
  · obtain ⟨_, cur', h2⟩ := own_tag h.ms h1
    rw [h2] at hk
    simp at hk
    exact ht.2.2.2.1 hk.2.1.symm
  · obtain ⟨_, cur', h2⟩ := own_tag h.lg h1
    rw [h2] at hk
    simp at hk
    exact ht.2.2.2.2 hk.2.1.symm

theorem own_foot {B : Nat} {w : World} {b : Nat} {q : Int} {s : Sto} (h : Rep B w b q s) {base : Nat} {e : TypeId} {size : Nat} {v : Value} {n : Nat} {xs : List Value} (ho : w.ownsRow base e size v n xs) (ht : e ≠ 76 ∧ e ≠ 112 ∧ e ≠ 119 ∧ e ≠ 125 ∧ e ≠ 5) : ∀ k, v.ownBlock = some k → k ∉ foot b s := by
  intro k hk
  obtain ⟨_, cur, h2⟩ := own_tag ho hk
  exact tag_foot h h2 ht

end Go.Proofs.YthdhegmlknpllaaGreat
