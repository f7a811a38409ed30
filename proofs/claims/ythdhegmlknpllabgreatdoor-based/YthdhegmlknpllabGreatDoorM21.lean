import Derived.Test.YthdhegmlknpllabGreatDoorM16
/-
  The images that Frozen keeps.
-/
namespace Go.Proofs.YthdhegmlknpllabGreatDoor
open Go.RowKit Go.Maps Go.MuLone

theorem tag_foot {B : Nat} {w : World} {b : Nat} {q : Int} {s : Sto} {k : Nat} {cur : Array Value} {t : TypeId} {fr : Nat × Nat} (h : Rep B w b q s) (hk : w.heap[k]? = some (.cells cur t fr)) (ht : t ≠ 86 ∧ t ≠ 92 ∧ t ≠ 88 ∧ t ≠ 120 ∧ t ≠ 5) : k ∉ foot b s := by
  intro hm
  simp only [foot, List.mem_append, List.mem_cons, List.not_mem_nil, or_false, Option.mem_toList] at hm
  rcases hm with (((rfl | rfl | rfl) | h1) | h1) | h1
  · rw [h.blk] at hk
    simp [Sto.blk] at hk
    exact ht.1 hk.2.1.symm
  · rw [h.vol] at hk
    simp at hk
    exact ht.2.1 hk.2.1.symm
  · obtain ⟨es, c, h1⟩ := h.th.at
    rw [h1] at hk
    simp at hk
  · obtain ⟨_, cur', h2⟩ := own_tag h.ss h1
    rw [h2] at hk
    simp at hk
    exact ht.2.2.1 hk.2.1.symm
  · obtain ⟨_, cur', h2⟩ := own_tag h.ms h1
    rw [h2] at hk
    simp at hk
    exact ht.2.2.2.1 hk.2.1.symm
  · obtain ⟨_, cur', h2⟩ := own_tag h.lg h1
    rw [h2] at hk
    simp at hk
    exact ht.2.2.2.2 hk.2.1.symm

theorem own_foot {B : Nat} {w : World} {b : Nat} {q : Int} {s : Sto} (h : Rep B w b q s) {base : Nat} {e : TypeId} {size : Nat} {v : Value} {n : Nat} {xs : List Value} (ho : w.ownsRow base e size v n xs) (ht : e ≠ 86 ∧ e ≠ 92 ∧ e ≠ 88 ∧ e ≠ 120 ∧ e ≠ 5) : ∀ k, v.ownBlock = some k → k ∉ foot b s := by
  intro k hk
  obtain ⟨_, cur, h2⟩ := own_tag ho hk
  exact tag_foot h h2 ht

def gd (id : Int) (k : Nat) : Int := id * 1000000 + ((k : Int) + 1)
def thS (s : Sto) (g : Int) (n : Nat) : List Value := strs ((List.range n).map fun j : Nat => s.th g (j : Int))
def im3 (x : Int × Int × Value) : List Value := [.int .i64 x.1, .int .i64 x.2.1, x.2.2]
def imC (l : List (Int × Int × Value)) : List Value := l.flatMap im3
theorem imC_get (l : List (Int × Int × Value)) (i : Nat) (h : i < l.length) : (imC l)[i * 3]? = some (.int .i64 l[i].1) ∧ (imC l)[i * 3 + 1]? = some (.int .i64 l[i].2.1) ∧ (imC l)[i * 3 + 2]? = some l[i].2.2 := by
  have hf : ∀ x, (im3 x).length = 3 := fun _ => rfl
  refine ⟨?_, ?_, ?_⟩
  · exact flat_get hf l i h 0 (by omega)
  · exact flat_get hf l i h 1 (by omega)
  · exact flat_get hf l i h 2 (by omega)

structure Im (B : Nat) (w : World) (s : Sto) (id : Int) (n : Nat) (l : List (Int × Int × Value)) (vg : Value) : Prop where
  row : w.ownsRow B 60 3 vg l.length (imC l)
  one : ∀ k (h : k < l.length), l[k].1 = gd id k ∧ w.ownsRow B 9 1 l[k].2.2 n (thS s (gd id k) n)

theorem Im.nil (B : Nat) (w : World) (s : Sto) (id : Int) (n : Nat) : Im B w s id n [] (.slice none 0 0) := ⟨World.ownsRow_nil _ _ _ _, fun k h => by simp at h⟩

theorem Im.kept {B : Nat} {w w' : World} {b : Nat} {q : Int} {s s' : Sto} {id : Int} {n : Nat} {l : List (Int × Int × Value)} {vg : Value} {F : List Nat} (h : Im B w s id n l vg) (hR : Rep B w b q s) (hf : Fr F w w') (hF : ∀ k ∈ F, k ∈ foot b s) (ht : ∀ k, k < l.length → ∀ j, s'.th (gd id k) j = s.th (gd id k) j) : Im B w' s' id n l vg := by
  refine ⟨own_fr h.row hf (fun k hk hm => own_foot hR h.row (by decide) k hk (hF k hm)), fun k hk => ⟨(h.one k hk).1, ?_⟩⟩
  have e : thS s' (gd id k) n = thS s (gd id k) n := by unfold thS; simp only [ht k hk]
  rw [e]
  exact own_fr (h.one k hk).2 hf (fun k' hk' hm => own_foot hR (h.one k hk).2 (by decide) k' hk' (hF k' hm))
theorem Im.kept0 {B : Nat} {w w' : World} {s : Sto} {id : Int} {n : Nat} {l : List (Int × Int × Value)} {vg : Value} (h : Im B w s id n l vg) (hf : Fr [] w w') : Im B w' s id n l vg :=
  ⟨own_fr h.row hf (by simp), fun k hk => ⟨(h.one k hk).1, own_fr (h.one k hk).2 hf (by simp)⟩⟩

theorem Im.push {B : Nat} {w w' : World} {s : Sto} {id : Int} {n : Nat} {l : List (Int × Int × Value)} {vg v' v : Value} {t : Int} (h : Im B w s id n l vg) (ho : w'.ownsRow B 60 3 v' (l.length + 1) (imC l ++ [.int .i64 (gd id l.length), .int .i64 t, v])) (hg : w.grownBy w' vg.ownBlock) (hv : w.ownsRow B 9 1 v n (thS s (gd id l.length) n)) :
    Im B w' s id n (l ++ [(gd id l.length, t, v)]) v' := by
  have hne : ∀ {u : Value} {m : Nat} {xs : List Value}, w.ownsRow B 9 1 u m xs → w'.ownsRow B 9 1 u m xs := by
    intro u m xs hu
    refine own_of_block hu (fun k hk => hg.block k (hu.lt k hk).2 (fun e => ?_))
    obtain ⟨_, c1, h1⟩ := own_tag hu hk
    obtain ⟨_, c2, h2⟩ := own_tag h.row e.symm
    rw [h1] at h2
    simp at h2
  refine ⟨?_, fun k hk => ?_⟩
  · rw [List.length_append]
    simpa [imC, im3] using ho
  · by_cases hlt : k < l.length
    · rw [List.getElem_append_left hlt]
      exact ⟨(h.one k hlt).1, hne (h.one k hlt).2⟩
    · have hk' : k = l.length := by simp at hk; omega
      subst hk'
      rw [List.getElem_append_right (by omega)]
      simp only [Nat.sub_self, List.getElem_cons_zero]
      exact ⟨trivial, hne hv⟩
end Go.Proofs.YthdhegmlknpllabGreatDoor
