import Derived.Test.YthdhegmlknpllabGreatDoorM32
import Derived.Test.YthdhegmlknpllabGreatDoorM30
/-
  Pure: the blocks that follow in a stream.
-/
namespace Go.Proofs.YthdhegmlknpllabGreatDoor
open Go.RowKit Go.Maps Go.MuLone

/-! The blocks that follow. -/
theorem flw_lt (s : Sto) (g c : Int) : ∀ m : Nat, ∀ x ∈ flw s g c m, 0 ≤ x.1 ∧ x.1 < m
  | 0 => by simp [flw]
  | m + 1 => by
    intro x hx
    by_cases hc : c ≤ (s.th g (m : Int)).n
    · rw [flw_yes hc] at hx
      rcases List.mem_append.1 hx with h | h
      · have := flw_lt s g c m x h
        omega
      · simp at h
        subst h
        exact ⟨by simp, by simp; omega⟩
    · rw [flw_no hc] at hx
      have := flw_lt s g c m x hx
      omega

theorem least_app (l : List (Int × B4)) (x : Int × B4) (k : Nat) (h : k ≤ l.length) : least (l ++ [x]) k = least l k := by
  cases k with
  | zero => rfl
  | succ k =>
    simp only [least]
    rw [List.map_append, List.getElem?_append_left (by simp; omega)]

theorem flw_up (s : Sto) (g c : Int) : ∀ m : Nat, Rises (m : Int) (flw s g c m)
  | 0 => fun k h => by simp [flw] at h
  | m + 1 => by
    have ih := flw_up s g c m
    have hlt := flw_lt s g c m
    by_cases hc : c ≤ (s.th g (m : Int)).n
    · rw [flw_yes hc]
      obtain ⟨l, hl⟩ : ∃ l, flw s g c m = l := ⟨_, rfl⟩
      rw [hl] at ih hlt
      rw [hl]
      intro k hk
      rw [List.length_append] at hk
      simp only [List.length_cons, List.length_nil] at hk
      rw [least_app _ _ _ (by omega)]
      by_cases hkl : k < l.length
      · rw [List.getElem_append_left hkl]
        have := ih k hkl
        omega
      · have hkk : k = l.length := by omega
        subst hkk
        rw [List.getElem_append_right (Nat.le_refl _)]
        simp only [Nat.sub_self, List.getElem_cons_zero]
        refine ⟨?_, by omega⟩
        cases hq : l.length with
        | zero => show (0 : Int) ≤ _; omega
        | succ q =>
          rw [least_succ l q (by omega)]
          have := hlt (l[q]'(by omega)) (List.getElem_mem _)
          omega
    · rw [flw_no hc]
      intro k hk
      have := ih k hk
      omega

theorem flw_all (s : Sto) (g : Int) : ∀ m, (∀ j : Nat, j < m → 0 ≤ (s.th g (j : Int)).n) → (flw s g 0 m).length = m
  | 0, _ => by simp [flw]
  | m + 1, h => by
    rw [flw_yes (h m (by omega)), List.length_append, flw_all s g m (fun j hj => h j (by omega))]
    rfl

theorem fv_flw (S : Sto) (g c c' : Int) (V : List Ct) (j : Nat) (hj : j < V.length) : ∀ m, (fv c' V (flw S g c m)).getD j Ct.zero = if j < m ∧ c ≤ (S.th g (j : Int)).n then ⟨(S.th g (j : Int)).x, c'⟩ else V.getD j Ct.zero
  | 0 => by
    rw [if_neg (by omega)]
    simp [flw, fv]
  | m + 1 => by
    have ih := fv_flw S g c c' V j hj m
    by_cases hc : c ≤ (S.th g (m : Int)).n
    · rw [flw_yes hc]
      have e : fv c' V (flw S g c m ++ [((m : Int), (S.th g (m : Int)).x)]) = (fv c' V (flw S g c m)).set m ⟨(S.th g (m : Int)).x, c'⟩ := by
        unfold fv
        rw [List.foldl_append]
        simp
      rw [e]
      by_cases hjm : j = m
      · subst hjm
        rw [if_pos ⟨by omega, hc⟩]
        have hl : j < (fv c' V (flw S g c j)).length := by rw [fv_len]; exact hj
        simp [List.getD_eq_getElem?_getD, hl]
      · rw [List.getD_eq_getElem?_getD, List.getElem?_set_ne (Ne.symm hjm), ← List.getD_eq_getElem?_getD, ih]
        by_cases h1 : j < m ∧ c ≤ (S.th g (j : Int)).n
        · rw [if_pos h1, if_pos ⟨by omega, h1.2⟩]
        · rw [if_neg h1, if_neg (fun h => h1 ⟨by omega, h.2⟩)]
    · rw [flw_no hc, ih]
      by_cases h1 : j < m ∧ c ≤ (S.th g (j : Int)).n
      · rw [if_pos h1, if_pos ⟨by omega, h1.2⟩]
      · rw [if_neg h1, if_neg]
        rintro ⟨h2, h3⟩
        by_cases hjm : j = m
        · subst hjm
          exact hc h3
        · exact h1 ⟨by omega, h3⟩

theorem rvol_get (r S : Sto) (f g c : Int) (n j : Nat) (hn : r.vol.length = n) (hj : j < n) : (rvol r f (flw S g c n)).getD j Ct.zero = if c ≤ (S.th g (j : Int)).n then ⟨(S.th g (j : Int)).x, r.came⟩ else r.th f (j : Int) := by
  unfold rvol
  rw [fv_flw S g c r.came _ j (by rw [vk_len _ _ _ (Nat.le_refl _), hn]; exact hj) n]
  have e : (vk r f r.vol.length).getD j Ct.zero = r.th f (j : Int) := by
    unfold vk
    rw [List.getD_eq_getElem?_getD, List.getElem?_append_left (by simp; omega)]
    simp [hn, hj]
  rw [e]
  by_cases h1 : c ≤ (S.th g (j : Int)).n
  · rw [if_pos ⟨hj, h1⟩, if_pos h1]
  · rw [if_neg (fun h => h1 h.2), if_neg h1]
end Go.Proofs.YthdhegmlknpllabGreatDoor
