/-
  Pure: what Carried's two stores have in common.
-/
import Derived.Test.YthdhegmlknpllaaCpa
import Derived.Test.YthdhegmlknpllaaTk2
import Derived.Test.YthdhegmlknpllaaMkp
namespace Go.Proofs.Ythdhegmlknpllaa
open Go.RowKit Go.Maps Go.MuLone

theorem gd_in {d : Int} {a b : Nat} (h : gd d a = gd d b) : a = b := by
  unfold gd at h
  omega

/-- A block of the volume: as it was, or written behind all. -/
theorem wvol_get (c : Int) : ∀ (ops : List (Nat × B4)) (v : List Ct) (j : Nat), (wvol c v ops).getD j Ct.zero = v.getD j Ct.zero ∨ ((wvol c v ops).getD j Ct.zero).n = c
  | [], _, _ => Or.inl rfl
  | o :: r, v, j => by
    rcases wvol_get c r (v.set o.1 ⟨o.2, c⟩) j with h | h
    · have e : wvol c v (o :: r) = wvol c (v.set o.1 ⟨o.2, c⟩) r := rfl
      rw [e, h]
      by_cases hj : j = o.1
      · subst hj
        by_cases hl : o.1 < v.length
        · right
          simp [List.getD_eq_getElem?_getD, hl]
        · left
          rw [List.set_eq_of_length_le (by omega)]
      · left
        simp [List.getD_eq_getElem?_getD, List.getElem?_set_ne (Ne.symm hj)]
    · exact Or.inr h
theorem wvol_len (c : Int) : ∀ (ops : List (Nat × B4)) (v : List Ct), (wvol c v ops).length = v.length
  | [], _ => rfl
  | o :: r, v => by
    have := wvol_len c r (v.set o.1 ⟨o.2, c⟩)
    rw [List.length_set] at this
    exact this

/-- What was not written since is as it was. -/
structure WU (s : Sto) (d : Int) (n i : Nat) : Prop where
  v0 : ∀ j, j < n → 0 ≤ (s.vol.getD j Ct.zero).n
  v1 : ∀ a j, a < i → j < n → (s.vol.getD j Ct.zero).n ≤ a → (s.vol.getD j Ct.zero).x = (s.th (gd d a) (j : Int)).x
  t0 : ∀ a j, a < i → j < n → 0 ≤ (s.th (gd d a) (j : Int)).n
  t1 : ∀ a b j, a < b → b < i → j < n → (s.th (gd d b) (j : Int)).n ≤ a → (s.th (gd d b) (j : Int)).x = (s.th (gd d a) (j : Int)).x

theorem WU.made (d : Int) (n vb mb : Nat) (lv : Value) : WU (Sto.made d n vb mb lv) d n 0 := by
  refine ⟨fun j hj => ?_, fun a j ha => by omega, fun a j ha => by omega, fun a b j h1 h2 => by omega⟩
  have : ((Sto.made d n vb mb lv).vol.getD j Ct.zero) = Ct.zero := by
    show (List.replicate n Ct.zero).getD j Ct.zero = Ct.zero
    rw [List.getD_eq_getElem?_getD]
    cases h : (List.replicate n Ct.zero)[j]? with
    | none => rfl
    | some x =>
      rw [List.getElem?_replicate] at h
      rw [if_pos hj] at h
      cases h
      rfl
  rw [this]
  exact Int.le_refl _

theorem taken_th {s s1 : Sto} {d : Int} {n i : Nat} {ops : List (Nat × B4)} (I : InvI s d n i) (hW : Wrote n s ops s1) (t : Int) (sv lv : Value) :
    (∀ j : Nat, j < n → ((s1.snap t sv).noted 83 (n4 t).ba lv).th (gd d i) (j : Int) = s1.vol.getD j Ct.zero) ∧ (∀ a j, a ≠ i → ((s1.snap t sv).noted 83 (n4 t).ba lv).th (gd d a) j = s.th (gd d a) j) := by
  obtain ⟨l0, rfl⟩ := hW.eq
  have hl : (wvol s.came s.vol ops).length = n := by rw [wvol_len, I.vol]
  have hg : gu { s with vol := wvol s.came s.vol ops, log := s.log ++ wlog ops, lv := l0 } (s.taken + 1) = gd d i := by
    unfold gu gd
    simp only
    rw [I.id, I.tk]
  refine ⟨fun j hj => ?_, fun a j ha => ?_⟩
  · simp only [Sto.noted, Sto.snap, Sto.add]
    rw [hg, if_pos ⟨rfl, by omega, by rw [hl]; omega⟩]
    simp
  · simp only [Sto.noted, Sto.snap, Sto.add]
    rw [hg, if_neg (fun h => ha (gd_in h.1))]

theorem WU.takes {s s1 : Sto} {d : Int} {n i : Nat} {ops : List (Nat × B4)} (h : WU s d n i) (I : InvI s d n i) (hW : Wrote n s ops s1) (t : Int) (sv lv : Value) : WU ((s1.snap t sv).noted 83 (n4 t).ba lv) d n (i + 1) := by
  obtain ⟨T1, T2⟩ := taken_th I hW t sv lv
  have hvol : ((s1.snap t sv).noted 83 (n4 t).ba lv).vol = s1.vol := rfl
  have hcm := I.cm
  have hwv : ∀ j, s1.vol.getD j Ct.zero = s.vol.getD j Ct.zero ∨ (s1.vol.getD j Ct.zero).n = i := fun j => by
    obtain ⟨l0, rfl⟩ := hW.eq
    rcases wvol_get s.came ops s.vol j with e | e
    · exact Or.inl e
    · exact Or.inr (e.trans hcm)
  have hv0 : ∀ j, j < n → 0 ≤ (s1.vol.getD j Ct.zero).n := fun j hj => by
    rcases hwv j with e | e
    · rw [e]; exact h.v0 j hj
    · rw [e]; omega
  have hv1 : ∀ a j, a < i → j < n → (s1.vol.getD j Ct.zero).n ≤ a → (s1.vol.getD j Ct.zero).x = (s.th (gd d a) (j : Int)).x := fun a j ha hj hle => by
    rcases hwv j with e | e
    · rw [e] at hle ⊢; exact h.v1 a j ha hj hle
    · rw [e] at hle; omega
  refine ⟨?_, ?_, ?_, ?_⟩
  · rw [hvol]; exact hv0
  · intro a j ha hj hle
    rw [hvol] at hle ⊢
    by_cases hai : a = i
    · subst hai
      rw [T1 j hj]
    · rw [T2 a _ hai]
      exact hv1 a j (by omega) hj hle
  · intro a j ha hj
    by_cases hai : a = i
    · subst hai
      rw [T1 j hj]
      exact hv0 j hj
    · rw [T2 a _ hai]
      exact h.t0 a j (by omega) hj
  · intro a b j hab hb hj hle
    by_cases hbi : b = i
    · subst hbi
      rw [T1 j hj] at hle ⊢
      rw [T2 a _ (by omega)]
      exact hv1 a j (by omega) hj hle
    · rw [T2 b _ hbi] at hle ⊢
      rw [T2 a _ (by omega)]
      exact h.t1 a b j hab (by omega) hj hle

/-! The blocks that follow. -/
theorem flw_lt (s : Sto) (g c : Int) : ∀ m : Nat, ∀ x ∈ flw s g c m, 0 ≤ x.1 ∧ x.1 < m
  | 0 => by simp [flw]
  | m + 1 => by
    intro x hx
    by_cases hc : c ≤ (s.th g (m : Int)).n
    · rw [flw_yes hc] at hx
      rcases List.mem_append.1 hx with h | h
      · have := flw_lt s g c m x h
        omega
      · simp at h
        subst h
        exact ⟨by simp, by simp; omega⟩
    · rw [flw_no hc] at hx
      have := flw_lt s g c m x hx
      omega

theorem least_app (l : List (Int × B4)) (x : Int × B4) (k : Nat) (h : k ≤ l.length) : least (l ++ [x]) k = least l k := by
  cases k with
  | zero => rfl
  | succ k =>
    simp only [least]
    rw [List.map_append, List.getElem?_append_left (by simp; omega)]

theorem flw_up (s : Sto) (g c : Int) : ∀ m : Nat, Rises (m : Int) (flw s g c m)
  | 0 => fun k h => by simp [flw] at h
  | m + 1 => by
    have ih := flw_up s g c m
    have hlt := flw_lt s g c m
    by_cases hc : c ≤ (s.th g (m : Int)).n
    · rw [flw_yes hc]
      obtain ⟨l, hl⟩ : ∃ l, flw s g c m = l := ⟨_, rfl⟩
      rw [hl] at ih hlt
      rw [hl]
      intro k hk
      rw [List.length_append] at hk
      simp only [List.length_cons, List.length_nil] at hk
      rw [least_app _ _ _ (by omega)]
      by_cases hkl : k < l.length
      · rw [List.getElem_append_left hkl]
        have := ih k hkl
        omega
      · have hkk : k = l.length := by omega
        subst hkk
        rw [List.getElem_append_right (Nat.le_refl _)]
        simp only [Nat.sub_self, List.getElem_cons_zero]
        refine ⟨?_, by omega⟩
        cases hq : l.length with
        | zero => show (0 : Int) ≤ _; omega
        | succ q =>
          rw [least_succ l q (by omega)]
          have := hlt (l[q]'(by omega)) (List.getElem_mem _)
          omega
    · rw [flw_no hc]
      intro k hk
      have := ih k hk
      omega

theorem flw_all (s : Sto) (g : Int) : ∀ m, (∀ j : Nat, j < m → 0 ≤ (s.th g (j : Int)).n) → (flw s g 0 m).length = m
  | 0, _ => by simp [flw]
  | m + 1, h => by
    rw [flw_yes (h m (by omega)), List.length_append, flw_all s g m (fun j hj => h j (by omega))]
    rfl

theorem fv_flw (S : Sto) (g c c' : Int) (V : List Ct) (j : Nat) (hj : j < V.length) : ∀ m, (fv c' V (flw S g c m)).getD j Ct.zero = if j < m ∧ c ≤ (S.th g (j : Int)).n then ⟨(S.th g (j : Int)).x, c'⟩ else V.getD j Ct.zero
  | 0 => by
    rw [if_neg (by omega)]
    simp [flw, fv]
  | m + 1 => by
    have ih := fv_flw S g c c' V j hj m
    by_cases hc : c ≤ (S.th g (m : Int)).n
    · rw [flw_yes hc]
      have e : fv c' V (flw S g c m ++ [((m : Int), (S.th g (m : Int)).x)]) = (fv c' V (flw S g c m)).set m ⟨(S.th g (m : Int)).x, c'⟩ := by
        unfold fv
        rw [List.foldl_append]
        simp
      rw [e]
      by_cases hjm : j = m
      · subst hjm
        rw [if_pos ⟨by omega, hc⟩]
        have hl : j < (fv c' V (flw S g c j)).length := by rw [fv_len]; exact hj
        simp [List.getD_eq_getElem?_getD, hl]
      · rw [List.getD_eq_getElem?_getD, List.getElem?_set_ne (Ne.symm hjm), ← List.getD_eq_getElem?_getD, ih]
        by_cases h1 : j < m ∧ c ≤ (S.th g (j : Int)).n
        · rw [if_pos h1, if_pos ⟨by omega, h1.2⟩]
        · rw [if_neg h1, if_neg (fun h => h1 ⟨by omega, h.2⟩)]
    · rw [flw_no hc, ih]
      by_cases h1 : j < m ∧ c ≤ (S.th g (j : Int)).n
      · rw [if_pos h1, if_pos ⟨by omega, h1.2⟩]
      · rw [if_neg h1, if_neg]
        rintro ⟨h2, h3⟩
        by_cases hjm : j = m
        · subst hjm
          exact hc h3
        · exact h1 ⟨by omega, h3⟩

theorem rvol_get (r S : Sto) (f g c : Int) (n j : Nat) (hn : r.vol.length = n) (hj : j < n) : (rvol r f (flw S g c n)).getD j Ct.zero = if c ≤ (S.th g (j : Int)).n then ⟨(S.th g (j : Int)).x, r.came⟩ else r.th f (j : Int) := by
  unfold rvol
  rw [fv_flw S g c r.came _ j (by rw [vk_len _ _ _ (Nat.le_refl _), hn]; exact hj) n]
  have e : (vk r f r.vol.length).getD j Ct.zero = r.th f (j : Int) := by
    unfold vk
    rw [List.getD_eq_getElem?_getD, List.getElem?_append_left (by simp; omega)]
    simp [hn, hj]
  rw [e]
  by_cases h1 : c ≤ (S.th g (j : Int)).n
  · rw [if_pos ⟨hj, h1⟩, if_pos h1]
  · rw [if_neg (fun h => h1 h.2), if_neg h1]
end Go.Proofs.Ythdhegmlknpllaa
