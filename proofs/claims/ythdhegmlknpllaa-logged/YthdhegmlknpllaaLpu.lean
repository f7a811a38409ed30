/-
  Pure: Logged: where the snapshots stand in the log.
-/
import Derived.Test.YthdhegmlknpllaaLer
namespace Go.Proofs.Ythdhegmlknpllaa
open Go.RowKit Go.Maps Go.MuLone

def opsW (ops : List (Nat × B4)) : List Lo := ops.map fun o => Lo.w o.1 o.2

theorem fold_w : ∀ (ops : List (Nat × B4)) (s s' : Sto) (lv : Value), Eqv s s' → Eqv { s with vol := wvol s.came s.vol ops, log := s.log ++ wlog ops, lv := lv } ((opsW ops).foldl stp s')
  | [], s, s', lv, h => by
    have e : { s with vol := wvol s.came s.vol [], log := s.log ++ wlog [], lv := lv } = { s with lv := lv } := by simp [wvol, wlog]
    rw [e]
    exact ⟨h.id, h.vol, h.ss, h.th, h.ms, h.cm, h.tk, h.cnt, h.lg, h.mv⟩
  | o :: r, s, s', lv, h => by
    have ih := fold_w r ((s.write o.1 o.2).noted 87 (wtext o.1 o.2) lv) (stp s' (Lo.w o.1 o.2)) lv (h.step_w o.1 o.2 lv)
    have e : { (s.write o.1 o.2).noted 87 (wtext o.1 o.2) lv with vol := wvol ((s.write o.1 o.2).noted 87 (wtext o.1 o.2) lv).came ((s.write o.1 o.2).noted 87 (wtext o.1 o.2) lv).vol r, log := ((s.write o.1 o.2).noted 87 (wtext o.1 o.2) lv).log ++ wlog r, lv := lv } = { s with vol := wvol s.came s.vol (o :: r), log := s.log ++ wlog (o :: r), lv := lv } := by
      simp [Sto.noted, Sto.write, wvol, wlog]
    rw [e] at ih
    exact ih

theorem wrote_eqv {d : Int} {n : Nat} {L : List Lo} {s s1 : Sto} {ops : List (Nat × B4)} (h : Eqv s (st d n L)) (hW : Wrote n s ops s1) : Eqv s1 (st d n (L ++ opsW ops)) := by
  obtain ⟨lv, rfl⟩ := hW.eq
  have := fold_w ops s (st d n L) lv h
  unfold st at this ⊢
  rw [List.foldl_append]
  exact this

theorem taken_eqv {d : Int} {n : Nat} {L : List Lo} {s s1 : Sto} {ops : List (Nat × B4)} (h : Eqv s (st d n L)) (hW : Wrote n s ops s1) (t : Int) (sv lv : Value) : Eqv ((s1.snap t sv).noted 83 (n4 t).ba lv) (st d n (L ++ opsW ops ++ [Lo.s t])) := by
  rw [st_snoc]
  exact (wrote_eqv h hW).step_s t sv lv

theorem ns_opsW (ops : List (Nat × B4)) : ns (opsW ops) = 0 := by
  induction ops with
  | nil => rfl
  | cons o r ih =>
    have e : opsW (o :: r) = Lo.w o.1 o.2 :: opsW r := rfl
    rw [e, ns_cons, ih]
    rfl
theorem ns_take_mono (L : List Lo) {i j : Nat} (h : i ≤ j) : ns (L.take i) ≤ ns (L.take j) := by
  have e : L.take j = L.take i ++ (L.take j).drop i := by
    have := List.take_append_drop i (L.take j)
    rw [List.take_take, Nat.min_eq_left h] at this
    exact this.symm
  rw [e, ns_append]
  omega

/-- How long the log was behind each snapshot. -/
def Cuts (d : Int) (n : Nat) (L : List Lo) (M : List Nat) : Prop := ∀ i (h : i < M.length), ∃ p, p < L.length ∧ M[i] = (lgT d n (L.take (p + 1))).length ∧ ns (L.take p) = i ∧ ns (L.take (p + 1)) = i + 1

theorem Cuts.push {d : Int} {n : Nat} {L : List Lo} {M : List Nat} {k : Nat} (h : Cuts d n L M) (hM : M.length = k) (hk : ns L = k) (ops : List (Nat × B4)) (t : Int) : Cuts d n (L ++ opsW ops ++ [Lo.s t]) (M ++ [(lgT d n (L ++ opsW ops ++ [Lo.s t])).length]) := by
  intro i hi
  rw [List.length_append, List.length_cons, List.length_nil] at hi
  by_cases hlt : i < M.length
  · obtain ⟨p, hp, h1, h2, h3⟩ := h i hlt
    have e : ∀ q : Nat, q ≤ L.length → (L ++ opsW ops ++ [Lo.s t]).take q = L.take q := fun q hq => by
      rw [List.append_assoc, List.take_append_of_le_length hq]
    refine ⟨p, by simp; omega, ?_, ?_, ?_⟩
    · rw [List.getElem_append_left hlt, e _ (by omega)]
      exact h1
    · rw [e _ (by omega)]; exact h2
    · rw [e _ (by omega)]; exact h3
  · have hi' : i = M.length := by omega
    subst hi'
    have hlen : (L ++ opsW ops ++ [Lo.s t]).length = (L ++ opsW ops).length + 1 := by rw [List.length_append]; rfl
    refine ⟨(L ++ opsW ops).length, by omega, ?_, ?_, ?_⟩
    · rw [List.getElem_append_right (Nat.le_refl _), ← hlen, List.take_length]
      simp
    · rw [List.take_left, ns_append, ns_opsW, hk, hM]
      rfl
    · rw [← hlen, List.take_length, ns_append, ns_append, ns_opsW, hk, hM]
      rfl

/-- A first part of the log holds a snapshot, if it is as long as the log was behind it. -/
theorem Cuts.iff {d : Int} {n : Nat} {L : List Lo} {M : List Nat} (h : Cuts d n L M) {c m : Nat} (hm2 : (lgT d n (L.take m)).length ≤ c) (hm3 : m < L.length → c < (lgT d n (L.take (m + 1))).length) (i : Nat) (hi : i < M.length) : M[i] ≤ c ↔ i < ns (L.take m) := by
  obtain ⟨p, hp, h1, h2, h3⟩ := h i hi
  by_cases hpm : p + 1 ≤ m
  · have a1 := lgT_mono d n L hpm
    have a2 := ns_take_mono L hpm
    constructor
    · intro _; omega
    · intro _; omega
  · have a1 := lgT_mono d n L (show m + 1 ≤ p + 1 by omega)
    have a2 := ns_take_mono L (show m ≤ p by omega)
    have a3 := hm3 (by omega)
    constructor
    · intro _; omega
    · intro _; omega

/-- The calls that are whole in a first part of the log. -/
theorem whole_of (d : Int) (n : Nat) (L : List Lo) (c : Nat) (hc : 7 ≤ c) : ∃ m, m ≤ L.length ∧ (lgT d n (L.take m)).length ≤ c ∧ (m < L.length → c < (lgT d n (L.take (m + 1))).length) := by
  have : ∀ q, q ≤ L.length → (∃ m, m ≤ q ∧ (lgT d n (L.take m)).length ≤ c ∧ (m < q → c < (lgT d n (L.take (m + 1))).length)) := by
    intro q
    induction q with
    | zero => intro _; exact ⟨0, Nat.le_refl _, by simp [lgT, entN_len]; omega, fun h => by omega⟩
    | succ q ih =>
      intro hq
      obtain ⟨m, h1, h2, h3⟩ := ih (by omega)
      by_cases hmq : m < q
      · exact ⟨m, by omega, h2, fun _ => h3 hmq⟩
      · have hmq' : m = q := by omega
        subst hmq'
        by_cases hc2 : (lgT d n (L.take (m + 1))).length ≤ c
        · exact ⟨m + 1, by omega, hc2, fun h => by omega⟩
        · exact ⟨m, by omega, h2, fun _ => by omega⟩
  exact this L.length (Nat.le_refl _)
end Go.Proofs.Ythdhegmlknpllaa
