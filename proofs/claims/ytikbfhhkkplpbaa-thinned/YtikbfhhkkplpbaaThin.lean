/-
  The plain mathematics of Thinned. No walk in this text.
-/
import Derived.Test.YtikbfhhkkplpbaaPlain
namespace Go.Proofs.Ytikbfhhkkplpbaa.Pl

/-- Of some places that meet a test one is the newest. -/
theorem newest_of (ts : List Int) (T : Nat → Bool) : ∀ (l : List Nat) (i : Nat), i ∈ l → T i = true → ∃ j ∈ l, T j = true ∧ (j = i ∨ nw ts j i = true) ∧ ∀ k ∈ l, T k = true → nw ts k j = false
  | p :: l, i, hi, hT => by
    by_cases hl : ∃ x ∈ l, T x = true
    · obtain ⟨x, hx, hTx⟩ := hl
      obtain ⟨j, hj, hTj, _, hall⟩ := newest_of ts T l x hx hTx
      -- the newest of the tail against the head
      have hi' : i ∈ l → (j = i ∨ nw ts j i = true) := fun him => by
        by_cases e : j = i
        · exact Or.inl e
        · rcases nw_total ts j i e with h | h
          · exact Or.inr h
          · have := hall i him hT; rw [h] at this; cases this
      by_cases hTp : T p = true
      · by_cases hpj : nw ts p j = true
        · refine ⟨p, by simp, hTp, ?_, ?_⟩
          · rcases List.mem_cons.1 hi with rfl | hi
            · exact Or.inl rfl
            · rcases hi' hi with rfl | h
              · exact Or.inr hpj
              · exact Or.inr (nw_trans ts p j i hpj h)
          · intro k hk hTk
            rcases List.mem_cons.1 hk with rfl | hk
            · exact nw_irr ts _
            · cases h : nw ts k p with
              | false => rfl
              | true =>
                have := hall k hk hTk
                rw [nw_trans ts k p j h hpj] at this
                cases this
        · have hpj' : nw ts p j = false := by simpa using hpj
          refine ⟨j, by simp [hj], hTj, ?_, ?_⟩
          · rcases List.mem_cons.1 hi with rfl | hi
            · by_cases e : j = i
              · exact Or.inl e
              · rcases nw_total ts j i e with h | h
                · exact Or.inr h
                · rw [hpj'] at h; cases h
            · exact hi' hi
          · intro k hk hTk
            rcases List.mem_cons.1 hk with rfl | hk
            · exact hpj'
            · exact hall k hk hTk
      · refine ⟨j, by simp [hj], hTj, ?_, ?_⟩
        · rcases List.mem_cons.1 hi with rfl | hi
          · exact absurd hT hTp
          · exact hi' hi
        · intro k hk hTk
          rcases List.mem_cons.1 hk with rfl | hk
          · exact absurd hTk hTp
          · exact hall k hk hTk
    · have hip : i = p := by
        rcases List.mem_cons.1 hi with h | h
        · exact h
        · exact absurd ⟨i, h, hT⟩ hl
      subst hip
      refine ⟨i, by simp, hT, Or.inl rfl, fun k hk hTk => ?_⟩
      rcases List.mem_cons.1 hk with rfl | hk
      · exact nw_irr ts _
      · exact absurd ⟨k, hk, hTk⟩ hl

/-- Each stretch that a rule reaches keeps one that is not older. -/
theorem stretch_kept {now : Int} {ts : List Int} {last : Int} {rules : List (Int × Int)} {r : Int × Int} (hr : r ∈ rules) {i : Nat} (hi : i < ts.length) (hn : tm ts i ≤ now) (hb : st now ts r.2 i < r.1) :
    ∃ j, j < ts.length ∧ keepR now ts last rules j = true ∧ tm ts j ≤ now ∧ tm ts i ≤ tm ts j ∧ st now ts r.2 j = st now ts r.2 i := by
  obtain ⟨j, hj, hTj, hji, hall⟩ := newest_of ts (fun x => decide (tm ts x ≤ now) && decide (st now ts r.2 x = st now ts r.2 i)) (List.range ts.length) i (List.mem_range.2 hi) (by simp [hn])
  simp only [Bool.and_eq_true, decide_eq_true_eq] at hTj hall
  refine ⟨j, List.mem_range.1 hj, ?_, hTj.1, ?_, hTj.2⟩
  · unfold keepR
    rw [Bool.or_eq_true]
    right
    rw [List.any_eq_true]
    refine ⟨r, hr, ?_⟩
    unfold keptR
    rw [Bool.and_eq_true, decide_eq_true_eq, List.all_eq_true]
    refine ⟨by rw [hTj.2]; exact hb, fun k hk => ?_⟩
    simp only [Bool.not_eq_true', Bool.and_eq_false_iff, decide_eq_false_iff_not]
    by_cases h1 : tm ts k ≤ now
    · by_cases h2 : st now ts r.2 k = st now ts r.2 j
      · exact Or.inl (Or.inl (hall k hk ⟨h1, h2.trans hTj.2⟩))
      · exact Or.inr h2
    · exact Or.inl (Or.inr h1)
  · rcases hji with rfl | h
    · exact Int.le_refl _
    · exact nw_ge ts j i h

/-- With a rule more nothing less is kept. -/
theorem keep_more {now : Int} {ts : List Int} {last : Int} {rules more : List (Int × Int)} (hsub : ∀ r ∈ rules, r ∈ more) {i : Nat} (h : keepR now ts last rules i = true) : keepR now ts last more i = true := by
  unfold keepR at h ⊢
  rw [Bool.or_eq_true] at h ⊢
  rcases h with h | h
  · exact Or.inl h
  · right
    rw [List.any_eq_true] at h ⊢
    obtain ⟨r, hr, hk⟩ := h
    exact ⟨r, hsub r hr, hk⟩

/-- A list without a number twice, all of them below a bound, is no longer than that. -/
theorem nodup_bound : ∀ (m : Nat) (l : List Nat), l.Nodup → (∀ x ∈ l, x < m) → l.length ≤ m
  | 0, l, _, h => by
    cases l with
    | nil => simp
    | cons x l => exact absurd (h x (by simp)) (by omega)
  | m + 1, l, hn, h => by
    have h1 : (l.erase m).length ≤ m := nodup_bound m (l.erase m) (hn.erase m) (fun x hx => by
      have hx' := (hn.mem_erase_iff).1 hx
      have := h x hx'.2
      omega)
    have h2 : l.length ≤ (l.erase m).length + 1 := by
      rw [List.length_erase]
      split <;> omega
    omega

/-- How many of the places a test takes, where a number tells them apart. -/
theorem count_by (T : Nat → Bool) (f : Nat → Nat) (n m : Nat) (hf : ∀ i, i < n → T i = true → f i < m) (hinj : ∀ i j, i < n → j < n → T i = true → T j = true → f i = f j → i = j) : ((List.range n).filter T).length ≤ m := by
  have hmem : ∀ x ∈ (List.range n).filter T, x < n ∧ T x = true := fun x hx => by
    have := List.mem_filter.1 hx
    exact ⟨List.mem_range.1 this.1, this.2⟩
  have hnd : (((List.range n).filter T).map f).Nodup := by
    rw [List.Nodup, List.pairwise_map]
    have hp : ((List.range n).filter T).Pairwise (· ≠ ·) := List.Pairwise.filter _ List.nodup_range
    refine (List.Pairwise.imp_of_mem (R := (· ≠ ·)) ?_ hp)
    intro a b ha hb hab e
    exact hab (hinj a b (hmem a ha).1 (hmem b hb).1 (hmem a ha).2 (hmem b hb).2 e)
  have := nodup_bound m _ hnd (fun x hx => by
    obtain ⟨a, ha, rfl⟩ := List.mem_map.1 hx
    exact hf a (hmem a ha).1 (hmem a ha).2)
  simpa using this

theorem flt_le (A B : Nat → Bool) : ∀ l : List Nat, (∀ x ∈ l, A x = true → B x = true) → (l.filter A).length ≤ (l.filter B).length
  | [], _ => by simp
  | x :: l, h => by
    have ih := flt_le A B l (fun y hy => h y (by simp [hy]))
    have hx := h x (by simp)
    simp only [List.filter_cons]
    cases hA : A x with
    | false => cases B x <;> simp <;> omega
    | true => rw [hx hA]; simp; omega
theorem flt_lt (A B : Nat → Bool) (a : Nat) : ∀ l : List Nat, (∀ x ∈ l, A x = true → B x = true) → a ∈ l → A a = false → B a = true → (l.filter A).length < (l.filter B).length
  | x :: l, h, hm, hA, hB => by
    have hx := h x (by simp)
    have h' : ∀ y ∈ l, A y = true → B y = true := fun y hy => h y (by simp [hy])
    rcases List.mem_cons.1 hm with rfl | hm
    · have := flt_le A B l h'
      simp only [List.filter_cons, hA, hB]
      simp
      omega
    · have ih := flt_lt A B a l h' hm hA hB
      simp only [List.filter_cons]
      cases hAx : A x with
      | false => cases B x <;> simp <;> omega
      | true => rw [hx hAx]; simp; omega

theorem above_inj (ts : List Int) (i j : Nat) (hi : i < ts.length) (hj : j < ts.length) (h : above ts i = above ts j) : i = j := by
  by_cases e : i = j
  · exact e
  · exfalso
    have key : ∀ a b, a < ts.length → nw ts a b = true → above ts a < above ts b := fun a b ha hab =>
      flt_lt _ _ a _ (fun x _ hx => nw_trans ts x a b hx hab) (List.mem_range.2 ha) (nw_irr ts a) hab
    rcases nw_total ts i j e with x | x
    · have := key i j hi x; omega
    · have := key j i hj x; omega

/-- One rule keeps no more than its count. -/
theorem rule_count {now : Int} {ts : List Int} {r : Int × Int} (hq : 1 ≤ r.2) : ((List.range ts.length).filter fun i => decide (tm ts i ≤ now) && keptR now ts i r).length ≤ r.1.toNat := by
  apply count_by _ (fun i => (st now ts r.2 i).toNat)
  · intro i _ hT
    simp only [Bool.and_eq_true, decide_eq_true_eq, keptR] at hT
    have h0 : 0 ≤ st now ts r.2 i := Int.ediv_nonneg (by omega) (by omega)
    omega
  · intro i j hi hj hTi hTj hf
    simp only [Bool.and_eq_true, decide_eq_true_eq, keptR, List.all_eq_true, Bool.not_eq_true', Bool.and_eq_false_iff, decide_eq_false_iff_not] at hTi hTj
    have hi0 : 0 ≤ st now ts r.2 i := Int.ediv_nonneg (by omega) (by omega)
    have hj0 : 0 ≤ st now ts r.2 j := Int.ediv_nonneg (by omega) (by omega)
    have he : st now ts r.2 i = st now ts r.2 j := by omega
    by_cases e : i = j
    · exact e
    · exfalso
      rcases nw_total ts i j e with x | x
      · rcases hTj.2.2 i (List.mem_range.2 hi) with (y | y) | y
        · rw [x] at y; cases y
        · exact y hTi.1
        · exact y he
      · rcases hTi.2.2 j (List.mem_range.2 hj) with (y | y) | y
        · rw [x] at y; cases y
        · exact y hTj.1
        · exact y he.symm

def sumC : List (Int × Int) → Nat
  | [] => 0
  | r :: l => r.1.toNat + sumC l

theorem filter_or (A B : Nat → Bool) : ∀ l : List Nat, (l.filter fun i => A i || B i).length ≤ (l.filter A).length + (l.filter B).length
  | [] => by simp
  | x :: l => by
    have := filter_or A B l
    simp only [List.filter_cons]
    cases A x <;> cases B x <;> simp <;> omega

theorem rules_count {now : Int} {ts : List Int} : ∀ rules : List (Int × Int), (∀ r ∈ rules, 1 ≤ r.2) → ((List.range ts.length).filter fun i => decide (tm ts i ≤ now) && rules.any (keptR now ts i)).length ≤ sumC rules
  | [], _ => by
    have : ((List.range ts.length).filter fun i => decide (tm ts i ≤ now) && ([] : List (Int × Int)).any (keptR now ts i)) = [] := filter_none (fun x _ => by simp)
    rw [this]; simp
  | r :: l, h => by
    have h1 := rule_count (now := now) (ts := ts) (r := r) (h r (by simp))
    have h2 := rules_count (now := now) (ts := ts) l (fun x hx => h x (by simp [hx]))
    have h3 := filter_or (fun i => decide (tm ts i ≤ now) && keptR now ts i r) (fun i => decide (tm ts i ≤ now) && l.any (keptR now ts i)) (List.range ts.length)
    have e : (fun i => decide (tm ts i ≤ now) && (r :: l).any (keptR now ts i)) = fun i => (decide (tm ts i ≤ now) && keptR now ts i r) || (decide (tm ts i ≤ now) && l.any (keptR now ts i)) := by
      funext i
      cases decide (tm ts i ≤ now) <;> simp
    rw [e]
    show _ ≤ r.1.toNat + sumC l
    omega

/-- No rule keeps more than its count, and no more of the newest are kept than are asked for. -/
theorem keep_count {now : Int} {ts : List Int} {last : Int} {rules : List (Int × Int)} (hl : 0 ≤ last) (hs : ∀ r ∈ rules, 1 ≤ r.2) :
    ((List.range ts.length).filter fun i => keepR now ts last rules i && decide (tm ts i ≤ now)).length ≤ last.toNat + sumC rules := by
  have h1 : ((List.range ts.length).filter fun i => decide ((above ts i : Int) < last)).length ≤ last.toNat := by
    apply count_by _ (fun i => above ts i)
    · intro i _ h; simp at h; omega
    · intro i j hi hj _ _ hf; exact above_inj ts i j hi hj hf
  have h2 := rules_count (now := now) (ts := ts) rules hs
  have h3 := filter_or (fun i => decide ((above ts i : Int) < last)) (fun i => decide (tm ts i ≤ now) && rules.any (keptR now ts i)) (List.range ts.length)
  have h4 : ((List.range ts.length).filter fun i => keepR now ts last rules i && decide (tm ts i ≤ now)).length ≤ ((List.range ts.length).filter fun i => decide ((above ts i : Int) < last) || (decide (tm ts i ≤ now) && rules.any (keptR now ts i))).length := by
    apply flt_le
    intro i _ h
    simp only [keepR, Bool.and_eq_true, Bool.or_eq_true, decide_eq_true_eq] at h ⊢
    rcases h with ⟨(h | h) | h, hn⟩
    · exact Or.inl h
    · omega
    · exact Or.inr ⟨hn, h⟩
  omega
end Go.Proofs.Ytikbfhhkkplpbaa.Pl
