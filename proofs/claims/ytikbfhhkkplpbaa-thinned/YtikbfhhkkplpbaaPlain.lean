/-
  The plain mathematics of Keep: what the reference's text reckons, what the program's text reckons, and that both mark the same places. No walk in this text.
-/
namespace Go.Proofs.Ytikbfhhkkplpbaa.Pl

def tm (ts : List Int) (i : Nat) : Int := ts.getD i 0
def nw (ts : List Int) (i k : Nat) : Bool := decide (tm ts k < tm ts i) || (decide (tm ts i = tm ts k) && decide (k < i))
def st (now : Int) (ts : List Int) (span : Int) (p : Nat) : Int := (now - tm ts p) / span

/-- What one rule marks of an order, as the program goes through it. -/
def rm (b : Nat → Int) (count : Int) : List Nat → Int → List Nat
  | [], _ => []
  | p :: l, seen => if count ≤ b p then [] else if b p = seen then rm b count l seen else p :: rm b count l (b p)

/-- The places that the program marks. -/
def prS (now : Int) (ts : List Int) (last : Nat) (rules : List (Int × Int)) (o : List Nat) : List Nat :=
  o.take last ++ o.takeWhile (fun p => decide (now < tm ts p)) ++ rules.flatMap fun r => rm (st now ts r.2) r.1 (o.dropWhile fun p => decide (now < tm ts p)) (-1)

def above (ts : List Int) (k : Nat) : Nat := ((List.range ts.length).filter fun i => nw ts i k).length
def keptR (now : Int) (ts : List Int) (k : Nat) (r : Int × Int) : Bool :=
  decide (st now ts r.2 k < r.1) && (List.range ts.length).all fun i => !(nw ts i k && decide (tm ts i ≤ now) && decide (st now ts r.2 i = st now ts r.2 k))
/-- What the reference says of one place. -/
def keepR (now : Int) (ts : List Int) (last : Int) (rules : List (Int × Int)) (k : Nat) : Bool :=
  decide ((above ts k : Int) < last) || decide (now < tm ts k) || rules.any (keptR now ts k)

theorem nw_irr (ts : List Int) (k : Nat) : nw ts k k = false := by simp [nw]
theorem nw_asymm (ts : List Int) (i k : Nat) (h : nw ts i k = true) : nw ts k i = false := by
  simp only [nw, Bool.or_eq_true, Bool.and_eq_true, decide_eq_true_eq, Bool.or_eq_false_iff, Bool.and_eq_false_iff, decide_eq_false_iff_not] at h ⊢
  omega
theorem nw_ge (ts : List Int) (i k : Nat) (h : nw ts i k = true) : tm ts k ≤ tm ts i := by
  simp only [nw, Bool.or_eq_true, Bool.and_eq_true, decide_eq_true_eq] at h
  omega
theorem nw_total (ts : List Int) (i k : Nat) (h : i ≠ k) : nw ts i k = true ∨ nw ts k i = true := by
  simp only [nw, Bool.or_eq_true, Bool.and_eq_true, decide_eq_true_eq]
  omega
theorem nw_trans (ts : List Int) (a b c : Nat) (h1 : nw ts a b = true) (h2 : nw ts b c = true) : nw ts a c = true := by
  simp only [nw, Bool.or_eq_true, Bool.and_eq_true, decide_eq_true_eq] at h1 h2 ⊢
  omega

theorem rm_iff (b : Nat → Int) (count : Int) (k : Nat) : ∀ (l : List Nat) (seen : Int), l.Pairwise (fun x y => b x ≤ b y) → (∀ x ∈ l, seen ≤ b x) →
    (k ∈ rm b count l seen ↔ ∃ l1 l2, l = l1 ++ k :: l2 ∧ b k < count ∧ b k ≠ seen ∧ ∀ q ∈ l1, b q ≠ b k)
  | [], seen, _, _ => by simp [rm]
  | p :: l, seen, hp, hs => by
    obtain ⟨hp1, hp2⟩ := List.pairwise_cons.1 hp
    have hsp := hs p (by simp)
    unfold rm
    split
    · rename_i hc
      constructor
      · intro h; simp at h
      · rintro ⟨l1, l2, e, h1, h2, h3⟩
        exfalso
        cases l1 with
        | nil => simp at e; rw [← e.1] at h1; omega
        | cons x l1 =>
          simp at e
          have := hp1 k (by rw [e.2]; simp)
          omega
    · rename_i hc
      split
      · rename_i he
        rw [rm_iff b count k l seen hp2 (fun x hx => hs x (by simp [hx]))]
        constructor
        · rintro ⟨l1, l2, e, h1, h2, h3⟩
          refine ⟨p :: l1, l2, by simp [e], h1, h2, ?_⟩
          intro q hq
          rcases List.mem_cons.1 hq with rfl | hq
          · rw [he]; exact fun e => h2 e.symm
          · exact h3 q hq
        · rintro ⟨l1, l2, e, h1, h2, h3⟩
          cases l1 with
          | nil => simp at e; exact absurd (by rw [← e.1]; exact he) h2
          | cons x l1 =>
            simp at e
            exact ⟨l1, l2, e.2, h1, h2, fun q hq => h3 q (by simp [hq])⟩
      · rename_i he
        rw [List.mem_cons, rm_iff b count k l (b p) hp2 hp1]
        constructor
        · rintro (rfl | ⟨l1, l2, e, h1, h2, h3⟩)
          · exact ⟨[], l, rfl, by omega, he, fun q hq => by simp at hq⟩
          · have hk := hp1 k (by rw [e]; simp)
            refine ⟨p :: l1, l2, by simp [e], h1, by omega, ?_⟩
            intro q hq
            rcases List.mem_cons.1 hq with rfl | hq
            · exact fun e => h2 e.symm
            · exact h3 q hq
        · rintro ⟨l1, l2, e, h1, h2, h3⟩
          cases l1 with
          | nil => simp at e; exact Or.inl e.1.symm
          | cons x l1 =>
            simp at e
            right
            exact ⟨l1, l2, e.2, h1, by rw [e.1]; exact fun y => h3 x (by simp) y.symm, fun q hq => h3 q (by simp [hq])⟩

theorem mem_split {k : Nat} : ∀ {l : List Nat}, k ∈ l → ∃ l1 l2, l = l1 ++ k :: l2
  | p :: l, h => by
    rcases List.mem_cons.1 h with rfl | h
    · exact ⟨[], l, rfl⟩
    · obtain ⟨l1, l2, rfl⟩ := mem_split h
      exact ⟨p :: l1, l2, rfl⟩

theorem filter_all {p : Nat → Bool} : ∀ {l : List Nat}, (∀ x ∈ l, p x = true) → l.filter p = l
  | [], _ => rfl
  | x :: l, h => by rw [List.filter_cons, if_pos (h x (by simp)), filter_all fun y hy => h y (by simp [hy])]
theorem filter_none {p : Nat → Bool} : ∀ {l : List Nat}, (∀ x ∈ l, p x = false) → l.filter p = []
  | [], _ => rfl
  | x :: l, h => by rw [List.filter_cons, if_neg (by rw [h x (by simp)]; simp), filter_none fun y hy => h y (by simp [hy])]

/-- What is known of the order: each place once, the newest first. -/
structure Ord (ts : List Int) (o : List Nat) : Prop where
  perm : o.Perm (List.range ts.length)
  desc : o.Pairwise fun a b => nw ts a b = true

theorem Ord.split {ts : List Int} {o : List Nat} (h : Ord ts o) {k : Nat} (hk : k < ts.length) : ∃ o1 o2, o = o1 ++ k :: o2 ∧ (∀ a ∈ o1, nw ts a k = true) ∧ (∀ c ∈ o2, nw ts k c = true) := by
  obtain ⟨o1, o2, rfl⟩ := mem_split (h.perm.mem_iff.2 (List.mem_range.2 hk))
  have hd := List.pairwise_append.1 h.desc
  exact ⟨o1, o2, rfl, fun a ha => hd.2.2 a ha k (by simp), fun c hc => (List.pairwise_cons.1 hd.2.1).1 c hc⟩

theorem above_eq {ts : List Int} {o1 o2 : List Nat} {k : Nat} (h : Ord ts (o1 ++ k :: o2)) (h1 : ∀ a ∈ o1, nw ts a k = true) (h2 : ∀ c ∈ o2, nw ts k c = true) : above ts k = o1.length := by
  unfold above
  rw [← (h.perm.filter _).length_eq, List.filter_append, List.filter_cons, if_neg (by rw [nw_irr]; simp), filter_all h1, filter_none fun c hc => nw_asymm ts k c (h2 c hc)]
  simp

theorem take_mem {o1 o2 : List Nat} {k L : Nat} (h : k ∉ o1) : k ∈ (o1 ++ k :: o2).take L ↔ o1.length < L := by
  constructor
  · intro hm
    by_cases hl : o1.length < L
    · exact hl
    · rw [List.take_append_of_le_length (by omega)] at hm
      exact absurd (List.mem_of_mem_take hm) h
  · intro hl
    rw [List.take_append]
    obtain ⟨m, hm⟩ : ∃ m, L - o1.length = m + 1 := ⟨L - o1.length - 1, by omega⟩
    rw [hm]
    simp

theorem tw_split {P : Nat → Bool} : ∀ {o1 : List Nat} {k : Nat} {o2 : List Nat}, (∀ a ∈ o1, P k = true → P a = true) → P k = true → k ∈ (o1 ++ k :: o2).takeWhile P
  | [], k, o2, _, hk => by simp [hk]
  | a :: o1, k, o2, h, hk => by
    have ha := h a (by simp) hk
    simp only [List.cons_append, List.takeWhile_cons, ha, if_true]
    exact List.mem_cons_of_mem _ (tw_split (fun x hx => h x (by simp [hx])) hk)

theorem tw_mem {P : Nat → Bool} : ∀ {l : List Nat} {k : Nat}, k ∈ l.takeWhile P → P k = true
  | a :: l, k, h => by
    rw [List.takeWhile_cons] at h
    split at h
    · rename_i ha
      rcases List.mem_cons.1 h with rfl | h
      · exact ha
      · exact tw_mem h
    · simp at h

/-- Where the test falls along the list: what is left is what fails it. -/
theorem dw_filter {P : Nat → Bool} : ∀ {l : List Nat}, l.Pairwise (fun a b => P b = true → P a = true) → l.dropWhile P = l.filter (fun x => !P x)
  | [], _ => rfl
  | a :: l, h => by
    obtain ⟨h1, h2⟩ := List.pairwise_cons.1 h
    rw [List.dropWhile_cons, List.filter_cons]
    cases ha : P a with
    | true => simp [dw_filter h2]
    | false =>
      simp only [Bool.not_false, if_true]
      rw [filter_all]
      · simp
      · intro x hx
        cases hx' : P x with
        | false => rfl
        | true => have := h1 x hx hx'; rw [ha] at this; cases this

theorem div_mono (a b s : Int) (hs : 1 ≤ s) (h : a ≤ b) : a / s ≤ b / s := Int.ediv_le_ediv (by omega) h

theorem rule_eq {now : Int} {ts : List Int} {o : List Nat} (h : Ord ts o) {k : Nat} (hk : k < ts.length) (hn : ¬ now < tm ts k) (r : Int × Int) (hs : 1 ≤ r.2) :
    k ∈ rm (st now ts r.2) r.1 (o.dropWhile fun p => decide (now < tm ts p)) (-1) ↔ keptR now ts k r = true := by
  have hpw : o.Pairwise (fun a b => (fun p => decide (now < tm ts p)) b = true → (fun p => decide (now < tm ts p)) a = true) :=
    h.desc.imp fun {a b} hab hb => by have := nw_ge ts a b hab; simp at hb ⊢; omega
  have hl : ∀ x ∈ o.dropWhile (fun p => decide (now < tm ts p)), tm ts x ≤ now := by
    rw [dw_filter hpw]
    intro x hx
    have := (List.mem_filter.1 hx).2
    simp at this
    exact this
  have hsub : (o.dropWhile fun p => decide (now < tm ts p)).Pairwise (fun a b => nw ts a b = true) := h.desc.sublist (List.dropWhile_sublist _)
  rw [rm_iff]
  rotate_left
  · exact hsub.imp fun {a b} hab => div_mono _ _ _ hs (by have := nw_ge ts a b hab; omega)
  · intro x hx
    have := hl x hx
    have h0 : 0 ≤ st now ts r.2 x := Int.ediv_nonneg (by omega) (by omega)
    omega
  have h0k : 0 ≤ st now ts r.2 k := Int.ediv_nonneg (by omega) (by omega)
  unfold keptR
  rw [Bool.and_eq_true, decide_eq_true_eq, List.all_eq_true]
  constructor
  · rintro ⟨l1, l2, e, h1, _, h3⟩
    refine ⟨h1, fun i hi => ?_⟩
    rw [List.mem_range] at hi
    simp only [Bool.not_eq_true', Bool.and_eq_false_iff, decide_eq_false_iff_not]
    by_cases hik : nw ts i k = true
    · by_cases hin : tm ts i ≤ now
      · right
        have him : i ∈ o.dropWhile (fun p => decide (now < tm ts p)) := by
          rw [dw_filter hpw, List.mem_filter]
          exact ⟨h.perm.mem_iff.2 (List.mem_range.2 hi), by simp; exact hin⟩
        rw [e] at him hsub
        have hd := List.pairwise_append.1 hsub
        rcases List.mem_append.1 him with hm | hm
        · exact h3 i hm
        · rcases List.mem_cons.1 hm with rfl | hm
          · rw [nw_irr] at hik; cases hik
          · have := (List.pairwise_cons.1 hd.2.1).1 i hm
            rw [nw_asymm ts k i this] at hik; cases hik
      · exact Or.inl (Or.inr hin)
    · exact Or.inl (Or.inl (by simpa using hik))
  · rintro ⟨h1, h2⟩
    have hkm : k ∈ o.dropWhile (fun p => decide (now < tm ts p)) := by
      rw [dw_filter hpw, List.mem_filter]
      exact ⟨h.perm.mem_iff.2 (List.mem_range.2 hk), by simp; omega⟩
    obtain ⟨l1, l2, e⟩ := mem_split hkm
    refine ⟨l1, l2, e, h1, by omega, fun q hq => ?_⟩
    have hqm : q ∈ o.dropWhile (fun p => decide (now < tm ts p)) := by rw [e]; simp [hq]
    have hqn := hl q hqm
    rw [e] at hsub
    have hqk := (List.pairwise_append.1 hsub).2.2 q hq k (by simp)
    have hqr : q < ts.length := List.mem_range.1 (h.perm.mem_iff.1 ((List.dropWhile_sublist _).subset hqm))
    have := h2 q (List.mem_range.2 hqr)
    simp only [Bool.not_eq_true', Bool.and_eq_false_iff, decide_eq_false_iff_not] at this
    rcases this with (x | x) | x
    · rw [hqk] at x; cases x
    · exact absurd hqn x
    · exact x

theorem keep_eq {now : Int} {ts : List Int} {o : List Nat} (h : Ord ts o) {k : Nat} (hk : k < ts.length) (last : Int) (hl0 : 0 ≤ last) (rules : List (Int × Int)) (hs : ∀ r ∈ rules, 1 ≤ r.2) :
    k ∈ prS now ts last.toNat rules o ↔ keepR now ts last rules k = true := by
  obtain ⟨o1, o2, rfl, ho1, ho2⟩ := h.split hk
  have hno : k ∉ o1 := fun hm => by have := ho1 k hm; rw [nw_irr] at this; cases this
  unfold prS keepR
  rw [List.mem_append, List.mem_append, take_mem hno, Bool.or_eq_true, Bool.or_eq_true, decide_eq_true_eq, decide_eq_true_eq, above_eq h ho1 ho2]
  have e1 : o1.length < last.toNat ↔ (o1.length : Int) < last := by omega
  rw [e1]
  by_cases hn : now < tm ts k
  · constructor
    · intro _; exact Or.inl (Or.inr hn)
    · intro _
      refine Or.inl (Or.inr (tw_split (fun a ha _ => ?_) (by simpa using hn)))
      have := nw_ge ts a k (ho1 a ha)
      simp
      omega
  · have hw : ¬ k ∈ List.takeWhile (fun p => decide (now < tm ts p)) (o1 ++ k :: o2) := fun hm => by
      have := tw_mem hm
      simp at this
      exact hn this
    have hr : k ∈ (rules.flatMap fun r => rm (st now ts r.2) r.1 ((o1 ++ k :: o2).dropWhile fun p => decide (now < tm ts p)) (-1)) ↔ rules.any (keptR now ts k) = true := by
      rw [List.mem_flatMap, List.any_eq_true]
      constructor
      · rintro ⟨r, hr, hm⟩; exact ⟨r, hr, (rule_eq h hk hn r (hs r hr)).1 hm⟩
      · rintro ⟨r, hr, hm⟩; exact ⟨r, hr, (rule_eq h hk hn r (hs r hr)).2 hm⟩
    rw [hr]
    constructor
    · rintro ((x | x) | x)
      · exact Or.inl (Or.inl x)
      · exact absurd x hw
      · exact Or.inr x
    · rintro ((x | x) | x)
      · exact Or.inl (Or.inl x)
      · exact absurd x hn
      · exact Or.inr x

end Go.Proofs.Ytikbfhhkkplpbaa.Pl
