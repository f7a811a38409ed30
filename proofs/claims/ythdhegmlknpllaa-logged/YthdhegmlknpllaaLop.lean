/-
  Pure: what a log tells.
-/
import Derived.Test.YthdhegmlknpllaaLro
namespace Go.Proofs.Ythdhegmlknpllaa
open Go.RowKit Go.Maps Go.MuLone

/-- A call that stands in a log: a block is written, a snapshot is taken. -/
abbrev Lo : Type := Sum (Nat × B4) Int
abbrev Lo.w (k : Nat) (x : B4) : Lo := Sum.inl (k, x)
abbrev Lo.s (t : Int) : Lo := Sum.inr t
def Lo.ent : Lo → List UInt8
  | Sum.inl (k, x) => entry 87 (wtext k x)
  | Sum.inr t => entry 83 (n4 t).ba
def Lo.ok (n : Nat) : Lo → Prop
  | Sum.inl (k, _) => k < n
  | Sum.inr t => 0 ≤ t ∧ t ≤ 1073741824
def Lo.snaps : Lo → Nat
  | Sum.inl _ => 0
  | Sum.inr _ => 1
def ns (L : List Lo) : Nat := (L.map Lo.snaps).sum
def lgT (d : Int) (n : Nat) (L : List Lo) : List UInt8 := entN d n ++ L.flatMap Lo.ent
def stp (s : Sto) : Lo → Sto
  | Sum.inl (k, x) => (s.write k x).noted 87 (wtext k x) s.lv
  | Sum.inr t => (s.snap t s.sv).noted 83 (n4 t).ba s.lv
def st (d : Int) (n : Nat) (L : List Lo) : Sto := L.foldl stp (Sto.made d n 0 0 (.slice none 0 0))

theorem ns_snoc (L : List Lo) (o : Lo) : ns (L ++ [o]) = ns L + o.snaps := by simp [ns]
theorem st_snoc (d : Int) (n : Nat) (L : List Lo) (o : Lo) : st d n (L ++ [o]) = stp (st d n L) o := by simp [st, List.foldl_append]
theorem lgT_snoc (d : Int) (n : Nat) (L : List Lo) (o : Lo) : lgT d n (L ++ [o]) = lgT d n L ++ o.ent := by simp [lgT]
theorem ent_len (o : Lo) : 6 ≤ o.ent.length ∧ o.ent.length ≤ 7 := by
  cases o with
  | inl p => obtain ⟨_, _⟩ := p; exact ⟨by show 6 ≤ 7; omega, by show 7 ≤ 7; omega⟩
  | inr t => exact ⟨by show 6 ≤ 6; omega, by show 6 ≤ 7; omega⟩
theorem entN_len (d : Int) (n : Nat) : (entN d n).length = 7 := rfl
theorem lgT_len (d : Int) (n : Nat) (L : List Lo) : 7 + 6 * L.length ≤ (lgT d n L).length ∧ (lgT d n L).length ≤ 7 + 7 * L.length := by
  induction L with
  | nil => simp [lgT, entN_len]
  | cons o r ih =>
    have e := ent_len o
    simp only [lgT, List.flatMap_cons, List.length_append, List.length_cons, entN_len] at ih ⊢
    omega

/-- The same store, wherever it lies. -/
structure Eqv (s s' : Sto) : Prop where
  id : s.id = s'.id
  vol : s.vol = s'.vol
  ss : s.ss = s'.ss
  th : s.th = s'.th
  ms : s.ms = s'.ms
  cm : s.came = s'.came
  tk : s.taken = s'.taken
  cnt : s.cnt = s'.cnt
  lg : s.log = s'.log
  mv : s.mv = s'.mv
theorem Eqv.made (d : Int) (n vb mb : Nat) (lv : Value) : Eqv (Sto.made d n vb mb lv) (st d n []) := ⟨rfl, rfl, rfl, rfl, rfl, rfl, rfl, rfl, rfl, rfl⟩
theorem Eqv.step_w {s s' : Sto} (h : Eqv s s') (k : Nat) (x : B4) (lv : Value) : Eqv ((s.write k x).noted 87 (wtext k x) lv) (stp s' (Lo.w k x)) :=
  ⟨h.id, by simp [Sto.noted, Sto.write, stp, h.vol, h.cm], h.ss, h.th, h.ms, h.cm, h.tk, h.cnt, by simp [Sto.noted, Sto.write, stp, h.lg], h.mv⟩
theorem Eqv.step_s {s s' : Sto} (h : Eqv s s') (t : Int) (sv lv : Value) : Eqv ((s.snap t sv).noted 83 (n4 t).ba lv) (stp s' (Lo.s t)) :=
  ⟨h.id, h.vol, by simp [Sto.noted, Sto.snap, Sto.add, stp, gu, h.ss, h.id, h.tk, h.cm], by simp [Sto.noted, Sto.snap, Sto.add, stp, gu, h.th, h.vol, h.id, h.tk], h.ms, by simp [Sto.noted, Sto.snap, Sto.add, stp, h.cm], by simp [Sto.noted, Sto.snap, Sto.add, stp, h.tk], by simp [Sto.noted, Sto.snap, Sto.add, stp, h.cnt, h.vol], by simp [Sto.noted, Sto.snap, Sto.add, stp, h.lg], h.mv⟩
theorem Eqv.inv {s s' : Sto} (h : Eqv s s') {z : Int} {n i m : Nat} (I : Inv s' z n i m) : Inv s z n i m := by
  refine ⟨h.id.trans I.id, by rw [h.vol]; exact I.vol, by rw [h.ss]; exact I.ss, h.tk.trans I.tk, h.cm.trans I.cm, h.ms.trans I.ms, by rw [h.cnt]; exact I.cnt, ?_, ?_, by rw [h.lg]; exact I.lg, h.mv.trans I.mv⟩
  · intro k hk
    have hk' : k < s'.ss.length := by rw [← h.ss]; exact hk
    have := I.gd k hk'
    simp only [h.ss]
    exact this
  · intro k hk
    have hk' : k < s'.ss.length := by rw [← h.ss]; exact hk
    have := I.cd k hk'
    simp only [h.ss]
    exact this

theorem snocInd {α : Type} {P : List α → Prop} (h0 : P []) (h1 : ∀ L o, P L → P (L ++ [o])) : ∀ L, P L := by
  intro L
  have : ∀ R : List α, P R.reverse := by
    intro R
    induction R with
    | nil => exact h0
    | cons x r ih => rw [List.reverse_cons]; exact h1 _ _ ih
  have := this L.reverse
  rwa [List.reverse_reverse] at this

theorem st_inv (d : Int) (n : Nat) (hn : n ≤ 16) : ∀ L : List Lo, (∀ o ∈ L, o.ok n) → Inv (st d n L) d n (ns L) (7 + 7 * L.length) := by
  refine snocInd ?_ ?_
  · intro _
    exact ⟨rfl, by simp [st, Sto.made, Sto.noted, Sto.fresh], rfl, rfl, rfl, rfl, Nat.le_refl _, fun k hk => by simp [st, Sto.made, Sto.noted, Sto.fresh] at hk, fun k hk => by simp [st, Sto.made, Sto.noted, Sto.fresh] at hk, by show (Sto.made d n 0 0 (.slice none 0 0)).log.length ≤ 7; rw [made_log]; omega, rfl⟩
  · intro L o ih hok
    have I := ih (fun x hx => hok x (List.mem_append.2 (Or.inl hx)))
    have ho := hok o (List.mem_append.2 (Or.inr (by simp)))
    rw [st_snoc, ns_snoc, List.length_append]
    cases o with
    | inl p =>
      obtain ⟨k, x⟩ := p
      have := I.write k x (st d n L).lv
      show Inv _ d n (ns L + 0) (7 + 7 * (L.length + 1))
      exact this
    | inr t => exact I.snap hn (by simp; omega) t ho _ _

theorem st_log (d : Int) (n : Nat) : ∀ L : List Lo, (st d n L).log = lgT d n L := by
  refine snocInd ?_ ?_
  · simp [st, lgT, Sto.made, Sto.noted, Sto.fresh, entN]
  · intro L o ih
    rw [st_snoc, lgT_snoc, ← ih]
    cases o <;> rfl

/-- What was taken stays as it was. -/
theorem st_th (d : Int) (n : Nat) (hn : n ≤ 16) (L : List Lo) : ∀ R : List Lo, (∀ o ∈ L ++ R, o.ok n) → ∀ i, i < ns L → ∀ j, (st d n (L ++ R)).th (gd d i) j = (st d n L).th (gd d i) j := by
  refine snocInd ?_ ?_
  · intro _ i _ j
    rw [List.append_nil]
  · intro R o ih hok i hi j
    rw [← List.append_assoc] at hok ⊢
    have hok' : ∀ x ∈ L ++ R, x.ok n := fun x hx => hok x (List.mem_append.2 (Or.inl hx))
    have I := st_inv d n hn (L ++ R) hok'
    rw [st_snoc]
    cases o with
    | inl p => obtain ⟨_, _⟩ := p; exact ih hok' i hi j
    | inr t =>
      have e : gu (st d n (L ++ R)) ((st d n (L ++ R)).taken + 1) = gd d (ns (L ++ R)) := by
        unfold gu gd
        rw [I.id, I.tk]
      show (if gd d i = gu (st d n (L ++ R)) ((st d n (L ++ R)).taken + 1) ∧ _ then _ else (st d n (L ++ R)).th (gd d i) j) = _
      rw [e, if_neg]
      · exact ih hok' i hi j
      · rintro ⟨h1, _⟩
        have h2 : i = ns (L ++ R) := by unfold gd at h1; omega
        have h3 : ns (L ++ R) = ns L + ns R := by simp [ns]
        omega
end Go.Proofs.Ythdhegmlknpllaa
