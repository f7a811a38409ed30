/-
  The plain mathematics of Parse: what the reference's text reckons, what the program's text reckons, and that the two are one. No walk in this text.
-/
import Derived.Lib.SplitLaws
namespace Go.Proofs.YtikbfhhkkplpbaaDoor.Pl

def isD (c : UInt8) : Bool := decide (48 ≤ (c.toNat : Int)) && decide ((c.toNat : Int) ≤ 57)
def dv (c : UInt8) : Int := (c.toNat : Int) - 48

def pnGo (most : Int) : List UInt8 → Int → Option Int
  | [], n => some n
  | c :: l, n => if isD c = true then (if most < n * 10 + dv c then none else pnGo most l (n * 10 + dv c)) else none
def pn (most : Int) (l : List UInt8) : Option Int := if l = [] ∨ l.head? = some 48 then none else pnGo most l 0

def dgGo (most : Int) : List UInt8 → Int → Int × Nat
  | [], n => (n, 0)
  | c :: l, n => if isD c = true ∧ n ≤ most then ((dgGo most l (n * 10 + dv c)).1, (dgGo most l (n * 10 + dv c)).2 + 1) else (n, 0)
def dg (most : Int) (t : List UInt8) : Option (Int × Nat) :=
  if (dgGo most t 0).2 = 0 ∨ t.head? = some 48 ∨ most < (dgGo most t 0).1 then none else some (dgGo most t 0)

def bef (p : List UInt8) : List UInt8 := p.takeWhile (fun c => c != 120)
def aft (p : List UInt8) : List UInt8 := (p.dropWhile (fun c => c != 120)).drop 1
def pr (p : List UInt8) : Option (Int × Int) :=
  match pn 20 (bef p), pn 1000000 (aft p) with
  | some c, some n => some (c, n)
  | _, _ => none

def spN : Nat → List UInt8 → List (List UInt8)
  | 0, t => [t]
  | k + 1, t => if 32 ∈ t then t.takeWhile (fun c => c != 32) :: spN k ((t.dropWhile (fun c => c != 32)).drop 1) else [t]

/-- One rule at the head of a text, and what stands behind it. -/
def one (t : List UInt8) : Option ((Int × Int) × List UInt8) :=
  match dg 20 t with
  | none => none
  | some (c, k) => match t.drop k with
    | [] => none
    | x :: t2 => if x = 120 then (match dg 1000000 t2 with
        | none => none
        | some (n, k2) => some ((c, n), t2.drop k2)) else none

def rp : Nat → List UInt8 → Option (List (Int × Int))
  | 0, _ => none
  | f + 1, t => match one t with
    | none => none
    | some (r, rest) => if f = 0 then none else (match rest with
      | [] => some [r]
      | b :: t4 => if b = 32 then (rp f t4).map (r :: ·) else none)

def gp (l : List (List UInt8)) : Option (List (Int × Int)) :=
  match l with
  | [] => some []
  | p :: l' => match pr p with
    | none => none
    | some r => (gp l').map (r :: ·)

theorem dg_le (most : Int) : ∀ (t : List UInt8) (n : Int), (dgGo most t n).1 ≤ most → n ≤ most
  | [], n, h => h
  | c :: l, n, h => by
    unfold dgGo at h
    split at h
    · rename_i g; exact g.2
    · exact h

theorem dg_pn (most : Int) : ∀ (t : List UInt8) (n : Int), (dgGo most t n).1 ≤ most →
    (dgGo most t n).2 ≤ t.length ∧ (t.take (dgGo most t n).2).all isD = true ∧ pnGo most (t.take (dgGo most t n).2) n = some (dgGo most t n).1
  | [], n, h => by simp [dgGo, pnGo]
  | c :: l, n, h => by
    unfold dgGo at h ⊢
    split at h
    · rename_i g
      rw [if_pos g]
      have hl := dg_le most l _ h
      obtain ⟨i1, i2, i3⟩ := dg_pn most l _ h
      refine ⟨by simpa using i1, by simp [g.1]; simpa using i2, ?_⟩
      show pnGo most (c :: l.take _) n = _
      unfold pnGo
      rw [if_pos g.1, if_neg (by omega)]
      exact i3
    · rename_i g
      rw [if_neg g]
      simp [pnGo]

theorem pn_dg (most : Int) : ∀ (b q : List UInt8) (n m : Int), (∀ c, q.head? = some c → isD c = false) → n ≤ most → pnGo most b n = some m →
    dgGo most (b ++ q) n = (m, b.length) ∧ m ≤ most ∧ b.all isD = true
  | [], [], n, m, _, hn, h => by
    simp [pnGo] at h; subst h
    simp [dgGo, hn]
  | [], c :: q, n, m, hq, hn, h => by
    simp [pnGo] at h; subst h
    have := hq c rfl
    simp [dgGo, this, hn]
  | c :: b, q, n, m, hq, hn, h => by
    unfold pnGo at h
    split at h
    · rename_i hd
      split at h
      · cases h
      · rename_i hm
        obtain ⟨i1, i2, i3⟩ := pn_dg most b q _ m hq (by omega) h
        refine ⟨?_, i2, by simp [hd]; simpa using i3⟩
        show dgGo most (c :: (b ++ q)) n = _
        unfold dgGo
        rw [if_pos ⟨hd, hn⟩, i1]
        simp
    · cases h

theorem head_app {b q : List UInt8} (h : b ≠ []) : (b ++ q).head? = b.head? := by
  cases b with
  | nil => exact absurd rfl h
  | cons c l => rfl

/-- From the program's number to the reference's. -/
theorem pn_to (most : Int) (h0 : 0 ≤ most) (b q : List UInt8) (m : Int) (hq : ∀ c, q.head? = some c → isD c = false) (h : pn most b = some m) :
    dg most (b ++ q) = some (m, b.length) ∧ b.all isD = true := by
  unfold pn at h
  split at h
  · cases h
  · rename_i g
    have gb : b ≠ [] := fun e => g (Or.inl e)
    have g0 : ¬ b.head? = some 48 := fun e => g (Or.inr e)
    obtain ⟨i1, i2, i3⟩ := pn_dg most b q 0 m hq h0 h
    refine ⟨?_, i3⟩
    unfold dg
    rw [i1, head_app gb, if_neg]
    rintro (e | e | e)
    · simp at e; exact gb e
    · exact g0 e
    · simp at e; omega

/-- From the reference's number to the program's. -/
theorem dg_to (most : Int) (t : List UInt8) (m : Int) (k : Nat) (h : dg most t = some (m, k)) :
    k ≤ t.length ∧ (t.take k).all isD = true ∧ pn most (t.take k) = some m := by
  unfold dg at h
  split at h
  · cases h
  · rename_i g
    have e := Option.some.inj h
    have g1 : ¬ (dgGo most t 0).2 = 0 := fun x => g (Or.inl x)
    have g2 : ¬ t.head? = some 48 := fun x => g (Or.inr (Or.inl x))
    have g3 : ¬ most < (dgGo most t 0).1 := fun x => g (Or.inr (Or.inr x))
    obtain ⟨i1, i2, i3⟩ := dg_pn most t 0 (by omega)
    rw [e] at i1 i2 i3 g1
    simp only at i1 i2 i3 g1
    refine ⟨i1, i2, ?_⟩
    unfold pn
    rw [if_neg]
    · exact i3
    · rintro (x | x)
      · have := congrArg List.length x
        simp at this
        rcases this with x | x
        · exact g1 x
        · subst x; simp at i1; exact g1 i1
      · cases t with
        | nil => simp at x
        | cons c l =>
          obtain ⟨k', rfl⟩ : ∃ k', k = k' + 1 := ⟨k - 1, by omega⟩
          simp at x
          exact g2 (by simp [x])

theorem no_of_digits {b : List UInt8} (h : b.all isD = true) (c : UInt8) (hc : isD c = false) : c ∉ b := by
  intro hm
  have := List.all_eq_true.1 h c hm
  rw [hc] at this
  cases this

theorem tw_app (x : UInt8) : ∀ (b r : List UInt8), x ∉ b → (b ++ x :: r).takeWhile (fun c => c != x) = b ∧ (b ++ x :: r).dropWhile (fun c => c != x) = x :: r
  | [], r, _ => by simp
  | c :: b, r, h => by
    have hc : c ≠ x := fun e => h (by simp [e])
    have i := tw_app x b r (fun e => h (by simp [e]))
    constructor
    · simp [hc, i.1]
    · simp [hc, i.2]

theorem tw_none (x : UInt8) : ∀ (b : List UInt8), x ∉ b → b.takeWhile (fun c => c != x) = b ∧ b.dropWhile (fun c => c != x) = []
  | [], _ => by simp
  | c :: b, h => by
    have hc : c ≠ x := fun e => h (by simp [e])
    have i := tw_none x b (fun e => h (by simp [e]))
    constructor
    · simp [hc, i.1]
    · simp [hc, i.2]

theorem tw_in (x : UInt8) : ∀ (b : List UInt8), x ∈ b → ∃ p r, b = p ++ x :: r ∧ x ∉ p
  | c :: b, h => by
    by_cases e : c = x
    · exact ⟨[], b, by simp [e], by simp⟩
    · obtain ⟨p, r, hb, hp⟩ := tw_in x b (by simp at h; rcases h with h | h; exact absurd h.symm e; exact h)
      exact ⟨c :: p, r, by simp [hb], by simp; exact ⟨fun y => e y.symm, hp⟩⟩

theorem pn_nil (most : Int) : pn most [] = none := by simp [pn]

theorem pr_iff (p : List UInt8) (c n : Int) : pr p = some (c, n) ↔ ∃ b1 b2, p = b1 ++ 120 :: b2 ∧ pn 20 b1 = some c ∧ pn 1000000 b2 = some n := by
  constructor
  · intro h
    unfold pr at h
    split at h
    · rename_i c' n' h1 h2
      simp at h
      obtain ⟨rfl, rfl⟩ := h
      by_cases hx : (120 : UInt8) ∈ p
      · obtain ⟨b1, b2, rfl, hb⟩ := tw_in 120 p hx
        have := tw_app 120 b1 b2 hb
        refine ⟨b1, b2, rfl, ?_, ?_⟩
        · rw [← h1]; unfold bef; rw [this.1]
        · rw [← h2]; unfold aft; rw [this.2]; rfl
      · exfalso
        have := (tw_none 120 p hx).2
        unfold aft at h2
        rw [this] at h2
        simp [pn_nil] at h2
    · cases h
  · rintro ⟨b1, b2, rfl, h1, h2⟩
    have hd := (pn_to 20 (by decide) b1 [] c (by simp) h1).2
    have := tw_app 120 b1 b2 (no_of_digits hd 120 (by decide))
    unfold pr bef aft
    rw [this.1, this.2]
    simp [h1, h2]

theorem fit (x : UInt8) : ∀ (p p' q q' : List UInt8), x ∉ p → x ∉ p' → (q = [] ∨ ∃ r, q = x :: r) → (q' = [] ∨ ∃ r, q' = x :: r) → p ++ q = p' ++ q' → p = p' ∧ q = q'
  | [], [], q, q', _, _, _, _, h => ⟨rfl, by simpa using h⟩
  | [], c :: p', q, q', _, h2, h3, _, h => by
    rcases h3 with rfl | ⟨r, rfl⟩
    · simp at h
    · simp at h
      exact absurd (by simp [h.1]) h2
  | c :: p, [], q, q', h1, _, _, h4, h => by
    rcases h4 with rfl | ⟨r, rfl⟩
    · simp at h
    · simp at h
      exact absurd (by simp [h.1]) h1
  | c :: p, c' :: p', q, q', h1, h2, h3, h4, h => by
    simp at h
    obtain ⟨rfl, h⟩ := h
    obtain ⟨rfl, rfl⟩ := fit x p p' q q' (fun e => h1 (by simp [e])) (fun e => h2 (by simp [e])) h3 h4 h
    exact ⟨rfl, rfl⟩

theorem tail_no_digit {q : List UInt8} (h : q = [] ∨ ∃ r, q = 32 :: r) : ∀ c, q.head? = some c → isD c = false := by
  rcases h with rfl | ⟨r, rfl⟩
  · intro c h; simp at h
  · intro c h; simp at h; subst h; decide

theorem one_of_pr (p q : List UInt8) (x : Int × Int) (hq : q = [] ∨ ∃ r, q = 32 :: r) (h : pr p = some x) : one (p ++ q) = some (x, q) := by
  obtain ⟨c, n⟩ := x
  obtain ⟨b1, b2, rfl, h1, h2⟩ := (pr_iff p c n).1 h
  have e1 := (pn_to 20 (by decide) b1 (120 :: (b2 ++ q)) c (by intro c h; simp at h; subst h; decide) h1).1
  have e2 := (pn_to 1000000 (by decide) b2 q n (tail_no_digit hq) h2).1
  unfold one
  rw [show (b1 ++ 120 :: b2) ++ q = b1 ++ 120 :: (b2 ++ q) by simp, e1]
  simp [e2]

theorem pr_of_one (p q : List UInt8) (x : Int × Int) (rest : List UInt8) (hp : 32 ∉ p) (hq : q = [] ∨ ∃ r, q = 32 :: r) (h : one (p ++ q) = some (x, rest))
    (hr : rest = [] ∨ ∃ r, rest = 32 :: r) : rest = q ∧ pr p = some x := by
  unfold one at h
  split at h
  · cases h
  · rename_i c k hd
    split at h
    · cases h
    · rename_i y t2 hdr
      split at h
      · rename_i hy
        subst hy
        split at h
        · cases h
        · rename_i n k2 hd2
          simp at h
          obtain ⟨rfl, rfl⟩ := h
          obtain ⟨i1, i2, i3⟩ := dg_to 20 _ _ _ hd
          obtain ⟨j1, j2, j3⟩ := dg_to 1000000 _ _ _ hd2
          have e : p ++ q = ((p ++ q).take k ++ 120 :: t2.take k2) ++ t2.drop k2 := by
            conv => lhs; rw [← List.take_append_drop k (p ++ q), hdr, ← List.take_append_drop k2 t2]
            simp
          have f := fit 32 p _ q _ hp (by
            intro hm
            rcases List.mem_append.1 hm with hm | hm
            · exact no_of_digits i2 32 (by decide) hm
            · rcases List.mem_cons.1 hm with hm | hm
              · exact absurd hm (by decide)
              · exact no_of_digits j2 32 (by decide) hm) hq hr e
          refine ⟨f.2.symm, ?_⟩
          rw [pr_iff]
          exact ⟨_, _, f.1, i3, j3⟩
      · cases h

theorem spN_pos (k : Nat) (t : List UInt8) : 1 ≤ (spN k t).length := by
  cases k with
  | zero => simp [spN]
  | succ k => unfold spN; split <;> simp

theorem rp_eq : ∀ (f : Nat) (t : List UInt8), rp (f + 1) t = if f < (spN f t).length then none else gp (spN f t)
  | 0, t => by
    unfold rp
    simp [spN]
    split <;> rfl
  | f + 1, t => by
    unfold rp
    by_cases hb : (32 : UInt8) ∈ t
    · obtain ⟨p, r, rfl, hp⟩ := tw_in 32 t hb
      have htw := tw_app 32 p r hp
      have hs : spN (f + 1) (p ++ 32 :: r) = p :: spN f r := by
        rw [show spN (f + 1) (p ++ 32 :: r) = if 32 ∈ (p ++ 32 :: r) then (p ++ 32 :: r).takeWhile (fun c => c != 32) :: spN f (((p ++ 32 :: r).dropWhile (fun c => c != 32)).drop 1) else [p ++ 32 :: r] from rfl, if_pos hb, htw.1, htw.2]
        rfl
      rw [hs]
      have ih := rp_eq f r
      cases ho : one (p ++ 32 :: r) with
      | none =>
        simp only
        split
        · rfl
        · unfold gp
          cases hpr : pr p with
          | none => rfl
          | some x => rw [one_of_pr p (32 :: r) x (Or.inr ⟨r, rfl⟩) hpr] at ho; cases ho
      | some y =>
        obtain ⟨x, rest⟩ := y
        simp only [Nat.succ_ne_zero, if_false]
        cases hpr : pr p with
        | some x' =>
          have := one_of_pr p (32 :: r) x' (Or.inr ⟨r, rfl⟩) hpr
          rw [this] at ho
          simp at ho
          obtain ⟨rfl, rfl⟩ := ho
          simp only [if_true, List.length_cons, Nat.add_lt_add_iff_right]
          rw [ih]
          split
          · rfl
          · simp [gp, hpr]
        | none =>
          have hg : gp (p :: spN f r) = none := by simp [gp, hpr]
          rw [hg]
          have key : ¬ (rest = [] ∨ ∃ r, rest = 32 :: r) := fun hr => by
            have := (pr_of_one p (32 :: r) x rest hp (Or.inr ⟨r, rfl⟩) ho hr).2
            rw [hpr] at this; cases this
          cases rest with
          | nil => exact absurd (Or.inl rfl) key
          | cons b t4 =>
            simp only
            rw [if_neg (fun e => key (Or.inr ⟨t4, by rw [e]⟩))]
            split <;> rfl
    · have hs : spN (f + 1) t = [t] := by unfold spN; rw [if_neg hb]
      rw [hs, if_neg (by simp)]
      cases ho : one t with
      | none =>
        simp only
        cases hpr : pr t with
        | none => simp [gp, hpr]
        | some x => have := one_of_pr t [] x (Or.inl rfl) hpr; rw [List.append_nil, ho] at this; cases this
      | some y =>
        obtain ⟨x, rest⟩ := y
        simp only [Nat.succ_ne_zero, if_false]
        cases hpr : pr t with
        | some x' =>
          have := one_of_pr t [] x' (Or.inl rfl) hpr
          rw [List.append_nil, ho] at this
          simp at this
          obtain ⟨rfl, rfl⟩ := this
          simp [gp, hpr]
        | none =>
          have hg : gp [t] = none := by simp [gp, hpr]
          rw [hg]
          have key : ¬ (rest = [] ∨ ∃ r, rest = 32 :: r) := fun hr => by
            have := (pr_of_one t [] x rest hb (Or.inl rfl) (by rw [List.append_nil]; exact ho) hr).2
            rw [hpr] at this; cases this
          cases rest with
          | nil => exact absurd (Or.inl rfl) key
          | cons b t4 =>
            simp only
            rw [if_neg (fun e => key (Or.inr ⟨t4, by rw [e]⟩))]

end Go.Proofs.YtikbfhhkkplpbaaDoor.Pl
