import Derived.Test.YthdhegmlknpllaaGreatM26
import Derived.Test.YthdhegmlknpllaaGreatM32
import Derived.Test.YthdhegmlknpllaaGreatM12
namespace Go.Proofs.YthdhegmlknpllaaGreat
open Go.RowKit Go.Maps Go.MuLone
def LKP (Q : Int → Int → Prop) (P : Nat → Prop) (v : List Ct) (D : List ByteArray) (Bo : List Int) : Prop := ∀ j (hj : j < v.length), P j → D[j]? = some v[j].x.ba ∧ ∃ z, Bo[j]? = some z ∧ Q v[j].n z
theorem LKP.of {Q : Int → Int → Prop} {P P' : Nat → Prop} {v : List Ct} {D : List ByteArray} {Bo : List Int} (h : LKP Q P v D Bo) (hp : ∀ j, P' j → P j) : LKP Q P' v D Bo := fun j hj h' => h j hj (hp j h')
theorem LKP.step {Q : Int → Int → Prop} {P : Nat → Prop} {v : List Ct} {D : List ByteArray} {Bo : List Int} (h : LKP Q P v D Bo) (hd : v.length ≤ D.length) (hb : v.length ≤ Bo.length) (i : Nat) (x : B4) {c z : Int} (hq : Q c z) : LKP Q (fun j => P j ∨ i = j) (v.set i ⟨x, c⟩) (D.set i x.ba) (Bo.set i z) := fun j hj hp => by
 have hj' : j < v.length := by rwa [List.length_set] at hj
 rw [List.getElem?_set, List.getElem?_set]
 simp only [List.getElem_set]
 by_cases e : i = j
 · subst e
   have l1 : i < D.length := by omega
   have l2 : i < Bo.length := by omega
   simp [l1, l2, hq]
 · rw [if_neg e, if_neg e]
   simp only [if_neg e]
   exact h j hj' (hp.resolve_right e)
theorem LKP.fold {Q : Int → Int → Prop} {c z : Int} (hq : Q c z) : ∀ (l : List (Int × B4)) (P : Nat → Prop) (v : List Ct) (D : List ByteArray) (Bo : List Int), LKP Q P v D Bo → v.length ≤ D.length → v.length ≤ Bo.length → LKP Q (fun j => P j ∨ ∃ o ∈ l, o.1.toNat = j) (fv c v l) (fD D l) (fB z Bo l)
 | [], P, v, D, Bo, h, _, _ => h.of (fun j hj => hj.elim id (fun ⟨o, ho, _⟩ => absurd ho (by simp)))
 | x :: r, P, v, D, Bo, h, hd, hb => by
  have h1 := h.step hd hb x.1.toNat x.2 hq
  have ih := LKP.fold hq r _ _ _ _ h1 (by rw [List.length_set, List.length_set]; exact hd) (by rw [List.length_set, List.length_set]; exact hb)
  refine ih.of (fun j hj => ?_)
  rcases hj with hj | ⟨o, ho, e⟩
  · exact Or.inl (Or.inl hj)
  · rcases List.mem_cons.1 ho with rfl | ho
    · exact Or.inl (Or.inr e)
    · exact Or.inr ⟨o, ho, e⟩
theorem rises_all {nb : Int} {l : List (Int × B4)} (h : Rises nb l) (hn : (l.length : Int) = nb) : ∀ d k (hk : k < l.length), l.length - 1 - k = d → l[k].1 = (k : Int)
 | 0, k, hk, e => by
  have h1 := rises_len h k (by omega)
  have h2 := h k hk
  omega
 | d + 1, k, hk, e => by
  have ih := rises_all h hn d (k + 1) (by omega) (by omega)
  have h1 := rises_len h k (by omega)
  have h2 := h k hk
  have h3 := h (k + 1) (by omega)
  rw [least_succ l k hk] at h3
  omega
section
variable {s : Sto} {r : RSto} {q : Nat}
theorem vk_get (s : Sto) (f : Int) (j : Nat) (hj : j < s.vol.length) : (vk s f s.vol.length)[j]'(by rw [vk_len s f _ (Nat.le_refl _)]; exact hj) = s.th f (j : Int) := by
 unfold vk
 rw [List.getElem_append_left (by simpa using hj)]
 simp
theorem lastG_eq {l : List Sn} (h : 0 < l.length) : lastG l = (l[l.length - 1]).guid := by
 unfold lastG
 rw [List.getLast?_eq_getElem?, List.getElem?_eq_getElem (by omega)]
 rfl
theorem Sim.recvn (h : Sim s r q) (h16 : ∀ x ∈ r.sh, x.wf) {f t m : Int} {l : List (Int × B4)} (hf : f = lastG s.ss) {y : RSh} (hy : r.sh[r.sh.length - 1]? = some y) (h0 : 0 < s.ss.length) (hg : t ∉ gls s) (hgr : 1 ≤ t ∧ t ≤ 999999999) (htm : 0 ≤ m ∧ m ≤ 1073741824) (h12 : s.ss.length < 12) {sv lv sv' : Value} {tx : ByteArray} (htx : tx.size ≤ 105) :
  Sim (s.recv f t m l tx sv lv) { r with now := r.now + 2, dat := fD y.dat l, born := fB (r.now + 1) y.born l, sh := r.sh ++ [⟨t, m, 0, r.now + 2, fD y.dat l, fB (r.now + 1) y.born l⟩], sv := sv' } (q + 1) := by
 have hym : y ∈ r.sh := List.mem_of_getElem? hy
 have hyw := h16 y hym
 have hfy : f = y.guid := by
  have e1 := h.at (j := s.ss.length - 1) (by omega)
  have e2 := h.glen
  rw [hf, lastG_eq h0]
  have e3 : r.sh[s.ss.length - 1]'(by omega) = y := by
   have := (List.getElem?_eq_some_iff.1 hy).2
   simp only [e2] at this
   exact this
  rw [e3] at e1
  unfold t3 r3 at e1
  simp only [Prod.mk.injEq] at e1
  exact e1.1
 have hvl : (vk s f s.vol.length).length = s.vol.length := vk_len s f _ (Nat.le_refl _)
 have hbl := h.bl
 have base : ∀ C, CC s r C → LKP (CT C (gls s) s.came (r.now + 1)) (fun _ => True) (vk s f s.vol.length) y.dat y.born := fun C cc j hj _ => by
  have hj' : j < s.vol.length := by rw [hvl] at hj; exact hj
  rw [vk_get s f j hj']
  refine ⟨by rw [hfy]; exact h.th y hym j hj', ?_⟩
  obtain ⟨z, e1, e2⟩ := cc.tb y hym j hj'
  rw [hfy]
  exact ⟨z, e1, ⟨e2.1.1, e2.1.2.1, by have := e2.1.2.2; omega⟩, e2.2⟩
 have top : ∀ C, CC s r C → CT C (gls s) s.came (r.now + 1) s.came (r.now + 1) := fun C cc => ⟨⟨h.cm.1.1, Int.le_refl _, Int.le_refl _⟩, fun g hg => by have := cc.rng g hg; omega⟩
 have fin : ∀ C, CC s r C → LKP (CT C (gls s) s.came (r.now + 1)) (fun j => True ∨ ∃ o ∈ l, o.1.toNat = j) (rvol s f l) (fD y.dat l) (fB (r.now + 1) y.born l) := fun C cc => LKP.fold (top C cc) l _ _ _ _ (base C cc) (by rw [hvl, hyw.1]; exact hbl.2.2) (by rw [hvl, hyw.2]; exact hbl.2.2)
 obtain ⟨C0, cc0⟩ := h.cc
 have hrl : (rvol s f l).length = s.vol.length := by unfold rvol; rw [fv_len, hvl]
 have h9 := h.come (sv := sv) (lv := lv) (sv' := sv') (rvol s f l) hrl (fD y.dat l) (fB (r.now + 1) y.born l) (r.now + 1) ⟨by omega, Int.le_refl _⟩ (fun j hj => (fin C0 cc0 j hj (Or.inl trivial)).1) (fun C cc j hj => (fin C cc j hj (Or.inl trivial)).2) t m hg hgr htm h12 s.taken h.cm.2 84 (tx := tx) htx
 have e5 : r.now + 1 + 1 = r.now + 2 := by omega
 rw [e5] at h9
 have key : ∀ la, la = s.taken → Sim (s.recv f t m l tx sv lv) { r with now := r.now + 2, last := la, dat := fD y.dat l, born := fB (r.now + 1) y.born l, sh := r.sh ++ [⟨t, m, 0, r.now + 2, fD y.dat l, fB (r.now + 1) y.born l⟩], sv := sv' } (q + 1) := by
  rintro la rfl
  exact h9
 exact key r.last h.last
theorem Sim.recv0 (h : Sim s r q) (h16 : r.dat.length = 16) (hb16 : r.born.length = 16) {t m : Int} {l : List (Int × B4)} (hl : (l.length : Int) = s.vol.length) (hr : Rises (s.vol.length : Int) l) (hg : t ∉ gls s) (hgr : 1 ≤ t ∧ t ≤ 999999999) (htm : 0 ≤ m ∧ m ≤ 1073741824) (h12 : s.ss.length < 12) {sv lv sv' : Value} {tx : ByteArray} (htx : tx.size ≤ 105) :
  Sim (s.recv 0 t m l tx sv lv) { r with now := r.now + 2, dat := fD r.dat l, born := fB (r.now + 1) r.born l, sh := r.sh ++ [⟨t, m, 0, r.now + 2, fD r.dat l, fB (r.now + 1) r.born l⟩], sv := sv' } (q + 1) := by
 have hvl : (vk s 0 s.vol.length).length = s.vol.length := vk_len s 0 _ (Nat.le_refl _)
 have hbl := h.bl
 have base : ∀ C, LKP (CT C (gls s) s.came (r.now + 1)) (fun _ => False) (vk s 0 s.vol.length) r.dat r.born := fun C j hj hF => hF.elim
 have top : ∀ C, CC s r C → CT C (gls s) s.came (r.now + 1) s.came (r.now + 1) := fun C cc => ⟨⟨h.cm.1.1, Int.le_refl _, Int.le_refl _⟩, fun g hg => by have := cc.rng g hg; omega⟩
 have fin : ∀ C, CC s r C → LKP (CT C (gls s) s.came (r.now + 1)) (fun j => False ∨ ∃ o ∈ l, o.1.toNat = j) (rvol s 0 l) (fD r.dat l) (fB (r.now + 1) r.born l) := fun C cc => LKP.fold (top C cc) l _ _ _ _ (base C) (by rw [hvl, h16]; exact hbl.2.2) (by rw [hvl, hb16]; exact hbl.2.2)
 obtain ⟨C0, cc0⟩ := h.cc
 have hrl : (rvol s 0 l).length = s.vol.length := by unfold rvol; rw [fv_len, hvl]
 have cov : ∀ j, j < (rvol s 0 l).length → ∃ o ∈ l, o.1.toNat = j := fun j hj => by
  have hjl : j < l.length := by omega
  have := rises_all hr hl _ j hjl rfl
  exact ⟨l[j], List.getElem_mem _, by omega⟩
 have h9 := h.come (sv := sv) (lv := lv) (sv' := sv') (rvol s 0 l) hrl (fD r.dat l) (fB (r.now + 1) r.born l) (r.now + 1) ⟨by omega, Int.le_refl _⟩ (fun j hj => (fin C0 cc0 j hj (Or.inr (cov j hj))).1) (fun C cc j hj => (fin C cc j hj (Or.inr (cov j hj))).2) t m hg hgr htm h12 s.taken h.cm.2 84 (tx := tx) htx
 have e5 : r.now + 1 + 1 = r.now + 2 := by omega
 rw [e5] at h9
 have key : ∀ la, la = s.taken → Sim (s.recv 0 t m l tx sv lv) { r with now := r.now + 2, last := la, dat := fD r.dat l, born := fB (r.now + 1) r.born l, sh := r.sh ++ [⟨t, m, 0, r.now + 2, fD r.dat l, fB (r.now + 1) r.born l⟩], sv := sv' } (q + 1) := by
  rintro la rfl
  exact h9
 exact key r.last h.last
end
end Go.Proofs.YthdhegmlknpllaaGreat
