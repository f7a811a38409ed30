/-
  What Whole leans on: lists of guids.
-/
import Derived.Test.YthdhegmlknpllaaDes
import Derived.Test.YthdhegmlknpllaaIm
namespace Go.Proofs.Ythdhegmlknpllaa
open Go.RowKit Go.Maps Go.MuLone

/-- A store with M snapshots of its own, of which one is held once. -/
structure WI (s : Sto) (d : Int) (M hi : Nat) (m : Int) : Prop where
  len : s.ss.length = M
  gd : ∀ k (h : k < s.ss.length), s.ss[k].guid = gd d k
  hd : ∀ k (h : k < s.ss.length), s.ss[k].holds = if k = hi then 1 else 0
  ms : s.ms.map Prod.fst = [m]
  vol : s.vol.length ≤ 16
  lg : s.log.length ≤ 5000

theorem Inv.made' (d : Int) (n vb mb : Nat) (lv : Value) : InvI (Sto.made d n vb mb lv) d n 0 :=
  ⟨rfl, by simp [Sto.made, Sto.noted, Sto.fresh], rfl, rfl, rfl, rfl, by simp [Sto.made, Sto.noted, Sto.fresh], fun k h => by simp [Sto.made, Sto.noted, Sto.fresh] at h, fun k h => by simp [Sto.made, Sto.noted, Sto.fresh] at h, by rw [made_log]; omega, rfl⟩

theorem gd_inj {d : Int} {a b : Nat} (h : gd d a = gd d b) : a = b := by unfold gd at h; omega
theorem WI.nodup {s : Sto} {d : Int} {M hi : Nat} {m : Int} (h : WI s d M hi m) : (s.ss.map Sn.guid).Nodup := by
  refine List.pairwise_iff_getElem.2 fun i j hi' hj' hij => ?_
  simp only [List.length_map] at hi' hj'
  simp only [List.getElem_map, ne_eq]
  rw [h.gd i hi', h.gd j hj']
  intro e
  have := gd_inj e
  omega
/-- All are guids of the store. -/
def Ours (d : Int) (M : Nat) (zs : List Int) : Prop := ∀ k, k < zs.length → ∃ i, i < M ∧ tm zs k = gd d i
def dupB (zs : List Int) : Bool := (List.range zs.length).any fun t => (zs.take t).any fun x => x == tm zs t

theorem tm_app {zs : List Int} {g : Int} {t : Nat} (h : t < zs.length) : tm (zs ++ [g]) t = tm zs t := by simp [tm, List.getElem?_append_left h]
theorem tm_last (zs : List Int) (g : Int) : tm (zs ++ [g]) zs.length = g := by simp [tm]
theorem take_app {zs : List Int} {g : Int} {t : Nat} (h : t ≤ zs.length) : (zs ++ [g]).take t = zs.take t := by rw [List.take_append_of_le_length h]
theorem Ours.push {d : Int} {M : Nat} {zs : List Int} (h : Ours d M zs) {i : Nat} (hi : i < M) : Ours d M (zs ++ [gd d i]) := by
  intro k hk
  by_cases hlt : k < zs.length
  · rw [tm_app hlt]; exact h k hlt
  · have : k = zs.length := by simp at hk; omega
    rw [this, tm_last]
    exact ⟨i, hi, rfl⟩
theorem dupB_push (zs : List Int) (g : Int) : dupB (zs ++ [g]) = (dupB zs || zs.any fun x => x == g) := by
  unfold dupB
  rw [List.length_append, List.length_singleton, List.range_succ, List.any_append]
  congr 1
  · rw [Bool.eq_iff_iff, List.any_eq_true, List.any_eq_true]
    constructor
    · rintro ⟨t, ht, h⟩
      have ht' : t < zs.length := by simpa using ht
      exact ⟨t, ht, by rw [take_app (by omega), tm_app ht'] at h; exact h⟩
    · rintro ⟨t, ht, h⟩
      have ht' : t < zs.length := by simpa using ht
      exact ⟨t, ht, by rw [take_app (by omega), tm_app ht']; exact h⟩
  · simp [take_app (Nat.le_refl _), tm_last]

theorem fine_iff {s : Sto} {d : Int} {M hi : Nat} {m : Int} (h : WI s d M hi m) {zs : List Int} {k : Nat} {i : Nat} (hi' : i < M) (e : tm zs k = gd d i) : fineAt s.ss zs k = !((zs.take k).any fun x => x == tm zs k) := by
  unfold fineAt
  have h1 : s.ss.any (isG (tm zs k)) = true := by
    rw [List.any_eq_true]
    refine ⟨s.ss[i]'(by rw [h.len]; exact hi'), List.getElem_mem _, ?_⟩
    simp [isG, h.gd i (by rw [h.len]; exact hi'), e]
  rw [h1, Bool.true_and]
  congr 1
  have e2 : (fun x : Int => tm zs k == x) = (fun x : Int => x == tm zs k) := by
    funext x
    exact Bool.beq_comm
  rw [e2]

theorem held_iff {s : Sto} {d : Int} {M hi : Nat} {m : Int} (h : WI s d M hi m) {zs : List Int} {k : Nat} {i : Nat} (hi' : i < M) (e : tm zs k = gd d i) : heldAt s.ss zs k = (tm zs k == gd d hi) := by
  unfold heldAt
  have hj : i < s.ss.length := by rw [h.len]; exact hi'
  rw [uniq_held h.nodup hj (by simp [isG, h.gd i hj, e]) (fun x => decide (x.holds > 0)), h.hd i hj, e]
  by_cases hh : i = hi
  · subst hh
    simp
  · have : gd d i ≠ gd d hi := fun e => hh (gd_inj e)
    simp [hh, this]

theorem fine_dup {s : Sto} {d : Int} {M hi : Nat} {m : Int} (h : WI s d M hi m) {zs : List Int} (ho : Ours d M zs) : (∀ k, k < zs.length → fineAt s.ss zs k = true) ↔ dupB zs = false := by
  unfold dupB
  rw [List.any_eq_false]
  constructor
  · intro hf t ht
    have ht' : t < zs.length := by simpa using ht
    obtain ⟨i, hi', e⟩ := ho t ht'
    have := hf t ht'
    rw [fine_iff h hi' e] at this
    intro hh
    rw [hh] at this
    simp at this
  · intro hf k hk
    obtain ⟨i, hi', e⟩ := ho k hk
    rw [fine_iff h hi' e]
    have := hf k (by simpa using hk)
    cases hh : (zs.take k).any fun x => x == tm zs k
    · rfl
    · exact absurd hh this

theorem held_any {s : Sto} {d : Int} {M hi : Nat} {m : Int} (h : WI s d M hi m) {zs : List Int} (ho : Ours d M zs) : (∀ k, k < zs.length → heldAt s.ss zs k = false) ↔ (zs.any fun g => g == gd d hi) = false := by
  rw [List.any_eq_false]
  constructor
  · intro hf g hg
    obtain ⟨k, hk, rfl⟩ := List.getElem_of_mem hg
    obtain ⟨i, hi', e⟩ := ho k hk
    have := hf k hk
    rw [held_iff h hi' e, tm_get zs k hk] at this
    simpa using this
  · intro hf k hk
    obtain ⟨i, hi', e⟩ := ho k hk
    rw [held_iff h hi' e, tm_get zs k hk]
    have := hf zs[k] (List.getElem_mem hk)
    simpa using this

theorem left_len {ss : List Sn} (hu : (ss.map Sn.guid).Nodup) {zs : List Int} : ∀ k, k ≤ zs.length → (∀ t, t < zs.length → fineAt ss zs t = true) → (left ss (zs.take k)).length + k = ss.length
  | 0, _, _ => by simp [left]
  | k + 1, hk, hf => by
    have ih := left_len hu k (by omega) hf
    obtain ⟨x, hx, hg⟩ := left_has (hf k (by omega))
    obtain ⟨j, hj, rfl⟩ := List.getElem_of_mem hx
    rw [left_succ ss zs k (by omega), ← erase_filter _ _ j hj (left_nodup hu _) hg, List.length_eraseIdx_of_lt hj]
    omega

theorem fi_eq {α : Type} {p : α → Bool} : ∀ (l l' : List α) (i : Nat), l.map p = l'.map p → fi p i l = fi p i l'
  | [], [], _, _ => rfl
  | [], _ :: _, _, h => by simp at h
  | _ :: _, [], _, h => by simp at h
  | x :: r, y :: q, i, h => by
    simp only [List.map_cons, List.cons.injEq] at h
    rw [fi, fi, h.1, fi_eq r q (i + 1) h.2]

theorem fi_setH {l : List Sn} {j : Nat} {x : Sn} {z g : Int} (hx : l[j]? = some x) : fi (fun y : Sn => y.guid == g) 0 (l.set j (x.hold z)) = fi (fun y : Sn => y.guid == g) 0 l := by
  apply fi_eq
  rw [List.map_set]
  apply List.ext_getElem?
  intro i
  by_cases h : j = i
  · subst h
    have hj : j < l.length := (List.getElem?_eq_some_iff.1 hx).1
    rw [List.getElem?_set_self (by simpa using hj), List.getElem?_map, hx]
    simp [Sn.hold]
  · rw [List.getElem?_set_ne h]

/-- Where a guid of the store stands. -/
theorem wi_find {s : Sto} {d : Int} {M : Nat} (hl : s.ss.length = M) (hg : ∀ k (h : k < s.ss.length), s.ss[k].guid = gd d k) {i : Nat} (hi : i < M) : fi (fun y : Sn => y.guid == gd d i) 0 s.ss = (i : Int) := by
  obtain ⟨j, hj, e, hp⟩ := fi_some (p := fun y : Sn => y.guid == gd d i) s.ss 0 ⟨s.ss[i]'(by omega), List.getElem_mem _, by simp [hg i (by omega)]⟩
  rw [e, Nat.zero_add]
  have : s.ss[j].guid = gd d i := by simpa using hp
  rw [hg j hj] at this
  rw [gd_inj this]
end Go.Proofs.Ythdhegmlknpllaa
