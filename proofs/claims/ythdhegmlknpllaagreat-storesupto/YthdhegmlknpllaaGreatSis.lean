/-
  Pure: what each call makes of the two stores.
-/
import Derived.Test.YthdhegmlknpllaaGreatSim
namespace Go.Proofs.YthdhegmlknpllaaGreat
open Go.RowKit Go.Maps Go.MuLone

theorem entry_len (c : UInt8) (t : ByteArray) : (entry c t).length = t.size + 2 := by simp [entry]
section
variable {s s' : Sto} {r r' : RSto} {q : Nat}
/-- Write. -/
theorem Sim.write (h : Sim s r q) (h16 : r.dat.length = 16) {k : Nat} (hk : k < s.vol.length) (x : B4) {t : ByteArray} {lv : Value} (ht : t.size ≤ 50) : Sim ((s.write k x).noted 87 t lv) (r.write k x.ba) (q + 1) := by
  refine ⟨h.id, ⟨by show r.blocks = (s.vol.set k _).length; rw [List.length_set]; exact h.bl.1, by show 1 ≤ (s.vol.set k _).length; rw [List.length_set]; exact h.bl.2.1, by show (s.vol.set k _).length ≤ 16; rw [List.length_set]; exact h.bl.2.2⟩, ?_, h.last, h.cm, h.ss, h.ms, ?_, h.len, h.srt, h.gs, h.ho, h.mg, h.mp, h.mono, h.eqc, ⟨fun a ha => by have := h.rn.1 a ha; show a.2 ≤ r.now + 1; omega, by have := h.rn.2.1; show 0 ≤ r.now + 1; omega, by have := h.rn.2.2; show r.now + 1 ≤ _; omega⟩, ?_, by have := h.cn; show s.cnt ≤ _; omega⟩
  · intro j hj
    have hj' : j < s.vol.length := by
      have : j < (s.vol.set k ⟨x, s.came⟩).length := hj
      rwa [List.length_set] at this
    have hj2 : j < (s.vol.set k ⟨x, s.came⟩).length := hj
    show (r.dat.set k x.ba)[j]? = some ((s.vol.set k ⟨x, s.came⟩)[j]'hj2).x.ba
    rw [List.getElem?_set, List.getElem_set]
    by_cases e : k = j
    · subst e
      have := h.bl.2.2
      simp only [if_pos]
      rw [if_pos (by omega)]
    · rw [if_neg e, if_neg e]
      exact h.dat j hj'
  · intro y hy j hj
    have hj' : j < s.vol.length := by
      have : j < (s.vol.set k ⟨x, s.came⟩).length := hj
      rwa [List.length_set] at this
    exact h.th y hy j hj'
  · show (s.log ++ entry 87 t).length ≤ _
    have := h.lg
    rw [List.length_append, entry_len]
    omega

theorem Sim.top (h : Sim s r q) : ∀ a ∈ rcm r, a.1 ≤ 1000000 * s.id + s.taken := fun a ha => by
  rcases List.mem_append.1 ha with ha | ha
  · obtain ⟨y, hy, rfl⟩ := List.mem_map.1 ha
    have hm : y.guid ∈ s.ss.map Sn.guid := by rw [h.guids]; exact List.mem_map_of_mem hy
    obtain ⟨x, hx, e⟩ := List.mem_map.1 hm
    have := (h.gs x hx).1.2
    show y.guid ≤ _
    omega
  · have hm : a.1 ∈ s.ms.map Prod.fst := by rw [h.ms]; exact List.mem_map_of_mem ha
    obtain ⟨x, hx, e⟩ := List.mem_map.1 hm
    have := (h.mg x hx).1.2
    omega
theorem Sim.free (h : Sim s r q) : Free s := by
  refine ⟨fun x hx => ?_, fun x hx => ?_⟩
  · have := (h.gs x hx).1.2
    simp only [beq_eq_false_iff_ne, ne_eq, gu]
    omega
  · have := (h.mg x hx).1.2
    simp only [beq_eq_false_iff_ne, ne_eq, gu]
    omega
theorem Sim.rfree (h : Sim s r q) : RFree r := by
  unfold RFree
  rw [Bool.or_eq_false_iff, List.any_eq_false, List.any_eq_false]
  have e1 := h.id.1
  have e2 := h.last
  refine ⟨fun x hx => ?_, fun x hx => ?_⟩
  · have := h.top (x.guid, x.came) (List.mem_append_left _ (List.mem_map.2 ⟨x, hx, rfl⟩))
    simp only [beq_iff_eq]
    omega
  · have := h.top x (List.mem_append_right _ hx)
    simp only [beq_iff_eq]
    omega
/-- Snap. -/
theorem Sim.snap (h : Sim s r q) (h12 : s.ss.length < 12) (htk : s.taken < 999999) (tm : Int) {sv sv' lv : Value} {t : ByteArray} (ht : t.size ≤ 50) : Sim ((s.snap tm sv).noted 83 t lv) (r.snap tm sv') (q + 1) := by
  have e1 := h.id.1
  have e2 := h.last
  have e3 := h.cm.1
  have eg : gu s (s.taken + 1) = 1000000 * r.id + (r.last + 1) := by unfold gu; omega
  have hss : ((s.snap tm sv).noted 83 t lv).ss = s.ss ++ [⟨gu s (s.taken + 1), tm, 0, s.came + 1⟩] := rfl
  have hsh : (r.snap tm sv').sh = r.sh ++ [⟨1000000 * r.id + (r.last + 1), tm, 0, r.now + 1, r.dat, r.born⟩] := rfl
  have hrcm : ∀ a ∈ rcm (r.snap tm sv'), a ∈ rcm r ∨ a = (1000000 * r.id + (r.last + 1), r.now + 1) := fun a ha => by
    rcases List.mem_append.1 ha with ha | ha
    · rw [hsh, List.map_append] at ha
      rcases List.mem_append.1 ha with ha | ha
      · exact Or.inl (List.mem_append_left _ ha)
      · right
        simpa using ha
    · exact Or.inl (List.mem_append_right _ ha)
  refine ⟨h.id, h.bl, h.dat, by show r.last + 1 = s.taken + 1; omega, ⟨by show s.came + 1 = s.taken + 1; omega, by have := h.cm.2.1; show 0 ≤ s.taken + 1; omega, by show s.taken + 1 ≤ _; omega⟩, ?_, h.ms, ?_, ⟨by rw [hss]; simp; omega, h.len.2⟩, ?_, ?_, ?_, ?_, h.mp, ?_, ?_, ⟨?_, by have := h.rn.2.1; show 0 ≤ r.now + 1; omega, by have := h.rn.2.2; show r.now + 1 ≤ _; omega⟩, ?_, ?_⟩
  · rw [hss, hsh, List.map_append, List.map_append, h.ss]
    simp [t3, r3, eg]
  · intro y hy j hj
    rw [hsh] at hy
    have hj' : j < s.vol.length := hj
    show y.dat[j]? = some (if y.guid = gu s (s.taken + 1) ∧ 0 ≤ (j : Int) ∧ (j : Int) < s.vol.length then s.vol.getD (j : Int).toNat Ct.zero else s.th y.guid j).x.ba
    rcases List.mem_append.1 hy with hy | hy
    · have := h.top (y.guid, y.came) (List.mem_append_left _ (List.mem_map.2 ⟨y, hy, rfl⟩))
      rw [if_neg (fun e => by have h8 := e.1; unfold gu at h8; have h9 : y.guid ≤ 1000000 * s.id + s.taken := this; omega)]
      exact h.th y hy j hj'
    · have ey : y = ⟨1000000 * r.id + (r.last + 1), tm, 0, r.now + 1, r.dat, r.born⟩ := by simpa using hy
      subst ey
      rw [if_pos ⟨eg.symm, by omega, by omega⟩]
      have e5 : s.vol.getD (j : Int).toNat Ct.zero = s.vol[j] := by simp [hj']
      rw [e5]
      exact h.dat j hj'
  · rw [hss, List.pairwise_append]
    refine ⟨h.srt, by simp, fun x hx y hy => ?_⟩
    have ey : y = ⟨gu s (s.taken + 1), tm, 0, s.came + 1⟩ := by simpa using hy
    subst ey
    have := (h.gs x hx).1.2
    show x.guid < gu s (s.taken + 1)
    unfold gu
    omega
  · intro x hx
    rw [hss] at hx
    show (1000000 * s.id < x.guid ∧ x.guid ≤ 1000000 * s.id + (s.taken + 1)) ∧ x.came = x.guid - 1000000 * s.id
    rcases List.mem_append.1 hx with hx | hx
    · have := h.gs x hx
      omega
    · have ey : x = ⟨gu s (s.taken + 1), tm, 0, s.came + 1⟩ := by simpa using hx
      subst ey
      have := h.cm.2.1
      show (1000000 * s.id < gu s (s.taken + 1) ∧ gu s (s.taken + 1) ≤ 1000000 * s.id + (s.taken + 1)) ∧ s.came + 1 = gu s (s.taken + 1) - 1000000 * s.id
      unfold gu
      omega
  · intro x hx
    rw [hss] at hx
    rcases List.mem_append.1 hx with hx | hx
    · exact h.ho x hx
    · have ey : x = ⟨gu s (s.taken + 1), tm, 0, s.came + 1⟩ := by simpa using hx
      subst ey
      exact ⟨Int.le_refl _, by show (0 : Int) ≤ 9; omega⟩
  · intro m hm
    have := h.mg m hm
    show (1000000 * s.id < m.1 ∧ m.1 ≤ 1000000 * s.id + (s.taken + 1)) ∧ m.2 = m.1 - 1000000 * s.id
    omega
  · intro a ha b hb hlt
    rcases hrcm a ha with ha | rfl
    · rcases hrcm b hb with hb | rfl
      · exact h.mono a ha b hb hlt
      · have := h.rn.1 a ha
        show a.2 < r.now + 1
        omega
    · rcases hrcm b hb with hb | rfl
      · have := h.top b hb
        have hlt' : 1000000 * r.id + (r.last + 1) < b.1 := hlt
        omega
      · have hlt' : 1000000 * r.id + (r.last + 1) < 1000000 * r.id + (r.last + 1) := hlt
        omega
  · intro a ha b hb he
    rcases hrcm a ha with ha | rfl
    · rcases hrcm b hb with hb | rfl
      · exact h.eqc a ha b hb he
      · have := h.top a ha
        have he' : a.1 = 1000000 * r.id + (r.last + 1) := he
        omega
    · rcases hrcm b hb with hb | rfl
      · have := h.top b hb
        have he' : 1000000 * r.id + (r.last + 1) = b.1 := he
        omega
      · rfl
  · intro a ha
    show a.2 ≤ r.now + 1
    rcases hrcm a ha with ha | rfl
    · have := h.rn.1 a ha
      omega
    · exact Int.le_refl _
  · show (s.log ++ entry 83 t).length ≤ _
    have := h.lg
    rw [List.length_append, entry_len]
    omega
  · show s.cnt + s.vol.length ≤ _
    have := h.cn
    have := h.bl.2.2
    omega

theorem filter_map_eq {α β : Type} (f : α → β) (p : β → Bool) (l : List α) : (l.filter fun x => p (f x)).map f = (l.map f).filter p := by
  rw [List.filter_map]
  rfl
/-- Destroy. -/
theorem Sim.destroy (h : Sim s r q) {B b : Nat} {zs : List Int} {w w' : World} (d : DesPost B b s zs w w' s') (hz : zs.length ≤ 12) (sv : Value) : Sim s' (r.setS (rleft r.sh zs) sv) (q + 1) := by
  have hsub : ∀ x ∈ s'.ss, x ∈ s.ss := fun x hx => by rw [d.ss] at hx; exact (List.mem_filter.1 hx).1
  have hrsub : ∀ x ∈ rleft r.sh zs, x ∈ r.sh ∧ x.guid ∉ zs := fun x hx => by
    obtain ⟨h1, h2⟩ := List.mem_filter.1 hx
    refine ⟨h1, fun hm => ?_⟩
    simp only [Bool.not_eq_true', List.any_eq_false] at h2
    exact h2 _ hm (by simp [isG, RSh.sn])
  have hrcm : ∀ a ∈ rcm (r.setS (rleft r.sh zs) sv), a ∈ rcm r := fun a ha => by
    rcases List.mem_append.1 ha with ha | ha
    · obtain ⟨u, hu, rfl⟩ := List.mem_map.1 ha
      exact List.mem_append_left _ (List.mem_map.2 ⟨u, (hrsub u hu).1, rfl⟩)
    · exact List.mem_append_right _ ha
  refine ⟨by rw [d.id]; exact h.id, by rw [d.vol]; exact h.bl, ?_, by rw [d.taken]; exact h.last, by rw [d.came, d.taken]; exact h.cm, ?_, by rw [d.ms]; exact h.ms, ?_, ⟨?_, by rw [d.ms]; exact h.len.2⟩, by rw [d.ss]; exact h.srt.filter _, ?_, fun x hx => h.ho x (hsub x hx), ?_, by rw [d.ms]; exact h.mp, fun a ha b hb => h.mono a (hrcm a ha) b (hrcm b hb), fun a ha b hb => h.eqc a (hrcm a ha) b (hrcm b hb), ⟨fun a ha => h.rn.1 a (hrcm a ha), h.rn.2.1, by have := h.rn.2.2; show r.now ≤ _; omega⟩, ?_, by rw [d.cnt]; have := h.cn; omega⟩
  · intro j hj
    have hj' : j < s.vol.length := by rw [d.vol] at hj; exact hj
    have e : s'.vol[j] = s.vol[j] := by simp only [d.vol]
    rw [e]
    exact h.dat j hj'
  · rw [d.ss]
    have e1 := filter_map_eq t3 (fun y : Int × Int × Int => !(zs.any fun z => y.1 == z)) s.ss
    have e2 := filter_map_eq r3 (fun y : Int × Int × Int => !(zs.any fun z => y.1 == z)) r.sh
    rw [h.ss, ← e2] at e1
    exact e1
  · intro x hx j hj
    rw [d.vol] at hj
    obtain ⟨h1, h2⟩ := hrsub x hx
    rw [d.th _ _ h2]
    exact h.th x h1 j hj
  · rw [d.ss]
    exact Nat.le_trans (List.length_filter_le _ _) h.len.1
  · intro x hx
    rw [d.id, d.taken]
    exact h.gs x (hsub x hx)
  · intro m hm
    rw [d.ms] at hm
    rw [d.id, d.taken]
    exact h.mg m hm
  · rw [d.log, List.length_append]
    have := h.lg
    by_cases e : zs = []
    · rw [if_pos e]
      simp
      omega
    · rw [if_neg e, entry_len, gtext_len]
      omega

theorem sorted_eq : ∀ (l l' : List Int), l.Pairwise (· < ·) → l'.Pairwise (· < ·) → (∀ x, x ∈ l ↔ x ∈ l') → l = l'
  | [], [], _, _, _ => rfl
  | [], b :: l', _, _, h => absurd ((h b).2 (by simp)) (by simp)
  | a :: l, [], _, _, h => absurd ((h a).1 (by simp)) (by simp)
  | a :: l, b :: l', h1, h2, h => by
    rw [List.pairwise_cons] at h1 h2
    have e : a = b := by
      have ha := (h a).1 (by simp)
      have hb := (h b).2 (by simp)
      rcases List.mem_cons.1 ha with e | e
      · exact e
      · rcases List.mem_cons.1 hb with e2 | e2
        · exact e2.symm
        · have := h1.1 b e2
          have := h2.1 a e
          omega
    subst e
    rw [sorted_eq l l' h1.2 h2.2 (fun x => ?_)]
    have hx := h x
    simp only [List.mem_cons] at hx
    constructor
    · intro hm
      have h3 := h1.1 x hm
      rcases hx.1 (Or.inr hm) with e | e
      · omega
      · exact e
    · intro hm
      have h3 := h2.1 x hm
      rcases hx.2 (Or.inr hm) with e | e
      · omega
      · exact e
theorem insM_cons (m y : Int × Int) (l : List (Int × Int)) : insM m (y :: l) = if y.2 < m.2 then y :: insM m l else m :: y :: l := by
  unfold insM
  rw [ahead_cons]
  by_cases e : y.2 < m.2
  · simp [e]
  · simp [e]
theorem mem_insM (m : Int × Int) : ∀ (l : List (Int × Int)) (b : Int × Int), b ∈ insM m l ↔ b = m ∨ b ∈ l
  | [], b => by simp [insM]
  | y :: l, b => by
    rw [insM_cons]
    by_cases e : y.2 < m.2
    · rw [if_pos e, List.mem_cons, mem_insM m l b, List.mem_cons]
      constructor
      · rintro (h | h | h)
        · exact Or.inr (Or.inl h)
        · exact Or.inl h
        · exact Or.inr (Or.inr h)
      · rintro (h | h | h)
        · exact Or.inr (Or.inl h)
        · exact Or.inl h
        · exact Or.inr (Or.inr h)
    · rw [if_neg e, List.mem_cons]
theorem insM_sorted (m : Int × Int) : ∀ (l : List (Int × Int)), l.Pairwise (fun a b => a.1 < b.1) → (∀ a ∈ l, (a.2 < m.2 → a.1 < m.1) ∧ (¬ a.2 < m.2 → m.1 < a.1)) → (insM m l).Pairwise (fun a b => a.1 < b.1)
  | [], _, _ => by simp [insM]
  | y :: l, h, hm => by
    rw [insM_cons]
    rw [List.pairwise_cons] at h
    have hy := hm y (by simp)
    by_cases e : y.2 < m.2
    · rw [if_pos e, List.pairwise_cons]
      refine ⟨fun b hb => ?_, insM_sorted m l h.2 (fun a ha => hm a (by simp [ha]))⟩
      rcases (mem_insM m l b).1 hb with rfl | hb
      · exact hy.1 e
      · exact h.1 b hb
    · rw [if_neg e, List.pairwise_cons]
      refine ⟨fun b hb => ?_, List.pairwise_cons.2 h⟩
      rcases List.mem_cons.1 hb with rfl | hb
      · exact hy.2 e
      · have h1 := hy.2 e
        have h2 := h.1 b hb
        omega

/-- Mark. -/
theorem Sim.marked (h : Sim s r q) {j : Nat} {x : Sn} {y : RSh} (hx : s.ss[j]? = some x) (hy : r.sh[j]? = some y) (hno : ∀ m ∈ s.ms, m.1 ≠ x.guid) (h12 : s.ms.length < 12) {l : List (Int × Int)} {mv mv' lv : Value} (hp : l.Perm (s.ms ++ [(x.guid, x.came)])) (hs : l.Pairwise fun a b => a.2 ≤ b.2) {t : ByteArray} (ht : t.size ≤ 50) : Sim ((s.marked l mv).noted 77 t lv) (r.setM (insM (x.guid, y.came) r.ms) mv') (q + 1) := by
  have hj : j < s.ss.length := (List.getElem?_eq_some_iff.1 hx).1
  have ex : s.ss[j] = x := (List.getElem?_eq_some_iff.1 hx).2
  have ey : r.sh[j]'(by rw [h.glen]; exact hj) = y := (List.getElem?_eq_some_iff.1 hy).2
  have hxy := h.at hj
  rw [ex, ey] at hxy
  have hg : y.guid = x.guid := by unfold t3 r3 at hxy; simp only [Prod.mk.injEq] at hxy; exact hxy.1.symm
  have hxm : x ∈ s.ss := List.mem_of_getElem? hx
  have hym : (x.guid, y.came) ∈ rcm r := List.mem_append_left _ (List.mem_map.2 ⟨y, List.mem_of_getElem? hy, by rw [hg]⟩)
  have hl : ∀ m ∈ l, (1000000 * s.id < m.1 ∧ m.1 ≤ 1000000 * s.id + s.taken) ∧ m.2 = m.1 - 1000000 * s.id := fun m hm => by
    rcases List.mem_append.1 (hp.mem_iff.1 hm) with hm | hm
    · exact h.mg m hm
    · have e : m = (x.guid, x.came) := by simpa using hm
      subst e
      exact h.gs x hxm
  have hnd : (l.map Prod.fst).Nodup := by
    rw [(hp.map Prod.fst).nodup_iff, List.map_append, List.nodup_append]
    refine ⟨by rw [List.Nodup, List.pairwise_map]; exact h.mp.imp (fun h => by omega), by simp, fun a ha b hb => ?_⟩
    obtain ⟨m, hm, rfl⟩ := List.mem_map.1 ha
    have e : b = x.guid := by simpa using hb
    rw [e]
    exact hno m hm
  have hlp : l.Pairwise fun a b => a.1 < b.1 := by
    rw [List.Nodup, List.pairwise_map] at hnd
    refine (List.pairwise_and_iff.2 ⟨hs, hnd⟩).imp_of_mem ?_
    intro a b ha hb ⟨h1, h2⟩
    have := (hl a ha).2
    have := (hl b hb).2
    have h3 : a.1 ≠ b.1 := h2
    omega
  have hrp : r.ms.Pairwise fun a b => a.1 < b.1 := by
    have : (r.ms.map Prod.fst).Pairwise (· < ·) := by rw [← h.ms, List.pairwise_map]; exact h.mp
    rwa [List.pairwise_map] at this
  have hno' : ∀ m ∈ r.ms, m.1 ≠ x.guid := fun m hm => by
    have : m.1 ∈ s.ms.map Prod.fst := by rw [h.ms]; exact List.mem_map_of_mem hm
    obtain ⟨m', hm', e⟩ := List.mem_map.1 this
    rw [← e]
    exact hno m' hm'
  have hins := insM_sorted (x.guid, y.came) r.ms hrp (fun a ha => by
    have hne := hno' a ha
    have ha' : a ∈ rcm r := List.mem_append_right _ ha
    refine ⟨fun e => ?_, fun e => ?_⟩
    · show a.1 < x.guid
      rcases Int.lt_trichotomy a.1 x.guid with c | c | c
      · exact c
      · exact absurd c hne
      · have := h.mono _ hym _ ha' c
        have e' : a.2 < y.came := e
        have t' : y.came < a.2 := this
        omega
    · show x.guid < a.1
      rcases Int.lt_trichotomy a.1 x.guid with c | c | c
      · have := h.mono _ ha' _ hym c
        exact absurd this e
      · exact absurd c hne
      · exact c)
  have hms : l.map Prod.fst = (insM (x.guid, y.came) r.ms).map Prod.fst := by
    refine sorted_eq _ _ (by rw [List.pairwise_map]; exact hlp) (by rw [List.pairwise_map]; exact hins) (fun z => ?_)
    rw [(hp.map Prod.fst).mem_iff, List.map_append, List.mem_append, h.ms]
    simp only [List.mem_map, List.mem_singleton, mem_insM]
    constructor
    · rintro (⟨a, ha, e⟩ | ⟨a, rfl, e⟩)
      · exact ⟨a, Or.inr ha, e⟩
      · exact ⟨_, Or.inl rfl, e⟩
    · rintro ⟨a, rfl | ha, e⟩
      · exact Or.inr ⟨_, rfl, e⟩
      · exact Or.inl ⟨a, ha, e⟩
  have hrcm : ∀ a ∈ rcm (r.setM (insM (x.guid, y.came) r.ms) mv'), a ∈ rcm r := fun a ha => by
    rcases List.mem_append.1 ha with ha | ha
    · exact List.mem_append_left _ ha
    · rcases (mem_insM _ _ _).1 ha with rfl | ha
      · exact hym
      · exact List.mem_append_right _ ha
  refine ⟨h.id, h.bl, h.dat, h.last, h.cm, h.ss, hms, h.th, ⟨h.len.1, ?_⟩, h.srt, h.gs, h.ho, hl, hlp, fun a ha b hb => h.mono a (hrcm a ha) b (hrcm b hb), fun a ha b hb => h.eqc a (hrcm a ha) b (hrcm b hb), ⟨fun a ha => h.rn.1 a (hrcm a ha), h.rn.2.1, by have := h.rn.2.2; show r.now ≤ _; omega⟩, ?_, by have := h.cn; show s.cnt ≤ _; omega⟩
  · show l.length ≤ 12
    rw [hp.length_eq]
    simp
    omega
  · show (s.log ++ entry 77 t).length ≤ _
    have := h.lg
    rw [List.length_append, entry_len]
    omega
/-- Unmark. -/
theorem Sim.unmark (h : Sim s r q) (j : Nat) {mv mv' lv : Value} {t : ByteArray} (ht : t.size ≤ 50) : Sim ((s.unmark j mv).noted 85 t lv) (r.setM (r.ms.eraseIdx j) mv') (q + 1) := by
  have hsub : ∀ m ∈ s.ms.eraseIdx j, m ∈ s.ms := fun m hm => (List.eraseIdx_sublist _ _).subset hm
  have hrcm : ∀ a ∈ rcm (r.setM (r.ms.eraseIdx j) mv'), a ∈ rcm r := fun a ha => by
    rcases List.mem_append.1 ha with ha | ha
    · exact List.mem_append_left _ ha
    · exact List.mem_append_right _ ((List.eraseIdx_sublist _ _).subset ha)
  refine ⟨h.id, h.bl, h.dat, h.last, h.cm, h.ss, ?_, h.th, ⟨h.len.1, Nat.le_trans (List.eraseIdx_sublist _ _).length_le h.len.2⟩, h.srt, h.gs, h.ho, fun m hm => h.mg m (hsub m hm), h.mp.sublist (List.eraseIdx_sublist _ _), fun a ha b hb => h.mono a (hrcm a ha) b (hrcm b hb), fun a ha b hb => h.eqc a (hrcm a ha) b (hrcm b hb), ⟨fun a ha => h.rn.1 a (hrcm a ha), h.rn.2.1, by have := h.rn.2.2; show r.now ≤ _; omega⟩, ?_, by have := h.cn; show s.cnt ≤ _; omega⟩
  · show (s.ms.eraseIdx j).map Prod.fst = (r.ms.eraseIdx j).map Prod.fst
    rw [List.eraseIdx_eq_take_drop_succ, List.eraseIdx_eq_take_drop_succ, List.map_append, List.map_append, List.map_take, List.map_take, List.map_drop, List.map_drop, h.ms]
  · show (s.log ++ entry 85 t).length ≤ _
    have := h.lg
    rw [List.length_append, entry_len]
    omega
/-- A fresh one. -/
theorem Sim.start (id : Int) (n vb mb : Nat) (lv : Value) (h1 : 1 ≤ id ∧ id ≤ 999) (h2 : 1 ≤ n ∧ n ≤ 16) : Sim (newS id n vb mb lv) (RSto.fresh id n 16) 0 := by
  have e : (newS id n vb mb lv).vol = List.replicate n Ct.zero := rfl
  refine ⟨⟨rfl, h1⟩, ⟨by rw [e]; simp [RSto.fresh], by rw [e]; simpa using h2.1, by rw [e]; simpa using h2.2⟩, fun j hj => ?_, rfl, ⟨rfl, Int.le_refl _, by show (0 : Int) ≤ 999999; omega⟩, rfl, rfl, by simp [RSto.fresh], ⟨by simp [newS, Sto.fresh, Sto.noted], by simp [newS, Sto.fresh, Sto.noted]⟩, by simp [newS, Sto.fresh, Sto.noted], by simp [newS, Sto.fresh, Sto.noted], by simp [newS, Sto.fresh, Sto.noted], by simp [newS, Sto.fresh, Sto.noted], by simp [newS, Sto.fresh, Sto.noted], by simp [rcm, RSto.fresh], by simp [rcm, RSto.fresh], ⟨by simp [rcm, RSto.fresh], Int.le_refl _, by simp [RSto.fresh]⟩, ?_, by simp [newS, Sto.fresh, Sto.noted]⟩
  · have hj' : j < n := by rw [e] at hj; simpa using hj
    have e2 : (newS id n vb mb lv).vol[j] = Ct.zero := by simp only [e]; simp
    rw [e2]
    show (newDat 16)[j]? = some no4
    unfold newDat
    rw [List.getElem?_append_left (by simp; omega), List.getElem?_replicate, if_pos (by omega)]
  · show ([] ++ entry 78 (ntext id n)).length ≤ _
    rw [List.nil_append, entry_len]
    have : (ntext id n).size = 5 := rfl
    omega
end
end Go.Proofs.YthdhegmlknpllaaGreat
