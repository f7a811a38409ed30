import Derived.Test.YthdhegmlknpllaaGreatM25
namespace Go.Proofs.YthdhegmlknpllaaGreat
open Go.RowKit Go.Maps Go.MuLone
theorem entry_len (c : UInt8) (t : ByteArray) : (entry c t).length = t.size + 2 := by simp [entry]
section
variable {s s' : Sto} {r r' : RSto} {q : Nat} {C : Int → Int × Int}
theorem Sim.write (h : Sim s r q) (h16 : r.dat.length = 16) (hb16 : r.born.length = 16) {k : Nat} (hk : k < s.vol.length) (x : B4) {t : ByteArray} {lv : Value} (ht : t.size ≤ 50) : Sim ((s.write k x).noted 87 t lv) (r.write k x.ba) (q + 1) := by
 obtain ⟨C, cc⟩ := h.cc
 have hlen : ∀ {j : Nat}, j < ((s.write k x).noted 87 t lv).vol.length → j < s.vol.length := fun {j} hj => by
  have : j < (s.vol.set k ⟨x, s.came⟩).length := hj
  rwa [List.length_set] at this
 have hup : ∀ {n z : Int}, CT C (gls s) s.came r.now n z → CT C (gls s) s.came (r.now + 1) n z := fun h => ⟨⟨h.1.1, h.1.2.1, by have := h.1.2.2; omega⟩, h.2⟩
 refine ⟨h.id, ⟨by show r.blocks = (s.vol.set k _).length; rw [List.length_set]; exact h.bl.1, by show 1 ≤ (s.vol.set k _).length; rw [List.length_set]; exact h.bl.2.1, by show (s.vol.set k _).length ≤ 16; rw [List.length_set]; exact h.bl.2.2⟩, ?_, h.last, ⟨⟨h.cm.1.1, by have := h.cm.1.2; show s.came ≤ _; omega⟩, h.cm.2⟩, h.ss, h.ms, ?_, h.len, h.nd, h.mnd, h.mp, h.gr, h.tr, h.ho, ⟨C, ⟨cc.ps, cc.pm, cc.rs, cc.rm, fun g hg => ?_, cc.ord, cc.inj, fun j hj => ?_, fun y hy j hj => ?_⟩⟩, ⟨by have := h.rn.1; show 0 ≤ r.now + 1; omega, by have := h.rn.2; show r.now + 1 ≤ _; omega⟩, ?_, by have := h.cn; show s.cnt ≤ _; omega⟩
 · intro j hj
   have hj2 : j < (s.vol.set k ⟨x, s.came⟩).length := hj
   show (r.dat.set k x.ba)[j]? = some ((s.vol.set k ⟨x, s.came⟩)[j]'hj2).x.ba
   rw [List.getElem?_set, List.getElem_set]
   by_cases e : k = j
   · subst e
     have := h.bl.2.2
     simp only [if_pos]
     rw [if_pos (by omega)]
   · rw [if_neg e, if_neg e]
     exact h.dat j (hlen hj)
 · intro y hy j hj
   exact h.th y hy j (hlen hj)
 · have := cc.rng g hg
   show (1 ≤ (C g).1 ∧ (C g).1 ≤ s.came) ∧ 1 ≤ (C g).2 ∧ (C g).2 ≤ r.now + 1
   omega
 · have hj2 : j < (s.vol.set k ⟨x, s.came⟩).length := hj
   show ∃ z, (r.born.set k (r.now + 1))[j]? = some z ∧ CT C (gls s) s.came (r.now + 1) ((s.vol.set k ⟨x, s.came⟩)[j]'hj2).n z
   rw [List.getElem?_set, List.getElem_set]
   by_cases e : k = j
   · subst e
     have := h.bl.2.2
     refine ⟨r.now + 1, by rw [if_pos rfl, if_pos (by omega)], ?_⟩
     rw [if_pos rfl]
     refine ⟨⟨h.cm.1.1, Int.le_refl _, Int.le_refl _⟩, fun g hg => ?_⟩
     have := cc.rng g hg
     show (C g).1 ≤ s.came ↔ (C g).2 < r.now + 1
     omega
   · rw [if_neg e, if_neg e]
     obtain ⟨z, h1, h2⟩ := cc.vb j (hlen hj)
     exact ⟨z, h1, hup h2⟩
 · obtain ⟨z, h1, h2⟩ := cc.tb y hy j (hlen hj)
   exact ⟨z, h1, hup h2⟩
 · show (s.log ++ entry 87 t).length ≤ _
   have := h.lg
   rw [List.length_append, entry_len]
   omega
theorem Sim.come (h : Sim s r q) (V : List Ct) (hV : V.length = s.vol.length) (D : List ByteArray) (Bo : List Int) (nw : Int) (hnw : r.now ≤ nw ∧ nw ≤ r.now + 1) (hD : ∀ j (hj : j < V.length), D[j]? = some V[j].x.ba)
  (hB : ∀ C, CC s r C → ∀ j (hj : j < V.length), ∃ z, Bo[j]? = some z ∧ CT C (gls s) s.came nw V[j].n z) (g t : Int) (hg : g ∉ gls s) (hgr : 1 ≤ g ∧ g ≤ 999999999) (htm : 0 ≤ t ∧ t ≤ 1073741824) (h12 : s.ss.length < 12) (tk : Int) (htk : 0 ≤ tk ∧ tk ≤ 999999)
  {sv lv sv' : Value} (c : UInt8) {tx : ByteArray} (htx : tx.size ≤ 105) :
  Sim ((Sto.add { s with vol := V, taken := tk } g t sv).noted c tx lv) { r with now := nw + 1, last := tk, dat := D, born := Bo, sh := r.sh ++ [⟨g, t, 0, nw + 1, D, Bo⟩], sv := sv' } (q + 1) := by
 obtain ⟨C, cc⟩ := h.cc
 have hss : ((Sto.add { s with vol := V, taken := tk } g t sv).noted c tx lv).ss = s.ss ++ [⟨g, t, 0, s.came + 1⟩] := rfl
 have hth : ∀ (g' : Int) (j : Nat), ((Sto.add { s with vol := V, taken := tk } g t sv).noted c tx lv).th g' j = if g' = g ∧ 0 ≤ (j : Int) ∧ (j : Int) < V.length then V.getD (j : Int).toNat Ct.zero else s.th g' j := fun _ _ => rfl
 have hgl : ∀ g', g' ∈ gls ((Sto.add { s with vol := V, taken := tk } g t sv).noted c tx lv) → g' ∈ gls s ∨ g' = g := fun g' hg' => by
  rcases mem_gls.1 hg' with ⟨x, hx, e⟩ | ⟨m, hm, e⟩
  · rw [hss] at hx
    rcases List.mem_append.1 hx with hx | hx
    · exact Or.inl (mem_gls.2 (Or.inl ⟨x, hx, e⟩))
    · right
      simp at hx
      rw [← e, hx]
  · exact Or.inl (mem_gls.2 (Or.inr ⟨m, hm, e⟩))
 have hgs : ∀ x ∈ s.ss, x.guid ≠ g := fun x hx e => hg (mem_gls.2 (Or.inl ⟨x, hx, e⟩))
 have hgm : ∀ m ∈ s.ms, m.1 ≠ g := fun m hm e => hg (mem_gls.2 (Or.inr ⟨m, hm, e⟩))
 have hrs : ∀ x ∈ r.sh, x.guid ≠ g := fun x hx e => by
  have hm : x.guid ∈ s.ss.map Sn.guid := by rw [h.guids]; exact List.mem_map_of_mem hx
  obtain ⟨y, hy, e2⟩ := List.mem_map.1 hm
  exact hgs y hy (by omega)
 have hrm : ∀ m ∈ r.ms, m.1 ≠ g := fun m hm e => by
  have hm' : m.1 ∈ s.ms.map Prod.fst := by rw [h.ms]; exact List.mem_map_of_mem hm
  obtain ⟨y, hy, e2⟩ := List.mem_map.1 hm'
  exact hgm y hy (by omega)
 have hne : ∀ g' ∈ gls s, g' ≠ g := fun g' hg' e => hg (e ▸ hg')
 let C' : Int → Int × Int := fun x => if x = g then (s.came + 1, nw + 1) else C x
 have c1 : C' g = (s.came + 1, nw + 1) := if_pos rfl
 have c2 : ∀ x, x ≠ g → C' x = C x := fun x hx => if_neg hx
 have hct : ∀ {n z : Int}, CT C (gls s) s.came nw n z → CT C' (gls ((Sto.add { s with vol := V, taken := tk } g t sv).noted c tx lv)) (s.came + 1) (nw + 1) n z := fun {n z} h => by
  refine ⟨⟨h.1.1, by have := h.1.2.1; omega, by have := h.1.2.2; omega⟩, fun g' hg' => ?_⟩
  rcases hgl g' hg' with h1 | rfl
  · rw [c2 g' (hne g' h1)]
    exact h.2 g' h1
  · rw [c1]
    have h1 := h.1.2.1
    have h2 := h.1.2.2
    show s.came + 1 ≤ n ↔ nw + 1 < z
    omega
 have hup : ∀ {n z : Int}, CT C (gls s) s.came r.now n z → CT C (gls s) s.came nw n z := fun h => ⟨⟨h.1.1, h.1.2.1, by have := h.1.2.2; omega⟩, h.2⟩
 have hmemr : ∀ x ∈ r.sh ++ [(⟨g, t, 0, nw + 1, D, Bo⟩ : RSh)], x ∈ r.sh ∨ x = ⟨g, t, 0, nw + 1, D, Bo⟩ := fun x hx => by
  rcases List.mem_append.1 hx with hx | hx
  · exact Or.inl hx
  · exact Or.inr (by simpa using hx)
 refine ⟨h.id, ⟨by show r.blocks = V.length; rw [hV]; exact h.bl.1, by show 1 ≤ V.length; rw [hV]; exact h.bl.2.1, by show V.length ≤ 16; rw [hV]; exact h.bl.2.2⟩, hD, rfl, ⟨⟨by have := h.cm.1.1; show 0 ≤ s.came + 1; omega, by have := h.cm.1.2; show s.came + 1 ≤ _; omega⟩, htk⟩, ?_, h.ms, ?_, ⟨by rw [hss]; simp; omega, h.len.2⟩, ?_, h.mnd, h.mp, ?_, ?_, ?_, ⟨C', ⟨?_, ?_, ?_, ?_, ?_, ?_, ?_, ?_, ?_⟩⟩, ⟨by have := h.rn.1; show 0 ≤ nw + 1; omega, by have := h.rn.2; show nw + 1 ≤ _; omega⟩, ?_, ?_⟩
 · rw [hss, List.map_append, List.map_append, h.ss]
   rfl
 · intro y hy j hj
   have hj' : j < V.length := hj
   rw [hth]
   rcases hmemr y hy with hy | rfl
   · rw [if_neg (fun e => hrs y hy e.1)]
     exact h.th y hy j (by omega)
   · rw [if_pos ⟨rfl, by omega, by omega⟩]
     have e5 : V.getD (j : Int).toNat Ct.zero = V[j] := by simp [hj']
     rw [e5]
     exact hD j hj'
 · rw [hss, List.map_append, List.nodup_append]
   refine ⟨h.nd, by simp, fun a ha b hb => ?_⟩
   obtain ⟨x, hx, rfl⟩ := List.mem_map.1 ha
   have e : b = g := by simpa using hb
   rw [e]
   exact hgs x hx
 · intro g' hg'
   rcases hgl g' hg' with h1 | rfl
   · exact h.gr g' h1
   · exact hgr
 · intro x hx
   rw [hss] at hx
   rcases List.mem_append.1 hx with hx | hx
   · exact h.tr x hx
   · have e : x = ⟨g, t, 0, s.came + 1⟩ := by simpa using hx
     subst e
     exact htm
 · intro x hx
   rw [hss] at hx
   rcases List.mem_append.1 hx with hx | hx
   · exact h.ho x hx
   · have e : x = ⟨g, t, 0, s.came + 1⟩ := by simpa using hx
     subst e
     exact ⟨Int.le_refl _, by show (0 : Int) ≤ 9; omega⟩
 · intro x hx
   rw [hss] at hx
   rcases List.mem_append.1 hx with hx | hx
   · rw [c2 _ (hgs x hx)]
     exact cc.ps x hx
   · have e : x = ⟨g, t, 0, s.came + 1⟩ := by simpa using hx
     subst e
     show s.came + 1 = (C' g).1
     rw [c1]
 · intro m hm
   rw [c2 _ (hgm m hm)]
   exact cc.pm m hm
 · intro x hx
   rcases hmemr x hx with hx | rfl
   · rw [c2 _ (hrs x hx)]
     exact cc.rs x hx
   · show nw + 1 = (C' g).2
     rw [c1]
 · intro m hm
   rw [c2 _ (hrm m hm)]
   exact cc.rm m hm
 · intro g' hg'
   show (1 ≤ (C' g').1 ∧ (C' g').1 ≤ s.came + 1) ∧ 1 ≤ (C' g').2 ∧ (C' g').2 ≤ nw + 1
   rcases hgl g' hg' with h1 | rfl
   · rw [c2 _ (hne g' h1)]
     have := cc.rng g' h1
     omega
   · rw [c1]
     have := h.cm.1.1
     have := h.rn.1
     show (1 ≤ s.came + 1 ∧ s.came + 1 ≤ s.came + 1) ∧ 1 ≤ nw + 1 ∧ nw + 1 ≤ nw + 1
     omega
 · intro g1 hg1 g2 hg2
   rcases hgl g1 hg1 with h1 | rfl
   · rw [c2 _ (hne g1 h1)]
     have r1 := cc.rng g1 h1
     rcases hgl g2 hg2 with h2 | rfl
     · rw [c2 _ (hne g2 h2)]
       exact cc.ord g1 h1 g2 h2
     · rw [c1]
       show (C g1).1 < s.came + 1 ↔ (C g1).2 < nw + 1
       omega
   · rw [c1]
     rcases hgl g2 hg2 with h2 | rfl
     · rw [c2 _ (hne g2 h2)]
       have r2 := cc.rng g2 h2
       show s.came + 1 < (C g2).1 ↔ nw + 1 < (C g2).2
       omega
     · rw [c1]
       show s.came + 1 < s.came + 1 ↔ nw + 1 < nw + 1
       omega
 · intro g1 hg1 g2 hg2
   rcases hgl g1 hg1 with h1 | rfl
   · rw [c2 _ (hne g1 h1)]
     have r1 := cc.rng g1 h1
     rcases hgl g2 hg2 with h2 | rfl
     · rw [c2 _ (hne g2 h2)]
       exact cc.inj g1 h1 g2 h2
     · rw [c1]
       intro e
       have e' : (C g1).1 = s.came + 1 := e
       omega
   · rw [c1]
     rcases hgl g2 hg2 with h2 | rfl
     · rw [c2 _ (hne g2 h2)]
       have r2 := cc.rng g2 h2
       intro e
       have e' : s.came + 1 = (C g2).1 := e
       omega
     · intro _
       rfl
 · intro j hj
   have hj' : j < V.length := hj
   obtain ⟨z, h1, h2⟩ := hB C cc j hj'
   exact ⟨z, h1, hct h2⟩
 · intro x hx j hj
   have hj' : j < V.length := hj
   rw [hth]
   rcases hmemr x hx with hx | rfl
   · rw [if_neg (fun e => hrs x hx e.1)]
     obtain ⟨z, h1, h2⟩ := cc.tb x hx j (by omega)
     exact ⟨z, h1, hct (hup h2)⟩
   · rw [if_pos ⟨rfl, by omega, by omega⟩]
     have e5 : V.getD (j : Int).toNat Ct.zero = V[j] := by simp [hj']
     rw [e5]
     obtain ⟨z, h1, h2⟩ := hB C cc j hj'
     exact ⟨z, h1, hct h2⟩
 · show (s.log ++ entry c tx).length ≤ _
   have := h.lg
   rw [List.length_append, entry_len]
   omega
 · show s.cnt + V.length ≤ _
   have := h.cn
   have := h.bl.2.2
   omega
theorem filter_map_eq {α β : Type} (f : α → β) (p : β → Bool) (l : List α) : (l.filter fun x => p (f x)).map f = (l.map f).filter p := by
 rw [List.filter_map]
 rfl
theorem Sim.destroy (h : Sim s r q) {B b : Nat} {zs : List Int} {w w' : World} (d : DesPost B b s zs w w' s') (hz : zs.length ≤ 12) (sv : Value) : Sim s' (r.setS (rleft r.sh zs) sv) (q + 1) := by
 have hsub : ∀ x ∈ s'.ss, x ∈ s.ss := fun x hx => by rw [d.ss] at hx; exact (List.mem_filter.1 hx).1
 have hrsub : ∀ x ∈ rleft r.sh zs, x ∈ r.sh ∧ x.guid ∉ zs := fun x hx => by
  obtain ⟨h1, h2⟩ := List.mem_filter.1 hx
  refine ⟨h1, fun hm => ?_⟩
  simp only [Bool.not_eq_true', List.any_eq_false] at h2
  exact h2 _ hm (by simp [isG, RSh.sn])
 obtain ⟨C, cc⟩ := h.cc
 refine ⟨by rw [d.id]; exact h.id, by rw [d.vol]; exact h.bl, ?_, by rw [d.taken]; exact h.last, by rw [d.came, d.taken]; exact ⟨⟨h.cm.1.1, by have := h.cm.1.2; omega⟩, h.cm.2⟩, ?_, by rw [d.ms]; exact h.ms, ?_, ⟨?_, by rw [d.ms]; exact h.len.2⟩, ?_, by rw [d.ms]; exact h.mnd, h.mp, ?_, fun x hx => h.tr x (hsub x hx), fun x hx => h.ho x (hsub x hx), ⟨C, cc.sub (fun x hx => ⟨x, hsub x hx, rfl, rfl⟩) (fun m hm => Or.inl (by rw [d.ms] at hm; exact hm)) (fun x hx => ⟨x, (hrsub x hx).1, rfl, rfl, rfl⟩) (fun m hm => Or.inl hm) d.vol rfl d.came rfl (fun x hx j => d.th _ _ (hrsub x hx).2)⟩, ⟨h.rn.1, by have := h.rn.2; show r.now ≤ _; omega⟩, ?_, by rw [d.cnt]; have := h.cn; omega⟩
 · intro j hj
   have hj' : j < s.vol.length := by rw [d.vol] at hj; exact hj
   have e : s'.vol[j] = s.vol[j] := by simp only [d.vol]
   rw [e]
   exact h.dat j hj'
 · rw [d.ss]
   have e1 := filter_map_eq t3 (fun y : Int × Int × Int => !(zs.any fun z => y.1 == z)) s.ss
   have e2 := filter_map_eq r3 (fun y : Int × Int × Int => !(zs.any fun z => y.1 == z)) r.sh
   rw [h.ss, ← e2] at e1
   exact e1
 · intro x hx j hj
   rw [d.vol] at hj
   obtain ⟨h1, h2⟩ := hrsub x hx
   rw [d.th _ _ h2]
   exact h.th x h1 j hj
 · rw [d.ss]
   exact Nat.le_trans (List.length_filter_le _ _) h.len.1
 · rw [d.ss]
   exact h.nd.sublist (List.filter_sublist.map _)
 · intro g hg
   refine h.gr g ?_
   rcases mem_gls.1 hg with ⟨x, hx, e⟩ | ⟨m, hm, e⟩
   · exact mem_gls.2 (Or.inl ⟨x, hsub x hx, e⟩)
   · rw [d.ms] at hm
     exact mem_gls.2 (Or.inr ⟨m, hm, e⟩)
 · rw [d.log, List.length_append]
   have := h.lg
   by_cases e : zs = []
   · rw [if_pos e]
     simp
     omega
   · rw [if_neg e, entry_len, gtext_len]
     omega
theorem sorted_eq (f : Int → Int) : ∀ (l l' : List Int), l.Pairwise (fun a b => f a < f b) → l'.Pairwise (fun a b => f a < f b) → (∀ x, x ∈ l ↔ x ∈ l') → l = l'
 | [], [], _, _, _ => rfl
 | [], b :: l', _, _, h => absurd ((h b).2 (by simp)) (by simp)
 | a :: l, [], _, _, h => absurd ((h a).1 (by simp)) (by simp)
 | a :: l, b :: l', h1, h2, h => by
  rw [List.pairwise_cons] at h1 h2
  have e : a = b := by
   have ha := (h a).1 (by simp)
   have hb := (h b).2 (by simp)
   rcases List.mem_cons.1 ha with e | e
   · exact e
   · rcases List.mem_cons.1 hb with e2 | e2
     · exact e2.symm
     · have := h1.1 b e2
       have := h2.1 a e
       omega
  subst e
  rw [sorted_eq f l l' h1.2 h2.2 (fun x => ?_)]
  have hx := h x
  simp only [List.mem_cons] at hx
  constructor
  · intro hm
    have h3 := h1.1 x hm
    rcases hx.1 (Or.inr hm) with e | e
    · rw [e] at h3
      omega
    · exact e
  · intro hm
    have h3 := h2.1 x hm
    rcases hx.2 (Or.inr hm) with e | e
    · rw [e] at h3
      omega
    · exact e
theorem insM_cons (m y : Int × Int) (l : List (Int × Int)) : insM m (y :: l) = if y.2 < m.2 then y :: insM m l else m :: y :: l := by
 unfold insM
 rw [ahead_cons]
 by_cases e : y.2 < m.2
 · simp [e]
 · simp [e]
theorem mem_insM (m : Int × Int) : ∀ (l : List (Int × Int)) (b : Int × Int), b ∈ insM m l ↔ b = m ∨ b ∈ l
 | [], b => by simp [insM]
 | y :: l, b => by
  rw [insM_cons]
  by_cases e : y.2 < m.2
  · rw [if_pos e, List.mem_cons, mem_insM m l b, List.mem_cons]
    constructor
    · rintro (h | h | h)
      · exact Or.inr (Or.inl h)
      · exact Or.inl h
      · exact Or.inr (Or.inr h)
    · rintro (h | h | h)
      · exact Or.inr (Or.inl h)
      · exact Or.inl h
      · exact Or.inr (Or.inr h)
  · rw [if_neg e, List.mem_cons]
theorem insM_rises (m : Int × Int) : ∀ (l : List (Int × Int)), l.Pairwise (fun a b => a.2 < b.2) → (∀ a ∈ l, a.2 ≠ m.2) → (insM m l).Pairwise (fun a b => a.2 < b.2)
 | [], _, _ => by simp [insM]
 | y :: l, h, hm => by
  rw [insM_cons]
  rw [List.pairwise_cons] at h
  have hy := hm y (by simp)
  by_cases e : y.2 < m.2
  · rw [if_pos e, List.pairwise_cons]
    refine ⟨fun b hb => ?_, insM_rises m l h.2 (fun a ha => hm a (by simp [ha]))⟩
    rcases (mem_insM m l b).1 hb with rfl | hb
    · exact e
    · exact h.1 b hb
  · rw [if_neg e, List.pairwise_cons]
    refine ⟨fun b hb => ?_, List.pairwise_cons.2 h⟩
    rcases List.mem_cons.1 hb with rfl | hb
    · omega
    · have h2 := h.1 b hb
      omega
theorem Sim.marked (h : Sim s r q) {j : Nat} {x : Sn} {y : RSh} (hx : s.ss[j]? = some x) (hy : r.sh[j]? = some y) (hno : ∀ m ∈ s.ms, m.1 ≠ x.guid) (h12 : s.ms.length < 12) {l : List (Int × Int)} {mv mv' lv : Value} (hp : l.Perm (s.ms ++ [(x.guid, x.came)])) (hs : l.Pairwise fun a b => a.2 ≤ b.2) {t : ByteArray} (ht : t.size ≤ 50) : Sim ((s.marked l mv).noted 77 t lv) (r.setM (insM (x.guid, y.came) r.ms) mv') (q + 1) := by
 obtain ⟨C, cc⟩ := h.cc
 have hj : j < s.ss.length := (List.getElem?_eq_some_iff.1 hx).1
 have ex : s.ss[j] = x := (List.getElem?_eq_some_iff.1 hx).2
 have ey : r.sh[j]'(by rw [h.glen]; exact hj) = y := (List.getElem?_eq_some_iff.1 hy).2
 have hxy := h.at hj
 rw [ex, ey] at hxy
 have hg : y.guid = x.guid := by unfold t3 r3 at hxy; simp only [Prod.mk.injEq] at hxy; exact hxy.1.symm
 have hxm : x ∈ s.ss := List.mem_of_getElem? hx
 have hym : y ∈ r.sh := List.mem_of_getElem? hy
 have hlm : ∀ m ∈ l, m ∈ s.ms ∨ ∃ y ∈ s.ss, m = (y.guid, y.came) := fun m hm => by
  rcases List.mem_append.1 (hp.mem_iff.1 hm) with hm | hm
  · exact Or.inl hm
  · exact Or.inr ⟨x, hxm, by simpa using hm⟩
 have hlC : ∀ m ∈ l, m.2 = (C m.1).1 ∧ m.1 ∈ gls s := fun m hm => by
  rcases hlm m hm with hm | ⟨y, hy, rfl⟩
  · exact ⟨cc.pm m hm, mem_gls.2 (Or.inr ⟨m, hm, rfl⟩)⟩
  · exact ⟨cc.ps y hy, mem_gls.2 (Or.inl ⟨y, hy, rfl⟩)⟩
 have hnd : (l.map Prod.fst).Nodup := by
  rw [(hp.map Prod.fst).nodup_iff, List.map_append, List.nodup_append]
  refine ⟨h.mnd, by simp, fun a ha b hb => ?_⟩
  obtain ⟨m, hm, rfl⟩ := List.mem_map.1 ha
  have e : b = x.guid := by simpa using hb
  rw [e]
  exact hno m hm
 have hlp : (l.map Prod.fst).Pairwise fun a b => (C a).1 < (C b).1 := by
  rw [List.pairwise_map]
  have hnd' := hnd
  rw [List.Nodup, List.pairwise_map] at hnd'
  refine (List.pairwise_and_iff.2 ⟨hs, hnd'⟩).imp_of_mem ?_
  intro a b ha hb ⟨h1, h2⟩
  have e1 := hlC a ha
  have e2 := hlC b hb
  rcases Int.lt_or_eq_of_le h1 with h3 | h3
  · omega
  · exact absurd (cc.inj a.1 e1.2 b.1 e2.2 (by omega)) h2
 have hrms : ∀ m ∈ r.ms, m.1 ∈ s.ms.map Prod.fst := fun m hm => by rw [h.ms]; exact List.mem_map_of_mem hm
 have hrmg : ∀ m ∈ r.ms, m.1 ∈ gls s ∧ m.1 ≠ x.guid := fun m hm => by
  obtain ⟨m', hm', e⟩ := List.mem_map.1 (hrms m hm)
  exact ⟨mem_gls.2 (Or.inr ⟨m', hm', e⟩), by rw [← e]; exact hno m' hm'⟩
 have hxg : x.guid ∈ gls s := mem_gls.2 (Or.inl ⟨x, hxm, rfl⟩)
 have hyC : y.came = (C x.guid).2 := by rw [← hg]; exact cc.rs y hym
 have hir := insM_rises (x.guid, y.came) r.ms h.mp (fun a ha e => by
  have h1 := cc.rm a ha
  obtain ⟨h2, h3⟩ := hrmg a ha
  have e' : a.2 = y.came := e
  have o1 := cc.ord a.1 h2 x.guid hxg
  have o2 := cc.ord x.guid hxg a.1 h2
  exact h3 (cc.inj a.1 h2 x.guid hxg (by omega)))
 have hiC : ∀ m ∈ insM (x.guid, y.came) r.ms, m.2 = (C m.1).2 ∧ m.1 ∈ gls s := fun m hm => by
  rcases (mem_insM _ _ _).1 hm with rfl | hm
  · exact ⟨hyC, hxg⟩
  · exact ⟨cc.rm m hm, (hrmg m hm).1⟩
 have hip : ((insM (x.guid, y.came) r.ms).map Prod.fst).Pairwise fun a b => (C a).1 < (C b).1 := by
  rw [List.pairwise_map]
  refine hir.imp_of_mem ?_
  intro a b ha hb h1
  obtain ⟨e1, g1⟩ := hiC a ha
  obtain ⟨e2, g2⟩ := hiC b hb
  exact (cc.ord _ g1 _ g2).2 (by omega)
 have hms : l.map Prod.fst = (insM (x.guid, y.came) r.ms).map Prod.fst := by
  refine sorted_eq (fun z => (C z).1) _ _ hlp hip (fun z => ?_)
  rw [(hp.map Prod.fst).mem_iff, List.map_append, List.mem_append, h.ms]
  simp only [List.mem_map, List.mem_singleton, mem_insM]
  constructor
  · rintro (⟨a, ha, e⟩ | ⟨a, rfl, e⟩)
    · exact ⟨a, Or.inr ha, e⟩
    · exact ⟨_, Or.inl rfl, e⟩
  · rintro ⟨a, rfl | ha, e⟩
    · exact Or.inr ⟨_, rfl, e⟩
    · exact Or.inl ⟨a, ha, e⟩
 refine ⟨h.id, h.bl, h.dat, h.last, ⟨⟨h.cm.1.1, by have := h.cm.1.2; show s.came ≤ _; omega⟩, h.cm.2⟩, h.ss, hms, h.th, ⟨h.len.1, ?_⟩, h.nd, hnd, hir, fun g hg' => ?_, h.tr, h.ho, ⟨C, cc.sub (fun x hx => ⟨x, hx, rfl, rfl⟩) hlm (fun x hx => ⟨x, hx, rfl, rfl, rfl⟩) (fun m hm => ?_) rfl rfl rfl rfl (fun _ _ _ => rfl)⟩, ⟨h.rn.1, by have := h.rn.2; show r.now ≤ _; omega⟩, ?_, by have := h.cn; show s.cnt ≤ _; omega⟩
 · show l.length ≤ 12
   rw [hp.length_eq]
   simp
   omega
 · rcases mem_gls.1 hg' with ⟨x, hx, e⟩ | ⟨m, hm, e⟩
   · exact h.gr g (mem_gls.2 (Or.inl ⟨x, hx, e⟩))
   · rw [← e]
     exact h.gr _ (hlC m hm).2
 · rcases (mem_insM _ _ _).1 hm with rfl | hm
   · exact Or.inr ⟨y, hym, by rw [hg]⟩
   · exact Or.inl hm
 · show (s.log ++ entry 77 t).length ≤ _
   have := h.lg
   rw [List.length_append, entry_len]
   omega
theorem Sim.unmark (h : Sim s r q) (j : Nat) {mv mv' lv : Value} {t : ByteArray} (ht : t.size ≤ 50) : Sim ((s.unmark j mv).noted 85 t lv) (r.setM (r.ms.eraseIdx j) mv') (q + 1) := by
 obtain ⟨C, cc⟩ := h.cc
 have hsub : ∀ m ∈ s.ms.eraseIdx j, m ∈ s.ms := fun m hm => (List.eraseIdx_sublist _ _).subset hm
 refine ⟨h.id, h.bl, h.dat, h.last, ⟨⟨h.cm.1.1, by have := h.cm.1.2; show s.came ≤ _; omega⟩, h.cm.2⟩, h.ss, ?_, h.th, ⟨h.len.1, Nat.le_trans (List.eraseIdx_sublist _ _).length_le h.len.2⟩, h.nd, h.mnd.sublist ((List.eraseIdx_sublist _ _).map _), h.mp.sublist (List.eraseIdx_sublist _ _), fun g hg => ?_, h.tr, h.ho, ⟨C, cc.sub (fun x hx => ⟨x, hx, rfl, rfl⟩) (fun m hm => Or.inl (hsub m hm)) (fun x hx => ⟨x, hx, rfl, rfl, rfl⟩) (fun m hm => Or.inl ((List.eraseIdx_sublist _ _).subset hm)) rfl rfl rfl rfl (fun _ _ _ => rfl)⟩, ⟨h.rn.1, by have := h.rn.2; show r.now ≤ _; omega⟩, ?_, by have := h.cn; show s.cnt ≤ _; omega⟩
 · show (s.ms.eraseIdx j).map Prod.fst = (r.ms.eraseIdx j).map Prod.fst
   rw [List.eraseIdx_eq_take_drop_succ, List.eraseIdx_eq_take_drop_succ, List.map_append, List.map_append, List.map_take, List.map_take, List.map_drop, List.map_drop, h.ms]
 · rcases mem_gls.1 hg with ⟨x, hx, e⟩ | ⟨m, hm, e⟩
   · exact h.gr g (mem_gls.2 (Or.inl ⟨x, hx, e⟩))
   · exact h.gr g (mem_gls.2 (Or.inr ⟨m, hsub m hm, e⟩))
 · show (s.log ++ entry 85 t).length ≤ _
   have := h.lg
   rw [List.length_append, entry_len]
   omega
theorem Sim.start (id : Int) (n vb mb : Nat) (lv : Value) (h1 : 1 ≤ id ∧ id ≤ 999) (h2 : 1 ≤ n ∧ n ≤ 16) : Sim (newS id n vb mb lv) (RSto.fresh id n 16) 0 := by
 have e : (newS id n vb mb lv).vol = List.replicate n Ct.zero := rfl
 have hbo : (RSto.fresh id n 16).born = List.replicate 16 0 := rfl
 refine ⟨⟨rfl, h1⟩, ⟨by rw [e]; simp [RSto.fresh], by rw [e]; simpa using h2.1, by rw [e]; simpa using h2.2⟩, fun j hj => ?_, rfl, ⟨⟨Int.le_refl _, Int.le_refl _⟩, Int.le_refl _, by show (0 : Int) ≤ 999999; omega⟩, rfl, rfl, by simp [RSto.fresh], ⟨by simp [newS, Sto.fresh, Sto.noted], by simp [newS, Sto.fresh, Sto.noted]⟩, by simp [newS, Sto.fresh, Sto.noted], by simp [newS, Sto.fresh, Sto.noted], by simp [RSto.fresh], by simp [gls, newS, Sto.fresh, Sto.noted], by simp [newS, Sto.fresh, Sto.noted], by simp [newS, Sto.fresh, Sto.noted], ⟨fun _ => (0, 0), ⟨by simp [newS, Sto.fresh, Sto.noted], by simp [newS, Sto.fresh, Sto.noted], by simp [RSto.fresh], by simp [RSto.fresh], by simp [gls, newS, Sto.fresh, Sto.noted], by simp [gls, newS, Sto.fresh, Sto.noted], by simp [gls, newS, Sto.fresh, Sto.noted], fun j hj => ?_, by simp [RSto.fresh]⟩⟩, ⟨Int.le_refl _, by simp [RSto.fresh]⟩, ?_, by simp [newS, Sto.fresh, Sto.noted]⟩
 · have hj' : j < n := by rw [e] at hj; simpa using hj
   have e2 : (newS id n vb mb lv).vol[j] = Ct.zero := by simp only [e]; simp
   rw [e2]
   show (newDat 16)[j]? = some no4
   unfold newDat
   rw [List.getElem?_append_left (by simp; omega), List.getElem?_replicate, if_pos (by omega)]
 · have hj' : j < n := by rw [e] at hj; simpa using hj
   have e2 : (newS id n vb mb lv).vol[j] = Ct.zero := by simp only [e]; simp
   rw [e2, hbo]
   refine ⟨0, by rw [List.getElem?_replicate, if_pos (by omega)], ⟨⟨Int.le_refl _, Int.le_refl _, Int.le_refl _⟩, by simp [gls, newS, Sto.fresh, Sto.noted]⟩⟩
 · show ([] ++ entry 78 (ntext id n)).length ≤ _
   rw [List.nil_append, entry_len]
   have : (ntext id n).size = 5 := rfl
   omega
end
end Go.Proofs.YthdhegmlknpllaaGreat
