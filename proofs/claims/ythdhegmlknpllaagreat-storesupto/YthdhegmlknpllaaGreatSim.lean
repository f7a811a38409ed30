/-
  Pure: the program's store and the reference's tell the same.
-/
import Derived.Test.YthdhegmlknpllaaGreatRds
import Derived.Test.YthdhegmlknpllaaGreatRmo
import Derived.Test.YthdhegmlknpllaaGreatMrg
import Derived.Test.YthdhegmlknpllaaGreatRsp
namespace Go.Proofs.YthdhegmlknpllaaGreat
open Go.RowKit Go.Maps Go.MuLone

/-- The reference's guids, and when each came. -/
def rcm (r : RSto) : List (Int × Int) := r.sh.map (fun x => (x.guid, x.came)) ++ r.ms
/-- The two stores tell the same, behind so many calls. -/
structure Sim (s : Sto) (r : RSto) (q : Nat) : Prop where
  id : r.id = s.id ∧ 1 ≤ s.id ∧ s.id ≤ 999
  bl : r.blocks = s.vol.length ∧ 1 ≤ s.vol.length ∧ s.vol.length ≤ 16
  dat : ∀ j (hj : j < s.vol.length), r.dat[j]? = some s.vol[j].x.ba
  last : r.last = s.taken
  cm : s.came = s.taken ∧ 0 ≤ s.taken ∧ s.taken ≤ 999999
  ss : s.ss.map t3 = r.sh.map r3
  ms : s.ms.map Prod.fst = r.ms.map Prod.fst
  th : ∀ x ∈ r.sh, ∀ j : Nat, j < s.vol.length → x.dat[j]? = some (s.th x.guid j).x.ba
  len : s.ss.length ≤ 12 ∧ s.ms.length ≤ 12
  srt : s.ss.Pairwise fun x y => x.guid < y.guid
  gs : ∀ x ∈ s.ss, (1000000 * s.id < x.guid ∧ x.guid ≤ 1000000 * s.id + s.taken) ∧ x.came = x.guid - 1000000 * s.id
  ho : ∀ x ∈ s.ss, 0 ≤ x.holds ∧ x.holds ≤ 9
  mg : ∀ m ∈ s.ms, (1000000 * s.id < m.1 ∧ m.1 ≤ 1000000 * s.id + s.taken) ∧ m.2 = m.1 - 1000000 * s.id
  mp : s.ms.Pairwise fun a b => a.1 < b.1
  mono : ∀ a ∈ rcm r, ∀ b ∈ rcm r, a.1 < b.1 → a.2 < b.2
  eqc : ∀ a ∈ rcm r, ∀ b ∈ rcm r, a.1 = b.1 → a.2 = b.2
  rn : (∀ a ∈ rcm r, a.2 ≤ r.now) ∧ 0 ≤ r.now ∧ r.now ≤ q
  lg : s.log.length ≤ 100 + 60 * q
  cn : s.cnt ≤ 16 * q

section
variable {s s' : Sto} {r r' : RSto} {q : Nat}
theorem Sim.guids (h : Sim s r q) : s.ss.map Sn.guid = r.sh.map RSh.guid := by
  have e := congrArg (List.map (fun x : Int × Int × Int => x.1)) h.ss
  rw [List.map_map, List.map_map] at e
  exact e
theorem Sim.glen (h : Sim s r q) : r.sh.length = s.ss.length := by have := congrArg List.length h.ss; simpa using this.symm
theorem Sim.mlen (h : Sim s r q) : r.ms.length = s.ms.length := by have := congrArg List.length h.ms; simpa using this.symm
theorem Sim.le (h : Sim s r q) {q' : Nat} (hq : q ≤ q') : Sim s r q' :=
  ⟨h.id, h.bl, h.dat, h.last, h.cm, h.ss, h.ms, h.th, h.len, h.srt, h.gs, h.ho, h.mg, h.mp, h.mono, h.eqc, ⟨h.rn.1, h.rn.2.1, by have := h.rn.2.2; omega⟩, by have := h.lg; omega, by have := h.cn; omega⟩
theorem Sim.nd (h : Sim s r q) : (s.ss.map Sn.guid).Nodup := by
  rw [List.Nodup, List.pairwise_map]
  exact h.srt.imp (fun h => by omega)
theorem Sim.rnd (h : Sim s r q) : (r.sh.map RSh.guid).Nodup := by rw [← h.guids]; exact h.nd
/-- The same place. -/
theorem Sim.fi (h : Sim s r q) (g : Int) : fi (fun y : RSh => y.guid == g) 0 r.sh = fi (fun y : Sn => y.guid == g) 0 s.ss := by
  have e1 := fi_map RSh.guid (fun z : Int => z == g) r.sh 0
  have e2 := fi_map Sn.guid (fun z : Int => z == g) s.ss 0
  rw [h.guids, ← e1] at e2
  exact e2.symm
theorem Sim.fim (h : Sim s r q) (g : Int) : YthdhegmlknpllaaGreat.fi (fun y : Int × Int => y.1 == g) 0 r.ms = YthdhegmlknpllaaGreat.fi (fun y : Int × Int => y.1 == g) 0 s.ms := by
  have e1 := fi_map (Prod.fst : Int × Int → Int) (fun z : Int => z == g) r.ms 0
  have e2 := fi_map (Prod.fst : Int × Int → Int) (fun z : Int => z == g) s.ms 0
  rw [h.ms, ← e1] at e2
  exact e2.symm
theorem fi_cases {α : Type} (p : α → Bool) (l : List α) : YthdhegmlknpllaaGreat.fi p 0 l = -1 ∨ ∃ j, ∃ h : j < l.length, YthdhegmlknpllaaGreat.fi p 0 l = (j : Int) ∧ p l[j] = true := by
  by_cases hx : ∃ x ∈ l, p x = true
  · obtain ⟨j, hj, e, h⟩ := fi_some l 0 hx
    exact Or.inr ⟨j, hj, by simpa using e, h⟩
  · exact Or.inl (fi_none l 0 (fun x h => by cases hp : p x; rfl; exact absurd ⟨x, h, hp⟩ hx))
theorem Sim.at (h : Sim s r q) {j : Nat} (hj : j < s.ss.length) : t3 s.ss[j] = r3 (r.sh[j]'(by rw [h.glen]; exact hj)) := by
  have e := congrArg (fun l => l[j]?) h.ss
  simp only [List.getElem?_map] at e
  rw [List.getElem?_eq_getElem hj, List.getElem?_eq_getElem (by rw [h.glen]; exact hj)] at e
  simpa using e

/-- What a list of snapshots is, one changed. -/
theorem map_set_eq {α β : Type} (f : α → β) (l : List α) (j : Nat) (x : α) : (l.set j x).map f = (l.map f).set j (f x) := by rw [List.map_set]

/-- Hold, Release: a count of holds. -/
theorem Sim.setH (h : Sim s r q) {j : Nat} {x : Sn} {y : RSh} (hx : s.ss[j]? = some x) (hy : r.sh[j]? = some y) {z : Int} (hz : 0 ≤ z ∧ z ≤ 9) {c : UInt8} {t : ByteArray} {lv : Value} (ht : t.size ≤ 50) : Sim ((s.setH j x z).noted c t lv) (r.setH j y z) (q + 1) := by
  have hj : j < s.ss.length := (List.getElem?_eq_some_iff.1 hx).1
  have ex : s.ss[j] = x := (List.getElem?_eq_some_iff.1 hx).2
  have ey : r.sh[j]'(by rw [h.glen]; exact hj) = y := (List.getElem?_eq_some_iff.1 hy).2
  have hxy := h.at hj
  rw [ex, ey] at hxy
  have hss : ((s.setH j x z).noted c t lv).ss = s.ss.set j (x.hold z) := rfl
  have hsh : (r.setH j y z).sh = r.sh.set j (y.hold z) := rfl
  have hg1 : ((s.ss.set j (x.hold z)).map Sn.guid) = s.ss.map Sn.guid := by
    have e : (x.hold z).guid = (s.ss.map Sn.guid)[j]'(by simpa using hj) := by rw [List.getElem_map, ex]; rfl
    rw [List.map_set, e, List.set_getElem_self]
  have hmem : ∀ u ∈ s.ss.set j (x.hold z), ∃ v ∈ s.ss, u.guid = v.guid ∧ u.came = v.came ∧ (u.holds = v.holds ∨ u.holds = z) := fun u hu => by
    rcases List.mem_or_eq_of_mem_set hu with hu | rfl
    · exact ⟨u, hu, rfl, rfl, Or.inl rfl⟩
    · exact ⟨x, List.mem_of_getElem? hx, rfl, rfl, Or.inr rfl⟩
  have hrmem : ∀ u ∈ r.sh.set j (y.hold z), ∃ v ∈ r.sh, u.guid = v.guid ∧ u.came = v.came ∧ u.dat = v.dat := fun u hu => by
    rcases List.mem_or_eq_of_mem_set hu with hu | rfl
    · exact ⟨u, hu, rfl, rfl, rfl⟩
    · exact ⟨y, List.mem_of_getElem? hy, rfl, rfl, rfl⟩
  have hrcm : ∀ a ∈ rcm (r.setH j y z), a ∈ rcm r := fun a ha => by
    rcases List.mem_append.1 ha with ha | ha
    · obtain ⟨u, hu, rfl⟩ := List.mem_map.1 ha
      obtain ⟨v, hv, e1, e2, _⟩ := hrmem u hu
      rw [e1, e2]
      exact List.mem_append_left _ (List.mem_map.2 ⟨v, hv, rfl⟩)
    · exact List.mem_append_right _ ha
  refine ⟨h.id, h.bl, h.dat, h.last, h.cm, ?_, h.ms, ?_, ⟨by rw [hss, List.length_set]; exact h.len.1, h.len.2⟩, ?_, ?_, ?_, h.mg, h.mp, fun a ha b hb => h.mono a (hrcm a ha) b (hrcm b hb), fun a ha b hb => h.eqc a (hrcm a ha) b (hrcm b hb), ⟨fun a ha => h.rn.1 a (hrcm a ha), h.rn.2.1, by have := h.rn.2.2; show r.now ≤ _; omega⟩, ?_, by have := h.cn; show s.cnt ≤ _; omega⟩
  · rw [hss, hsh, List.map_set, List.map_set, h.ss]
    congr 1
    unfold t3 r3 at hxy ⊢
    simp only [Prod.mk.injEq] at hxy
    show (x.guid, x.time, z) = (y.guid, y.time, z)
    rw [hxy.1, hxy.2.1]
  · intro u hu k hk
    rw [hsh] at hu
    obtain ⟨v, hv, e1, _, e3⟩ := hrmem u hu
    rw [e1, e3]
    exact h.th v hv k hk
  · have := h.nd
    have hp : ((s.ss.set j (x.hold z)).map Sn.guid).Pairwise (· < ·) := by rw [hg1, List.pairwise_map]; exact h.srt
    rw [List.pairwise_map] at hp
    exact hp
  · intro u hu
    obtain ⟨v, hv, e1, e2, _⟩ := hmem u hu
    rw [e1, e2]
    exact h.gs v hv
  · intro u hu
    obtain ⟨v, hv, _, _, e⟩ := hmem u hu
    rcases e with e | e
    · rw [e]; exact h.ho v hv
    · rw [e]; exact hz
  · show (s.log ++ entry c t).length ≤ _
    have := h.lg
    have e : (entry c t).length = t.size + 2 := by simp [entry]
    rw [List.length_append]
    omega
end
end Go.Proofs.YthdhegmlknpllaaGreat
