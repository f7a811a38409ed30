import Derived.Test.YthdhegmlknpllaaGreatM26
import Derived.Test.YthdhegmlknpllaaGreatM27
import Derived.Test.YthdhegmlknpllaaGreatM09
import Derived.Test.YthdhegmlknpllaaGreatM24
import Derived.Test.YthdhegmlknpllaaGreatM36
import Derived.Test.YthdhegmlknpllaaGreatM13
import Derived.Test.YthdhegmlknpllaaGreatM33
namespace Go.Proofs.YthdhegmlknpllaaGreat
open Go.RowKit Go.Maps Go.MuLone
section
variable {B : Nat} {w w1 w2 W : World} {db b rb : Nat} {s s' : Sto} {r r' : RSto} {q : Nat}
theorem four {t : ByteArray} (h : t.size = 4) : ∃ x : B4, t = x.ba := by
 obtain ⟨d⟩ := t
 have h1 : d.size = 4 := h
 refine ⟨⟨d[0], d[1], d[2], d[3]⟩, ?_⟩
 unfold B4.ba
 congr 1
 apply Array.ext
 · simp [h1]
 · intro i hi _
   have : i = 0 ∨ i = 1 ∨ i = 2 ∨ i = 3 := by omega
   rcases this with rfl | rfl | rfl | rfl <;> rfl
theorem noted_foot {b : Nat} {s : Sto} {c : UInt8} {t : ByteArray} {lv : Value} {N : Nat} (h : ∀ k, lv.ownBlock = some k → s.lv.ownBlock = some k ∨ N ≤ k) : ∀ k ∈ foot b (s.noted c t lv), k ∈ foot b s ∨ N ≤ k := fun k hk => by
 simp only [foot, Sto.noted, List.mem_append, List.mem_cons, Option.mem_toList] at hk ⊢
 rcases hk with hk | hk
 · exact Or.inl (Or.inl hk)
 · rcases h k hk with h1 | h1
   · exact Or.inl (Or.inr h1)
   · exact Or.inr h1
theorem n4_size (z : Int) : (n4 z).ba.size ≤ 50 := by
 have : (n4 z).ba.size = 4 := rfl
 omega
theorem nd_len : ∀ (l L : List Int), l.Nodup → (∀ x ∈ l, x ∈ L) → l.length ≤ L.length
 | [], _, _, _ => Nat.zero_le _
 | a :: l, L, h, hs => by
  rw [List.nodup_cons] at h
  have ha := hs a (by simp)
  have ih := nd_len l (L.erase a) h.2 (fun x hx => (List.mem_erase_of_ne (fun e => h.1 (by rw [← e]; exact hx))).2 (hs x (by simp [hx])))
  have hp := List.length_pos_of_mem ha
  rw [List.length_erase_of_mem ha] at ih
  simp only [List.length_cons]
  omega
theorem least_ex (p : Nat → Bool) : ∀ N, (∃ i, i < N ∧ p i = true) → ∃ i, i < N ∧ p i = true ∧ ∀ j, j < i → p j = false
 | 0, ⟨_, h, _⟩ => absurd h (Nat.not_lt_zero _)
 | N + 1, ⟨i, h, hp⟩ => by
  by_cases hs : ∃ i, i < N ∧ p i = true
  · obtain ⟨i, h1, h2⟩ := least_ex p N hs
    exact ⟨i, by omega, h2⟩
  · have e : i = N := by
      rcases Nat.lt_succ_iff_lt_or_eq.1 h with h1 | h1
      · exact absurd ⟨i, h1, hp⟩ hs
      · exact h1
    subst e
    exact ⟨i, h, hp, fun j hj => by cases hq : p j; rfl; exact absurd ⟨j, hj, hq⟩ hs⟩
theorem hs_gls (g : Int) : Hs s g = true ↔ g ∈ gls s := by
 unfold Hs
 rw [Bool.or_eq_true, List.any_eq_true, List.any_eq_true, mem_gls]
 simp
theorem Sim.hs (m : Sim s r q) (g : Int) : RHs r g = Hs s g := by
 have e1 : r.sh.any (fun x => x.guid == g) = (r.sh.map RSh.guid).any (fun z => z == g) := by rw [List.any_map]; rfl
 have e2 : s.ss.any (fun x => x.guid == g) = (s.ss.map Sn.guid).any (fun z => z == g) := by rw [List.any_map]; rfl
 have e3 : r.ms.any (fun x => x.1 == g) = (r.ms.map Prod.fst).any (fun z => z == g) := by rw [List.any_map]; rfl
 have e4 : s.ms.any (fun x => x.1 == g) = (s.ms.map Prod.fst).any (fun z => z == g) := by rw [List.any_map]; rfl
 unfold RHs Hs
 rw [e1, e2, e3, e4, m.guids, m.ms]
theorem Sim.next (m : Sim s r q) : ∃ n, Nxt s n ∧ RNxt r n := by
 have hex : ∃ i, i < 25 ∧ (!Hs s (gu s (s.taken + 1 + (i : Nat)))) = true := by
  by_cases h : ∃ i, i < 25 ∧ (!Hs s (gu s (s.taken + 1 + (i : Nat)))) = true
  · exact h
  · exfalso
    have h1 := nd_len ((List.range 25).map fun i : Nat => gu s (s.taken + 1 + (i : Nat))) (gls s) (by
     rw [List.Nodup, List.pairwise_map]
     refine List.nodup_range.imp ?_
     intro a b hab e
     unfold gu at e
     exact hab (by omega)) (fun x hx => by
     obtain ⟨i, hi, rfl⟩ := List.mem_map.1 hx
     rw [← hs_gls]
     cases hq : Hs s (gu s (s.taken + 1 + (i : Nat)))
     · exact absurd ⟨i, List.mem_range.1 hi, by rw [hq]; rfl⟩ h
     · rfl)
    have := m.len
    simp [gls] at h1
    omega
 obtain ⟨i, h1, h2, h3⟩ := least_ex (fun i => !Hs s (gu s (s.taken + 1 + (i : Nat)))) 25 hex
 have e1 := m.id.1
 have e2 := m.last
 have eg : ∀ k, 1000000 * r.id + k = gu s k := fun k => by unfold gu; omega
 have hN : Nxt s (s.taken + 1 + (i : Nat)) := ⟨by omega, by omega, fun k hk1 hk2 => by
  have h4 := h3 (k - s.taken - 1).toNat (by omega)
  have e : s.taken + 1 + (((k - s.taken - 1).toNat : Nat) : Int) = k := by omega
  rw [e] at h4
  simpa using h4, by simpa using h2⟩
 exact ⟨_, hN, by rw [e2]; exact hN.lo, by rw [e2]; exact hN.hi, fun k hk1 hk2 => by rw [eg, m.hs]; exact hN.no k (by rw [← e2]; exact hk1) hk2, by rw [eg, m.hs]; exact hN.yes⟩
theorem simSpot (m : Sim s r q) (g : Int) : (fi (fun y : Sn => y.guid == g) 0 s.ss = -1 ∧ fi (fun y : RSh => y.guid == g) 0 r.sh = -1) ∨ ∃ (j : Nat) (x : Sn) (y : RSh), s.ss[j]? = some x ∧ r.sh[j]? = some y ∧ fi (fun y : Sn => y.guid == g) 0 s.ss = (j : Int) ∧ fi (fun y : RSh => y.guid == g) 0 r.sh = (j : Int) ∧ x.guid = g ∧ y.guid = g ∧ y.holds = x.holds ∧ x ∈ s.ss ∧ y ∈ r.sh := by
 rcases fi_cases (fun y : Sn => y.guid == g) s.ss with e | ⟨j, hj, e, hg⟩
 · exact Or.inl ⟨e, by rw [m.fi]; exact e⟩
 · have hj' : j < r.sh.length := by rw [m.glen]; exact hj
   have hxy := m.at hj
   unfold t3 r3 at hxy
   simp only [Prod.mk.injEq] at hxy
   have hg' : s.ss[j].guid = g := by simpa using hg
   exact Or.inr ⟨j, s.ss[j], r.sh[j], List.getElem?_eq_getElem hj, List.getElem?_eq_getElem hj', e, by rw [m.fi]; exact e, hg', by rw [← hxy.1]; exact hg', hxy.2.2.symm, List.getElem_mem hj, List.getElem_mem hj'⟩
theorem foot_up {N : Nat} (hv : s'.vb = s.vb) (hm : s'.mb = s.mb) (h1 : ∀ k, s'.sv.ownBlock = some k → s.sv.ownBlock = some k ∨ N ≤ k) (h2 : ∀ k, s'.mv.ownBlock = some k → s.mv.ownBlock = some k ∨ N ≤ k) (h3 : ∀ k, s'.lv.ownBlock = some k → s.lv.ownBlock = some k ∨ N ≤ k) : ∀ k ∈ foot b s', k ∈ foot b s ∨ N ≤ k := fun k hk => by
 simp only [foot, List.mem_append, List.mem_cons, List.not_mem_nil, or_false, Option.mem_toList] at hk ⊢
 rw [hv, hm] at hk
 rcases hk with ((hk | hk) | hk) | hk
 · exact Or.inl (Or.inl (Or.inl (Or.inl hk)))
 · rcases h1 k hk with h | h
   · exact Or.inl (Or.inl (Or.inl (Or.inr h)))
   · exact Or.inr h
 · rcases h2 k hk with h | h
   · exact Or.inl (Or.inl (Or.inr h))
   · exact Or.inr h
 · rcases h3 k hk with h | h
   · exact Or.inl (Or.inr h)
   · exact Or.inr h
theorem rfoot_up {N : Nat} (h1 : ∀ k, r'.sv.ownBlock = some k → r.sv.ownBlock = some k ∨ N ≤ k) (h2 : ∀ k, r'.mv.ownBlock = some k → r.mv.ownBlock = some k ∨ N ≤ k) : ∀ k ∈ rfoot rb r', k ∈ rfoot rb r ∨ N ≤ k := fun k hk => by
 simp only [rfoot, List.mem_append, List.mem_cons, List.not_mem_nil, or_false, Option.mem_toList] at hk ⊢
 rcases hk with (hk | hk) | hk
 · exact Or.inl (Or.inl (Or.inl hk))
 · rcases h1 k hk with h | h
   · exact Or.inl (Or.inl (Or.inr h))
   · exact Or.inr h
 · rcases h2 k hk with h | h
   · exact Or.inl (Or.inr h)
   · exact Or.inr h
theorem any_map {α β : Type} (f : α → β) (p : β → Bool) (l : List α) : (l.map f).any p = l.any fun x => p (f x) := by rw [List.any_map]; rfl
theorem Sim.fine (m : Sim s r q) (zs : List Int) (k : Nat) : fineAt (r.sh.map RSh.sn) zs k = fineAt s.ss zs k := by
 unfold fineAt
 congr 1
 have e1 := any_map Sn.guid (fun g : Int => g == tm zs k) s.ss
 have e2 := any_map RSh.guid (fun g : Int => g == tm zs k) r.sh
 rw [m.guids, e2] at e1
 rw [List.any_map]
 exact e1
theorem Sim.held (m : Sim s r q) (zs : List Int) (k : Nat) : heldAt (r.sh.map RSh.sn) zs k = heldAt s.ss zs k := by
 unfold heldAt
 have e1 := any_map t3 (fun y : Int × Int × Int => (y.1 == tm zs k) && decide (y.2.2 > 0)) s.ss
 have e2 := any_map r3 (fun y : Int × Int × Int => (y.1 == tm zs k) && decide (y.2.2 > 0)) r.sh
 rw [m.ss, e2] at e1
 rw [List.any_map]
 exact e1
theorem RowG.fr {F : List Nat} {ao : Option Addr} {zs : List Int} {cap : Nat} (h : RowG w ao zs cap) (hf : Fr F w W) (hn : ∀ k off, ao = some ⟨k, off, none⟩ → 0 < zs.length → k ∉ F) : RowG W ao zs cap := by
 refine ⟨h.1, fun h0 => ?_⟩
 obtain ⟨rb, off, e, hc⟩ := h.2 h0
 refine ⟨rb, off, e, fun i hi => ?_⟩
 exact (World.cell?_of_block (hf.block rb (World.block_lt_of_cell? _ _ (hc i hi)) (hn rb off e h0))).trans (hc i hi)
theorem Sim.newest (m : Sim s r q) : rnewest r = lastG s.ss := by
 have hg := m.guids
 have e1 : r.sh.getLast?.map RSh.guid = s.ss.getLast?.map Sn.guid := by
  rw [← List.getLast?_map, ← List.getLast?_map, hg]
 have e2 : rnewest r = (r.sh.getLast?.map RSh.guid).getD 0 := by
  unfold rnewest
  cases r.sh.getLast? <;> rfl
 rw [e2, e1]
 rfl
end
def RWf (r : RSto) : Prop := r.dat.length = 16 ∧ r.born.length = 16 ∧ ∀ x ∈ r.sh, x.wf
theorem RRep.rwf {B : Nat} {w : World} {b : Nat} {r : RSto} (h : RRep B w b r) : RWf r := ⟨h.d16, h.b16, h.wf⟩
def V1 (e : Ending) : Prop := ∃ c, e = .returned (.int .i64 c)
def V2 (e : Ending) : Prop := ∃ a c, e = .returned (.tuple #[.int .i64 a, .int .i64 c])
def After (B b : Nat) (s : Sto) (q : Nat) (r' : RSto) (e : List UInt8) (w w' : World) : Prop := ∃ s', Rep B w' b 0 s' ∧ Sim s' r' (q + 1) ∧ s'.log = s.log ++ e ∧ Fr (foot b s) w w'
def Uc (V : Ending → Prop) (f : Nat) (args : Nat → Array Value) (r r' : RSto) (e : List UInt8) : Prop :=
 ∀ (B b : Nat) (s : Sto) (q : Nat) (w : World), Rep B w b 0 s → Sim s r q → q ≤ 2000000 → Calls Tryz.prog f (args b) w fun en w' => V en ∧ After B b s q r' e w w'
def RQ (r r' : RSto) : Prop := ∃ sv mv, r' = { r with sv := sv, mv := mv }
section
variable {B : Nat} {w w' w1 w2 W : World} {b rb : Nat} {s s' : Sto} {r r' : RSto} {q : Nat} {e : List UInt8}
theorem RQ.refl (r : RSto) : RQ r r := ⟨r.sv, r.mv, rfl⟩
theorem RQ.symm (h : RQ r r') : RQ r' r := by
 obtain ⟨sv, mv, rfl⟩ := h
 exact ⟨r.sv, r.mv, rfl⟩
theorem RQ.trans {r'' : RSto} (h : RQ r r') (h' : RQ r' r'') : RQ r r'' := by
 obtain ⟨sv, mv, rfl⟩ := h
 obtain ⟨sv, mv, rfl⟩ := h'
 exact ⟨sv, mv, rfl⟩
theorem Sim.rq (h : Sim s r q) (hq : RQ r r') : Sim s r' q := by
 obtain ⟨sv, mv, rfl⟩ := hq
 obtain ⟨C, cc⟩ := h.cc
 exact ⟨h.id, h.bl, h.dat, h.last, h.cm, h.ss, h.ms, h.th, h.len, h.nd, h.mnd, h.mp, h.gr, h.tr, h.ho, ⟨C, ⟨cc.ps, cc.pm, cc.rs, cc.rm, cc.rng, cc.ord, cc.inj, cc.vb, cc.tb⟩⟩, h.rn, h.lg, h.cn⟩
theorem After.same (rp : Rep B w' b 0 s) (m : Sim s r q) (f : Fr (foot b s) w w') : After B b s q r [] w w' := ⟨s, rp, m.le (by omega), by simp, f⟩
theorem u_write_bad (k : Int) (t : ByteArray) (hb : (decide (0 ≤ k) && decide (k < r.blocks)) = false ∨ ((t.size : Int) != 4) = true) : Uc V1 25 (fun b => #[.pointer (some ⟨b, 0, none⟩), .int .i64 k, .string t]) r r [] := fun B b s q w h m _ => by
 refine (write_bad B b s k t w h (by rw [m.bl.1] at hb; exact hb)).mono ?_
 rintro e w1 ⟨rfl, rp, f1⟩
 exact ⟨⟨_, rfl⟩, After.same rp m f1⟩
theorem u_write_ok (hr : RWf r) (n : Nat) (x : B4) (hn : n < r.blocks) : Uc V1 25 (fun b => #[.pointer (some ⟨b, 0, none⟩), .int .i64 n, .string x.ba]) r (r.write n x.ba) (entry 87 (wtext n x)) := fun B b s q w h m hq => by
 have hn' : n < s.vol.length := by rw [← m.bl.1]; exact hn
 refine (write_ok B b s n x w h hn' (by have := m.lg; omega)).mono ?_
 rintro e w1 ⟨rfl, lv, rp, f1, o1⟩
 exact ⟨⟨_, rfl⟩, _, rp, m.write hr.1 hr.2.1 hn' x (by show (wtext n x).size ≤ 50; exact (by rfl : (wtext n x).size = 5) ▸ (by omega)), rfl, f1⟩
theorem u_snap_arg (t : Int) (ht : t < 0 ∨ 1073741824 < t) : Uc V2 29 (fun b => #[.pointer (some ⟨b, 0, none⟩), .int .i64 t]) r r [] := fun B b s q w h m _ => by
 refine (snap_arg B b s t w h ht).mono ?_
 rintro e w1 ⟨rfl, rp, f1⟩
 exact ⟨⟨_, _, rfl⟩, After.same rp m f1⟩
theorem Nxt.one {s : Sto} {r : RSto} {n k : Int} (m : Sim s r q) (h : Nxt s n) (h' : RNxt r k) : n = k := by
 have eg : ∀ i, 1000000 * r.id + i = gu s i := fun i => by unfold gu; have := m.id.1; omega
 have e2 := m.last
 rcases Int.lt_trichotomy n k with hl | he | hl
 · have h1 := h'.no n (by rw [e2]; exact h.lo) hl
   rw [eg, m.hs, h.yes] at h1
   cases h1
 · exact he
 · have h1 := h.no k (by rw [← e2]; exact h'.lo) hl
   have h2 := h'.yes
   rw [eg, m.hs, h1] at h2
   cases h2
theorem u_snap_full (t n : Int) (ht : 0 ≤ t ∧ t ≤ 1073741824) (hn : RNxt r n) (hf : r.sh.length = 12 ∨ 999999 < n) : Uc V2 29 (fun b => #[.pointer (some ⟨b, 0, none⟩), .int .i64 t]) r r [] := fun B b s q w h m _ => by
 obtain ⟨k, hk, hrk⟩ := m.next
 have hkn := Nxt.one m hk hn
 subst hkn
 refine (snap_full B b s k t w h ht m.id.2 m.cm.2 hk m.len.1 m.len.2 (by rw [m.glen] at hf; exact hf)).mono ?_
 rintro e w1 ⟨rfl, rp, f1⟩
 exact ⟨⟨_, _, rfl⟩, After.same rp m f1⟩
theorem u_snap_ok (t n : Int) (sv' : Value) (ht : 0 ≤ t ∧ t ≤ 1073741824) (hrn : RNxt r n) (hf : ¬ (r.sh.length = 12 ∨ 999999 < n)) : Uc V2 29 (fun b => #[.pointer (some ⟨b, 0, none⟩), .int .i64 t]) r (r.snap n t sv') (entry 83 (n4 t).ba) := fun B b s q w h m hq => by
 obtain ⟨k, hn, hrk⟩ := m.next
 have hkn := Nxt.one m hn hrn
 subst hkn
 have hl12 := m.len
 have e2 := m.glen
 have e4 := m.cm
 have hlo := hn.lo
 have hcn := m.cn
 have hbl := m.bl
 refine (snap_ok B b s k t w h ht m.id.2 (by omega) hn (by omega) hl12.2 (by omega) hbl.2.2 (by unfold maxLen; omega) (by have := m.lg; omega)).mono ?_
 rintro e w1 ⟨rfl, sv, lv, rp, f1, o1, o2⟩
 have eg : gu s k = 1000000 * r.id + k := by have := m.id.1; unfold gu; omega
 have hg : gu s k ∉ gls s := fun hm => by
  have h8 := (hs_gls (gu s k)).2 hm
  rw [hn.yes] at h8
  cases h8
 have hgr : 1 ≤ gu s k ∧ gu s k ≤ 999999999 := by have := m.id.2; unfold gu; omega
 refine ⟨⟨_, _, rfl⟩, _, rp, ?_, rfl, f1⟩
 have h9 := m.come (sv := sv) (lv := lv) (sv' := sv') s.vol rfl r.dat r.born r.now ⟨Int.le_refl _, by omega⟩ m.dat (fun C cc => cc.vb) (gu s k) t hg hgr ht (by omega) k (by omega) 83 (tx := (n4 t).ba) (by have := n4_size t; omega)
 unfold RSto.snap
 rw [← eg]
 exact h9
theorem u_hold_none (g : Int) (e' : fi (fun y : RSh => y.guid == g) 0 r.sh = -1) : Uc V1 37 (fun b => #[.pointer (some ⟨b, 0, none⟩), .int .i64 g]) r r [] := fun B b s q w h m _ => by
 refine (hold_none B b s g w h m.len.1 (by rw [← m.fi]; exact e')).mono ?_
 rintro e w1 ⟨rfl, rp, f1⟩
 exact ⟨⟨_, rfl⟩, After.same rp m f1⟩
theorem u_release_none (g : Int) (e' : fi (fun y : RSh => y.guid == g) 0 r.sh = -1) : Uc V1 39 (fun b => #[.pointer (some ⟨b, 0, none⟩), .int .i64 g]) r r [] := fun B b s q w h m _ => by
 refine (release_none B b s g w h m.len.1 (by rw [← m.fi]; exact e')).mono ?_
 rintro e w1 ⟨rfl, rp, f1⟩
 exact ⟨⟨_, rfl⟩, After.same rp m f1⟩
theorem Sim.spot (m : Sim s r q) {j : Nat} {y : RSh} (hy : r.sh[j]? = some y) : ∃ x, s.ss[j]? = some x ∧ x.guid = y.guid ∧ x.holds = y.holds ∧ x ∈ s.ss := by
 have hj : j < r.sh.length := (List.getElem?_eq_some_iff.1 hy).1
 have hj' : j < s.ss.length := by rw [← m.glen]; exact hj
 have ey : r.sh[j] = y := (List.getElem?_eq_some_iff.1 hy).2
 have hxy := m.at hj'
 rw [ey] at hxy
 unfold t3 r3 at hxy
 simp only [Prod.mk.injEq] at hxy
 exact ⟨s.ss[j], List.getElem?_eq_getElem hj', hxy.1, hxy.2.2, List.getElem_mem hj'⟩
theorem u_hold_full (g : Int) (j : Nat) (y : RSh) (hy : r.sh[j]? = some y) (e' : fi (fun y : RSh => y.guid == g) 0 r.sh = (j : Int)) (h9 : 9 ≤ y.holds) : Uc V1 37 (fun b => #[.pointer (some ⟨b, 0, none⟩), .int .i64 g]) r r [] := fun B b s q w h m _ => by
 obtain ⟨x, hx, hxg, hxh, hxm⟩ := m.spot hy
 refine (hold_full B b s g j x w h m.len.1 (by rw [← m.fi]; exact e') hx (by omega)).mono ?_
 rintro e w1 ⟨rfl, rp, f1⟩
 exact ⟨⟨_, rfl⟩, After.same rp m f1⟩
theorem u_hold_ok (g : Int) (j : Nat) (y : RSh) (hy : r.sh[j]? = some y) (e' : fi (fun y : RSh => y.guid == g) 0 r.sh = (j : Int)) (h9 : y.holds < 9) : Uc V1 37 (fun b => #[.pointer (some ⟨b, 0, none⟩), .int .i64 g]) r (r.setH j y (y.holds + 1)) (entry 72 (n4 g).ba) := fun B b s q w h m hq => by
 obtain ⟨x, hx, hxg, hxh, hxm⟩ := m.spot hy
 have hho := m.ho x hxm
 refine (hold_ok B b s g j x w h m.len.1 (by rw [← m.fi]; exact e') hx (by omega) (by have := m.lg; omega)).mono ?_
 rintro e w1 ⟨rfl, lv, rp, f1, o1⟩
 exact ⟨⟨_, rfl⟩, _, rp, by rw [hxh]; exact m.setH hx hy (by omega) (n4_size g), rfl, f1⟩
theorem u_release_bad (g : Int) (j : Nat) (y : RSh) (hy : r.sh[j]? = some y) (e' : fi (fun y : RSh => y.guid == g) 0 r.sh = (j : Int)) (h0 : y.holds = 0) : Uc V1 39 (fun b => #[.pointer (some ⟨b, 0, none⟩), .int .i64 g]) r r [] := fun B b s q w h m _ => by
 obtain ⟨x, hx, hxg, hxh, hxm⟩ := m.spot hy
 refine (release_bad B b s g j x w h m.len.1 (by rw [← m.fi]; exact e') hx (by omega)).mono ?_
 rintro e w1 ⟨rfl, rp, f1⟩
 exact ⟨⟨_, rfl⟩, After.same rp m f1⟩
theorem u_release_ok (g : Int) (j : Nat) (y : RSh) (hy : r.sh[j]? = some y) (e' : fi (fun y : RSh => y.guid == g) 0 r.sh = (j : Int)) (h0 : ¬ y.holds = 0) : Uc V1 39 (fun b => #[.pointer (some ⟨b, 0, none⟩), .int .i64 g]) r (r.setH j y (y.holds - 1)) (entry 82 (n4 g).ba) := fun B b s q w h m hq => by
 obtain ⟨x, hx, hxg, hxh, hxm⟩ := m.spot hy
 have hho := m.ho x hxm
 refine (release_ok B b s g j x w h m.len.1 (by rw [← m.fi]; exact e') hx (by omega) (by have := m.lg; omega)).mono ?_
 rintro e w1 ⟨rfl, lv, rp, f1, o1⟩
 exact ⟨⟨_, rfl⟩, _, rp, by rw [hxh]; exact m.setH hx hy (by omega) (n4_size g), rfl, f1⟩
theorem u_mark_was (g : Int) (i : Nat) (em : fi (fun y : Int × Int => y.1 == g) 0 r.ms = (i : Int)) : Uc V1 42 (fun b => #[.pointer (some ⟨b, 0, none⟩), .int .i64 g]) r r [] := fun B b s q w h m _ => by
 refine (mark_was B b s g i w h m.len.2 (by rw [← m.fim]; exact em)).mono ?_
 rintro e w1 ⟨rfl, rp, f1⟩
 exact ⟨⟨_, rfl⟩, After.same rp m f1⟩
theorem u_mark_none (g : Int) (em : fi (fun y : Int × Int => y.1 == g) 0 r.ms = -1) (e' : fi (fun y : RSh => y.guid == g) 0 r.sh = -1) : Uc V1 42 (fun b => #[.pointer (some ⟨b, 0, none⟩), .int .i64 g]) r r [] := fun B b s q w h m _ => by
 refine (mark_none B b s g w h m.len.2 m.len.1 (by rw [← m.fim]; exact em) (by rw [← m.fi]; exact e')).mono ?_
 rintro e w1 ⟨rfl, rp, f1⟩
 exact ⟨⟨_, rfl⟩, After.same rp m f1⟩
theorem u_mark_full (g : Int) (j : Nat) (em : fi (fun y : Int × Int => y.1 == g) 0 r.ms = -1) (e' : fi (fun y : RSh => y.guid == g) 0 r.sh = (j : Int)) (hf : r.ms.length = 12) : Uc V1 42 (fun b => #[.pointer (some ⟨b, 0, none⟩), .int .i64 g]) r r [] := fun B b s q w h m _ => by
 refine (mark_full B b s g j w h (by rw [← m.mlen]; exact hf) m.len.1 (by rw [← m.fim]; exact em) (by rw [← m.fi]; exact e')).mono ?_
 rintro e w1 ⟨rfl, rp, f1⟩
 exact ⟨⟨_, rfl⟩, After.same rp m f1⟩
theorem u_mark_ok (g : Int) (j : Nat) (y : RSh) (mv' : Value) (hy : r.sh[j]? = some y) (hyg : y.guid = g) (em : fi (fun y : Int × Int => y.1 == g) 0 r.ms = -1) (e' : fi (fun y : RSh => y.guid == g) 0 r.sh = (j : Int)) (hf : ¬ r.ms.length = 12) : Uc V1 42 (fun b => #[.pointer (some ⟨b, 0, none⟩), .int .i64 g]) r (r.setM (insM (g, y.came) r.ms) mv') (entry 77 (n4 g).ba) := fun B b s q w h m hq => by
 obtain ⟨x, hx, hxg', hxh, hxm⟩ := m.spot hy
 have hxg : x.guid = g := hxg'.trans hyg
 have em1 : fi (fun y : Int × Int => y.1 == g) 0 s.ms = -1 := by rw [← m.fim]; exact em
 have hl12 := m.len
 have e3 := m.mlen
 have hno : ∀ a ∈ s.ms, a.1 ≠ x.guid := fun a ha e => by
  rw [hxg] at e
  obtain ⟨j, hj, e2, _⟩ := fi_some (p := fun y : Int × Int => y.1 == g) s.ms 0 ⟨a, ha, by simpa using e⟩
  rw [em1] at e2
  omega
 have hcm := m.cm
 obtain ⟨C, cc⟩ := m.cc
 have hxc : 0 ≤ x.came ∧ x.came ≤ 1000000000000 := by
  have h8 := cc.rng x.guid (mem_gls.2 (Or.inl ⟨x, hxm, rfl⟩))
  rw [cc.ps x hxm]
  omega
 refine (mark_new B b s g j x w h hl12.1 (by omega) (by rw [← m.fi]; exact e') hx em1 (fun a ha => by have h8 := cc.rng a.1 (mem_gls.2 (Or.inr ⟨a, ha, rfl⟩)); rw [cc.pm a ha]; omega) hxc (by have := m.lg; omega)).mono ?_
 rintro e w1 ⟨rfl, l, mv, lv, hp, hs, rp, f1, o1, o2⟩
 rw [← hxg] at hp
 exact ⟨⟨_, rfl⟩, _, rp, by have h7 := m.marked hx hy hno (by omega) hp hs (mv := mv) (mv' := mv') (lv := lv) (n4_size g); rw [hxg] at h7; exact h7, rfl, f1⟩
theorem u_unmark_none (g : Int) (em : fi (fun y : Int × Int => y.1 == g) 0 r.ms = -1) : Uc V1 44 (fun b => #[.pointer (some ⟨b, 0, none⟩), .int .i64 g]) r r [] := fun B b s q w h m _ => by
 refine (unmark_none B b s g w h m.len.2 (by rw [← m.fim]; exact em)).mono ?_
 rintro e w1 ⟨rfl, rp, f1⟩
 exact ⟨⟨_, rfl⟩, After.same rp m f1⟩
theorem u_unmark_ok (g : Int) (i : Nat) (mv' : Value) (hi : i < r.ms.length) (em : fi (fun y : Int × Int => y.1 == g) 0 r.ms = (i : Int)) : Uc V1 44 (fun b => #[.pointer (some ⟨b, 0, none⟩), .int .i64 g]) r (r.setM (r.ms.eraseIdx i) mv') (entry 85 (n4 g).ba) := fun B b s q w h m hq => by
 refine (unmark_ok B b s g i w h m.len.2 (by rw [← m.fim]; exact em) (by rw [← m.mlen]; exact hi) (by have := m.lg; omega)).mono ?_
 rintro e w1 ⟨rfl, mv, lv, rp, f1, o1, o2⟩
 exact ⟨⟨_, rfl⟩, _, rp, m.unmark i (n4_size g), rfl, f1⟩
end
end Go.Proofs.YthdhegmlknpllaaGreat
