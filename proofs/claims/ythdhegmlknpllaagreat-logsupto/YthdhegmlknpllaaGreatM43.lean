import Derived.Test.YthdhegmlknpllaaGreatM39
import Derived.Test.YthdhegmlknpllaaGreatM42
namespace Go.Proofs.YthdhegmlknpllaaGreat
open Go.RowKit Go.Maps Go.MuLone
section
variable {lg lg' : List UInt8} {e : List UInt8} {r0 r r' r'' : RSto}
theorem Redo.rqL (hq : RQ r0 r) (h : Redo e r r') : Redo e r0 r' := ⟨h.ok, fun B b s q w rp m hq' => h.redo B b s q w rp (m.rq hq) hq'⟩
theorem Redo.rqR (hq : RQ r' r'') (h : Redo e r r') : Redo e r r'' := ⟨h.ok, fun B b s q w rp m hq' => (h.redo B b s q w rp m hq').mono fun _ _ hp => ⟨hp.1, by
 obtain ⟨s', h1, h2, h3, h4⟩ := hp.2
 exact ⟨s', h1, h2.rq hq, h3, h4⟩⟩⟩
theorem LStep.rqL (hq : RQ r0 r) (h : LStep lg r lg' r') : LStep lg r0 lg' r' := by
 rcases h with ⟨h1, h2⟩ | ⟨e, h1, h2⟩
 · exact Or.inl ⟨h1, hq.trans h2⟩
 · exact Or.inr ⟨e, h1, h2.rqL hq⟩
theorem LStep.rqR (hq : RQ r' r'') (h : LStep lg r lg' r') : LStep lg r lg' r'' := by
 rcases h with ⟨h1, h2⟩ | ⟨e, h1, h2⟩
 · exact Or.inl ⟨h1, h2.trans hq⟩
 · exact Or.inr ⟨e, h1, h2.rqR hq⟩
theorem LStep.len (h : LStep lg r lg' r') : lg.length ≤ lg'.length := by
 rcases h with ⟨rfl, _⟩ | ⟨e, rfl, _⟩
 · exact Nat.le_refl _
 · rw [List.length_append]
   omega
theorem LStep.pre (h : LStep lg r lg' r') : ∃ t, lg' = lg ++ t := by
 rcases h with ⟨rfl, _⟩ | ⟨e, rfl, _⟩
 · exact ⟨[], by simp⟩
 · exact ⟨e, rfl⟩
end
structure PCh (d : Int) (n : Nat) (C : List (List UInt8 × RSto)) : Prop where
 hd : 1 ≤ d ∧ d ≤ 999
 hn : 1 ≤ n ∧ n ≤ 16
 first : ∃ r, C[0]? = some (entN d n, r) ∧ RQ (RSto.fresh d n 16) r
 next : ∀ (j : Nat) (x y : List UInt8 × RSto), C[j]? = some x → C[j + 1]? = some y → LStep x.1 x.2 y.1 y.2
theorem getElem?_app {α : Type} {l : List α} {a : List α} {i : Nat} {x : α} (h : l[i]? = some x) : (l ++ a)[i]? = some x := by
 rw [List.getElem?_append_left (List.getElem?_eq_some_iff.1 h).1]
 exact h
section
variable {d : Int} {n : Nat} {C : List (List UInt8 × RSto)}
theorem PCh.pre (h : PCh d n C) (i : Nat) : ∀ (k : Nat) (x y : List UInt8 × RSto), C[i]? = some x → C[i + k]? = some y → ∃ t, y.1 = x.1 ++ t
 | 0, x, y, hx, hy => by
  rw [Nat.add_zero, hx] at hy
  cases hy
  exact ⟨[], by simp⟩
 | k + 1, x, y, hx, hy => by
  have hl : i + k < C.length := by have := (List.getElem?_eq_some_iff.1 hy).1; omega
  obtain ⟨z, hz⟩ : ∃ z, C[i + k]? = some z := ⟨_, List.getElem?_eq_getElem hl⟩
  obtain ⟨t, ht⟩ := h.pre i k x z hx hz
  obtain ⟨e, he⟩ := (h.next (i + k) z y hz hy).pre
  exact ⟨t ++ e, by rw [he, ht, List.append_assoc]⟩
theorem PCh.mono (h : PCh d n C) {i j : Nat} {x y : List UInt8 × RSto} (hij : i ≤ j) (hx : C[i]? = some x) (hy : C[j]? = some y) : x.1.length ≤ y.1.length := by
 obtain ⟨t, ht⟩ := h.pre i (j - i) x y hx (by rw [show i + (j - i) = j by omega]; exact hy)
 rw [ht, List.length_append]
 omega
theorem PCh.pos (h : PCh d n C) : 0 < C.length := by
 obtain ⟨r, h1, _⟩ := h.first
 exact (List.getElem?_eq_some_iff.1 h1).1
theorem PCh.take (h : PCh d n C) (k : Nat) : PCh d n (C.take (k + 1)) := by
 refine ⟨h.hd, h.hn, ?_, fun j x y hx hy => ?_⟩
 · obtain ⟨r, h1, h2⟩ := h.first
   exact ⟨r, by rw [List.getElem?_take_of_lt (by omega)]; exact h1, h2⟩
 · have h1 := (List.getElem?_eq_some_iff.1 hy).1
   rw [List.length_take] at h1
   rw [List.getElem?_take_of_lt (by omega)] at hx hy
   exact h.next j x y hx hy
theorem PCh.snoc (h : PCh d n C) {z y : List UInt8 × RSto} (hz : C[C.length - 1]? = some z) (hs : LStep z.1 z.2 y.1 y.2) : PCh d n (C ++ [y]) := by
 have h0 := h.pos
 refine ⟨h.hd, h.hn, ?_, fun j a b ha hb => ?_⟩
 · obtain ⟨r, h1, h2⟩ := h.first
   exact ⟨r, getElem?_app h1, h2⟩
 · have h1 := (List.getElem?_eq_some_iff.1 hb).1
   rw [List.length_append, List.length_singleton] at h1
   rw [List.getElem?_append_left (by omega)] at ha
   by_cases hj : j + 1 < C.length
   · rw [List.getElem?_append_left hj] at hb
     exact h.next j a b ha hb
   · have e : j = C.length - 1 := by omega
     subst e
     rw [hz] at ha
     cases ha
     rw [List.getElem?_append_right (by omega), show C.length - 1 + 1 - C.length = 0 by omega] at hb
     simp at hb
     rw [← hb]
     exact hs
theorem PCh.one {d : Int} {n : Nat} (hd : 1 ≤ d ∧ d ≤ 999) (hn : 1 ≤ n ∧ n ≤ 16) {r : RSto} (hr : RQ (RSto.fresh d n 16) r) : PCh d n [(entN d n, r)] :=
 ⟨hd, hn, ⟨r, rfl, hr⟩, fun j x y hx hy => by simp at hy⟩
structure Ded (d : Int) (n : Nat) (C C' : List (List UInt8 × RSto)) : Prop where
 chn : Chn d n C'
 len : C'.length ≤ C.length
 last : ∃ z z', C[C.length - 1]? = some z ∧ C'[C'.length - 1]? = some z' ∧ z'.1 = z.1 ∧ RQ z'.2 z.2
 at' : ∀ (c i : Nat) (x : List UInt8 × RSto), C[i]? = some x → x.1.length ≤ c → (∀ y, C[i + 1]? = some y → c < y.1.length) → ∃ j x', C'[j]? = some x' ∧ x'.1 = x.1 ∧ RQ x'.2 x.2 ∧ (∀ y, C'[j + 1]? = some y → c < y.1.length)
theorem Chn.pos (h : Chn d n C) : 0 < C.length := by
 obtain ⟨r, h1, _⟩ := h.first
 exact (List.getElem?_eq_some_iff.1 h1).1
theorem Chn.snoc (h : Chn d n C) {z y : List UInt8 × RSto} (hz : C[C.length - 1]? = some z) {e : List UInt8} (he : y.1 = z.1 ++ e) (hs : Redo e z.2 y.2) : Chn d n (C ++ [y]) := by
 have h0 := h.pos
 refine ⟨h.hd, h.hn, ?_, fun j a b ha hb => ?_⟩
 · obtain ⟨r, h1, h2⟩ := h.first
   exact ⟨r, getElem?_app h1, h2⟩
 · have h1 := (List.getElem?_eq_some_iff.1 hb).1
   rw [List.length_append, List.length_singleton] at h1
   rw [List.getElem?_append_left (by omega)] at ha
   by_cases hj : j + 1 < C.length
   · rw [List.getElem?_append_left hj] at hb
     exact h.next j a b ha hb
   · have e' : j = C.length - 1 := by omega
     subst e'
     rw [hz] at ha
     cases ha
     rw [List.getElem?_append_right (by omega), show C.length - 1 + 1 - C.length = 0 by omega] at hb
     simp at hb
     rw [← hb]
     exact ⟨e, he, hs⟩
theorem PCh.ded1 (h : PCh d n C) (h1 : C.length = 1) : ∃ C', Ded d n C C' := by
 obtain ⟨r, h2, h3⟩ := h.first
 refine ⟨C, ⟨⟨h.hd, h.hn, ⟨r, h2, h3⟩, fun j x y hx hy => ?_⟩, Nat.le_refl _, ⟨_, _, by rw [h1]; exact h2, by rw [h1]; exact h2, rfl, RQ.refl _⟩, fun c i x hx hc hy => ⟨i, x, hx, rfl, RQ.refl _, hy⟩⟩⟩
 have := (List.getElem?_eq_some_iff.1 hy).1
 omega
theorem PCh.dedS {y : List UInt8 × RSto} (hp : PCh d n (C ++ [y])) (h0 : 0 < C.length) {C' : List (List UInt8 × RSto)} (h : Ded d n C C') : ∃ C'', Ded d n (C ++ [y]) C'' := by
 obtain ⟨z, z', hz, hz', e1, e2⟩ := h.last
 have h0' := h.chn.pos
 have hy0 : (C ++ [y])[C.length]? = some y := by simp
 have hst := hp.next (C.length - 1) z y (getElem?_app hz) (by rw [show C.length - 1 + 1 = C.length by omega]; exact hy0)
 have hlast : (C ++ [y])[(C ++ [y]).length - 1]? = some y := by rw [List.length_append, List.length_singleton, Nat.add_sub_cancel]; exact hy0
 have hup : ∀ {k : Nat} {u : List UInt8 × RSto}, k < C.length → ((C ++ [y])[k]? = some u ↔ C[k]? = some u) := fun {k u} hk => by rw [List.getElem?_append_left hk]
 rcases hst with ⟨s1, s2⟩ | ⟨e, s1, s2⟩
 · refine ⟨C', ⟨h.chn, by rw [List.length_append]; have := h.len; omega, ⟨y, z', hlast, hz', by rw [s1]; exact e1, e2.trans s2⟩, fun c i x hx hc hn => ?_⟩⟩
   have hi := (List.getElem?_eq_some_iff.1 hx).1
   rw [List.length_append, List.length_singleton] at hi
   by_cases hi1 : i + 1 < C.length
   · rw [hup (by omega)] at hx
     exact h.at' c i x hx hc (fun u hu => hn u ((hup hi1).2 hu))
   · by_cases hi2 : i + 1 = C.length
     · have := hn y (by rw [hi2]; exact hy0)
       rw [hup (by omega), show i = C.length - 1 by omega, hz] at hx
       cases hx
       rw [s1] at this
       omega
     · have e3 : i = C.length := by omega
       subst e3
       rw [hy0] at hx
       cases hx
       refine ⟨C'.length - 1, z', hz', by rw [s1]; exact e1, e2.trans s2, fun u hu => ?_⟩
       have := (List.getElem?_eq_some_iff.1 hu).1
       omega
 · have hz0' : (C' ++ [y])[C'.length]? = some y := by simp
   refine ⟨C' ++ [y], ⟨h.chn.snoc hz' (by rw [e1]; exact s1) (s2.rqL e2), by rw [List.length_append, List.length_append]; have := h.len; omega, ⟨y, y, hlast, by rw [List.length_append, List.length_singleton, Nat.add_sub_cancel]; exact hz0', rfl, RQ.refl _⟩, fun c i x hx hc hn => ?_⟩⟩
   have hi := (List.getElem?_eq_some_iff.1 hx).1
   rw [List.length_append, List.length_singleton] at hi
   by_cases hi1 : i + 1 < C.length
   · have hx' := hx
     rw [hup (by omega)] at hx
     obtain ⟨j, x', g1, g2, g3, g4⟩ := h.at' c i x hx hc (fun u hu => hn u ((hup hi1).2 hu))
     refine ⟨j, x', getElem?_app g1, g2, g3, fun u hu => ?_⟩
     have hjl := (List.getElem?_eq_some_iff.1 g1).1
     by_cases hj : j + 1 < C'.length
     · rw [List.getElem?_append_left hj] at hu
       exact g4 u hu
     · exfalso
       rw [show j = C'.length - 1 by omega, hz'] at g1
       cases g1
       obtain ⟨v, hv⟩ : ∃ v, (C ++ [y])[i + 1]? = some v := ⟨_, List.getElem?_eq_getElem (by rw [List.length_append]; omega)⟩
       have h5 := hn v hv
       have h6 := hp.mono (i := i + 1) (j := C.length - 1) (by omega) hv (getElem?_app hz)
       rw [← g2, e1] at hc
       omega
   · by_cases hi2 : i + 1 = C.length
     · have h5 := hn y (by rw [hi2]; exact hy0)
       rw [hup (by omega), show i = C.length - 1 by omega, hz] at hx
       cases hx
       refine ⟨C'.length - 1, z', getElem?_app hz', e1, e2, fun u hu => ?_⟩
       rw [show C'.length - 1 + 1 = C'.length by omega, hz0'] at hu
       cases hu
       exact h5
     · have e3 : i = C.length := by omega
       subst e3
       rw [hy0] at hx
       cases hx
       refine ⟨C'.length, y, hz0', rfl, RQ.refl _, fun u hu => ?_⟩
       have := (List.getElem?_eq_some_iff.1 hu).1
       rw [List.length_append, List.length_singleton] at this
       omega
theorem PCh.ded : ∀ (k : Nat) (C : List (List UInt8 × RSto)), C.length = k + 1 → PCh d n C → ∃ C', Ded d n C C'
 | 0, C, hk, h => h.ded1 hk
 | k + 1, C, hk, h => by
  obtain ⟨y, hy⟩ : ∃ y, C[k + 1]? = some y := ⟨_, List.getElem?_eq_getElem (by omega)⟩
  have e : C = C.take (k + 1) ++ [y] := by
   have h1 := List.take_append_getElem (l := C) (i := k + 1) (by omega)
   have h2 : C[k + 1] = y := (List.getElem?_eq_some_iff.1 hy).2
   rw [h2] at h1
   rw [h1]
   exact (List.take_of_length_le (by omega)).symm
  have hl : (C.take (k + 1)).length = k + 1 := by rw [List.length_take]; omega
  have hp := h.take k
  obtain ⟨C', hC'⟩ := PCh.ded k _ hl hp
  rw [e] at h
  have h9 := PCh.dedS h (by omega) hC'
  rw [← e] at h9
  exact h9
end
set_option maxRecDepth 100000 in
theorem open_points (d : Int) (n : Nat) (C : List (List UInt8 × RSto)) (hC : PCh d n C) (hCl : C.length ≤ 2000000) (z : List UInt8 × RSto) (hz : C[C.length - 1]? = some z) (c i : Nat) (hc : c ≤ 1000000000) (x : List UInt8 × RSto) (hx : C[i]? = some x) (hxc : x.1.length ≤ c) (hny : ∀ y, C[i + 1]? = some y → c < y.1.length) (w : World) :
  Calls Tryz.prog 20 #[.string (ofL (z.1.take c))] w fun e w' => ∃ b s q, q < C.length ∧ e = .returned (.tuple #[.pointer (some ⟨b, 0, none⟩), .int .i64 0]) ∧ Rep w.heap.size w' b 0 s ∧ Sim s x.2 q ∧ s.log = x.1 ∧ Fr [] w w' := by
 have h0 := hC.pos
 obtain ⟨C', h⟩ := hC.ded (C.length - 1) C (by omega)
 obtain ⟨u, u', hu, hu', e1, _⟩ := h.last
 rw [hz] at hu
 cases hu
 obtain ⟨j, x', g1, g2, g3, g4⟩ := h.at' c i x hx hxc hny
 have h9 := open_chain d n C' h.chn (by have := h.len; omega) u' hu' c j hc x' g1 (by rw [g2]; exact hxc) g4 w
 rw [e1] at h9
 refine h9.mono ?_
 rintro e w' ⟨b, s, he, rp, m, hl, f⟩
 have hj := (List.getElem?_eq_some_iff.1 g1).1
 exact ⟨b, s, j, by have := h.len; omega, he, rp, m.rq g3, hl.trans g2, f⟩
end Go.Proofs.YthdhegmlknpllaaGreat
