import Derived.Test.YthdhegmlknpllabGreatDoorM37
import Derived.Test.YthdhegmlknpllabGreatDoorM40
/-
  Pure: a source, its replicas and the letters between them: what always holds; and what comes of it where every letter comes at once.
-/
namespace Go.Proofs.YthdhegmlknpllabGreatDoor
open Go.RowKit Go.Maps Go.MuLone

/-- A snapshot as it was on the source. -/
structure Img where
  time : Int
  blk : List B4
def imOf (im : List Img) (g : Int) : Img := im.getD (g - 1000001).toNat ⟨0, []⟩
def tI (im : List Img) (g : Int) : Int := (imOf im g).time
def bI (im : List Img) (g : Int) (j : Nat) : B4 := (imOf im g).blk.getD j B4.zero
def Gv (N : Nat) (g : Int) : Prop := 1000001 ≤ g ∧ g ≤ 1000000 + (N : Int)
theorem Gv.up {N : Nat} {g : Int} (h : Gv N g) : Gv (N + 1) g := ⟨h.1, by have := h.2; omega⟩
theorem imOf_app {im : List Img} {g : Int} (y : Img) (h : Gv im.length g) : imOf (im ++ [y]) g = imOf im g := by
  obtain ⟨h1, h2⟩ := h
  unfold imOf
  rw [List.getD_eq_getElem?_getD, List.getD_eq_getElem?_getD, List.getElem?_append_left (by omega)]
theorem imOf_new (im : List Img) (y : Img) : imOf (im ++ [y]) (1000001 + (im.length : Int)) = y := by
  unfold imOf
  have e : ((1000001 + (im.length : Int)) - 1000001).toNat = im.length := by omega
  rw [e]
  simp
theorem tI_app {im : List Img} {g : Int} (y : Img) (h : Gv im.length g) : tI (im ++ [y]) g = tI im g := by unfold tI; rw [imOf_app y h]
theorem bI_app {im : List Img} {g : Int} (y : Img) (j : Nat) (h : Gv im.length g) : bI (im ++ [y]) g j = bI im g j := by unfold bI; rw [imOf_app y h]
/-- The guid of the one that came last of so many. -/
def nwG (N : Nat) : Int := if N = 0 then 0 else 1000000 + (N : Int)

/-- A letter. -/
abbrev Lt : Type := Sum Int (Sum (Int × Int × Int × Int × List (Int × B4)) (Sum (Int × Int) (Int × Int)))
abbrev Lt.ask (num : Int) : Lt := Sum.inl num
abbrev Lt.data (num f t m : Int) (l : List (Int × B4)) : Lt := Sum.inr (Sum.inl (num, f, t, m, l))
abbrev Lt.has (num g : Int) : Lt := Sum.inr (Sum.inr (Sum.inl (num, g)))
abbrev Lt.got (num g : Int) : Lt := Sum.inr (Sum.inr (Sum.inr (num, g)))
theorem Lt.cs {P : Lt → Prop} (ask : ∀ num, P (Lt.ask num)) (data : ∀ num f t m l, P (Lt.data num f t m l)) (has : ∀ num g, P (Lt.has num g)) (got : ∀ num g, P (Lt.got num g)) (l : Lt) : P l := by
  rcases l with a | ⟨a, b, c, d, e⟩ | ⟨a, b⟩ | ⟨a, b⟩
  · exact ask a
  · exact data a b c d e
  · exact has a b
  · exact got a b

/-- How many peers were sent this. -/
def cX (ps : List Pe) (g : Int) : Int := ((ps.map Pe.x).count g : Nat)

/-- The source's store. -/
structure SrcOk (S : Sto) (n : Nat) (im : List Img) (ps : List Pe) : Prop where
  id : S.id = 1
  vol : S.vol.length = n
  cm : S.came = im.length
  tk : S.taken = im.length
  ib : ∀ i ∈ im, i.blk.length = n ∧ 0 ≤ i.time ∧ i.time ≤ 1073741824
  len : S.ss.length ≤ 12
  srt : S.ss.Pairwise fun x y => x.guid < y.guid
  sn : ∀ x ∈ S.ss, Gv im.length x.guid ∧ x.came = x.guid - 1000000 ∧ x.time = tI im x.guid
  lst : lastG S.ss = nwG im.length
  ho : ∀ x ∈ S.ss, x.holds = cX ps x.guid
  mkk : S.ms.Pairwise fun a b => a.2 < b.2
  ms : ∀ m ∈ S.ms, Gv im.length m.1 ∧ m.2 = m.1 - 1000000 ∧ m.1 ∈ ps.map Pe.k
  v0 : ∀ j, j < n → 0 ≤ (S.vol.getD j Ct.zero).n
  v1 : ∀ g j, Gv im.length g → j < n → (S.vol.getD j Ct.zero).n < g - 1000000 → (S.vol.getD j Ct.zero).x = bI im g j
  t0 : ∀ x ∈ S.ss, ∀ j : Nat, j < n → (S.th x.guid j).x = bI im x.guid j ∧ 0 ≤ (S.th x.guid j).n
  t1 : ∀ x ∈ S.ss, ∀ g (j : Nat), Gv im.length g → g < x.guid → j < n → (S.th x.guid j).n < g - 1000000 → bI im x.guid j = bI im g j

/-- What is remembered of a replica whose last snapshot is r. -/
structure PeOk (S : Sto) (N : Nat) (p : Pe) (r T : Int) (q : Nat) : Prop where
  k : p.k = 0 ∨ (Gv N p.k ∧ ∃ m ∈ S.ms, m.1 = p.k)
  x : p.x = 0 ∨ ((∃ y ∈ S.ss, y.guid = p.x) ∧ p.k < p.x)
  g : p.g = 0
  num : 0 ≤ p.num ∧ p.num ≤ q
  tr : 0 ≤ p.tr ∧ p.tr ≤ q
  aw : p.aw = 0 ∨ p.aw = 65 ∨ p.aw = 68
  un : p.aw ≠ 0 → p.un ≤ T
  rr : r = p.k ∨ (p.x ≠ 0 ∧ r = p.x)

/-- A replica's store. -/
structure RepOk (R : Sto) (n : Nat) (im : List Img) (q : Nat) : Prop where
  rp : RP R n q
  up : ∀ x ∈ R.ss, x.guid ≤ lastG R.ss
  ri : ∀ x ∈ R.ss, Gv im.length x.guid ∧ x.time = tI im x.guid ∧ ∀ j : Nat, j < n → (R.th x.guid j).x = bI im x.guid j

/-- A stream from f to t. -/
structure Dok (n : Nat) (im : List Img) (f t m : Int) (l : List (Int × B4)) : Prop where
  may : MayB f t m n l
  hf : f = 0 ∨ Gv im.length f
  ht : Gv im.length t
  lt : f < t
  hm : m = tI im t
  ct : ∀ s : Sto, s.vol.length = n → (f ≠ 0 → ∀ j : Nat, j < n → (s.th f j).x = bI im f j) → ∀ j : Nat, j < n → ((rvol s f l).getD j Ct.zero).x = bI im t j

/-- A letter on its way. -/
def LtOk (n : Nat) (im : List Img) (p : Pe) (r : Int) : Lt → Prop
  | .inl num => 0 ≤ num ∧ num ≤ p.num
  | .inr (.inl (num, f, t, m, l)) => (0 ≤ num ∧ num ≤ p.num) ∧ Dok n im f t m l ∧ ((f = p.k ∧ t = p.x) ∨ t ≤ p.k)
  | .inr (.inr (.inl (num, g))) => (0 ≤ num ∧ num ≤ p.num) ∧ 0 ≤ g ∧ g ≤ r ∧ (num = p.num → p.aw = 65 → g = p.k ∨ (p.x ≠ 0 ∧ g = p.x))
  | .inr (.inr (.inr (num, g))) => (0 ≤ num ∧ num ≤ p.num) ∧ 1 ≤ g ∧ g ≤ r

/-- The source, its replicas, the letters. -/
structure NInv (n : Nat) (S : Sto) (ps : List Pe) (im : List Img) (Rs : List Sto) (way : List (Nat × Lt)) (T : Int) (q : Nat) : Prop where
  n1 : 1 ≤ n ∧ n ≤ 4
  src : SrcOk S n im ps
  pl : ps.length ≤ 3
  rl : Rs.length = ps.length
  pe : ∀ (i : Nat) (p : Pe) (R : Sto), ps[i]? = some p → Rs[i]? = some R → PeOk S im.length p (lastG R.ss) T q
  re : ∀ R ∈ Rs, RepOk R n im q
  wy : ∀ m ∈ way, ∃ (p : Pe) (R : Sto), ps[m.1]? = some p ∧ Rs[m.1]? = some R ∧ LtOk n im p (lastG R.ss) m.2
  lg : S.log.length ≤ 1000 * q
  cn : S.cnt ≤ 16 * q
  wl : way.length ≤ 4 * q
  nq : im.length ≤ q

theorem RP.le {s : Sto} {n q q' : Nat} (h : RP s n q) (hq : q ≤ q') : RP s n q' :=
  ⟨h.vol, h.len, h.nd, h.gs, h.tm, h.ho, h.ms, by have := h.cm; omega, by have := h.cnt; omega, by have := h.lg; omega⟩
theorem RepOk.le {R : Sto} {n : Nat} {im : List Img} {q q' : Nat} (h : RepOk R n im q) (hq : q ≤ q') : RepOk R n im q' := ⟨h.rp.le hq, h.up, h.ri⟩
theorem PeOk.le {S : Sto} {N : Nat} {p : Pe} {r T T' : Int} {q q' : Nat} (h : PeOk S N p r T q) (hq : q ≤ q') (hT : T ≤ T') : PeOk S N p r T' q' :=
  ⟨h.k, h.x, h.g, by have := h.num; omega, by have := h.tr; omega, h.aw, fun e => by have := h.un e; omega, h.rr⟩
theorem PeOk.kr {S : Sto} {N : Nat} {p : Pe} {r T : Int} {q : Nat} (h : PeOk S N p r T q) : p.k ≤ r := by
  rcases h.rr with e | ⟨e, e2⟩
  · omega
  · rcases h.x with h1 | ⟨_, h1⟩
    · exact absurd h1 e
    · omega

section
variable {n : Nat} {S S' : Sto} {ps : List Pe} {im : List Img} {Rs : List Sto} {way way' : List (Nat × Lt)} {T : Int} {q : Nat}

/-- Letters may be lost. -/
theorem NInv.sub (h : NInv n S ps im Rs way T q) (hs : ∀ m ∈ way', m ∈ way) (hl : way'.length ≤ way.length) : NInv n S ps im Rs way' T q :=
  ⟨h.n1, h.src, h.pl, h.rl, h.pe, h.re, fun m hm => h.wy m (hs m hm), h.lg, h.cn, by have := h.wl; omega, h.nq⟩
theorem NInv.le (h : NInv n S ps im Rs way T q) {T' : Int} {q' : Nat} (hq : q ≤ q') (hT : T ≤ T') : NInv n S ps im Rs way T' q' :=
  ⟨h.n1, h.src, h.pl, h.rl, fun i p R h1 h2 => (h.pe i p R h1 h2).le hq hT, fun R hR => (h.re R hR).le hq, h.wy, by have := h.lg; omega, by have := h.cn; omega, by have := h.wl; omega, by have := h.nq; omega⟩

/-- What of a store SrcOk speaks of. -/
structure SEq (S S' : Sto) : Prop where
  id : S'.id = S.id
  vol : S'.vol = S.vol
  ss : S'.ss = S.ss
  th : S'.th = S.th
  ms : S'.ms = S.ms
  cm : S'.came = S.came
  tk : S'.taken = S.taken
theorem SrcOk.eq (h : SrcOk S n im ps) (e : SEq S S') : SrcOk S' n im ps := by
  obtain ⟨e1, e2, e3, e4, e5, e6, e7⟩ := e
  refine ⟨?_, ?_, ?_, ?_, h.ib, ?_, ?_, ?_, ?_, ?_, ?_, ?_, ?_, ?_, ?_, ?_⟩
  · rw [e1]; exact h.id
  · rw [e2]; exact h.vol
  · rw [e6]; exact h.cm
  · rw [e7]; exact h.tk
  · rw [e3]; exact h.len
  · rw [e3]; exact h.srt
  · rw [e3]; exact h.sn
  · rw [e3]; exact h.lst
  · rw [e3]; exact h.ho
  · rw [e5]; exact h.mkk
  · rw [e5]; exact h.ms
  · rw [e2]; exact h.v0
  · rw [e2]; exact h.v1
  · rw [e3, e4]; exact h.t0
  · rw [e3, e4]; exact h.t1
theorem PeOk.eq {N : Nat} {p : Pe} {r : Int} (h : PeOk S N p r T q) (hss : S'.ss = S.ss) (hms : S'.ms = S.ms) : PeOk S' N p r T q :=
  ⟨by rw [hms]; exact h.k, by rw [hss]; exact h.x, h.g, h.num, h.tr, h.aw, h.un, h.rr⟩

/-- A block is written. -/
theorem NInv.write (h : NInv n S ps im Rs way T q) (j : Nat) (x : B4) (c : UInt8) (t : ByteArray) (lv : Value) (ht : t.size ≤ 900) : NInv n ((S.write j x).noted c t lv) ps im Rs way T (q + 1) := by
  have s := h.src
  have hvol : ∀ i, ((S.write j x).noted c t lv).vol.getD i Ct.zero = S.vol.getD i Ct.zero ∨ (((S.write j x).noted c t lv).vol.getD i Ct.zero).n = im.length := fun i => by
    show (S.vol.set j ⟨x, S.came⟩).getD i Ct.zero = _ ∨ ((S.vol.set j ⟨x, S.came⟩).getD i Ct.zero).n = _
    rw [List.getD_eq_getElem?_getD, List.getD_eq_getElem?_getD, List.getElem?_set]
    by_cases hij : j = i
    · subst hij
      by_cases hl : j < S.vol.length
      · right
        simp [hl, s.cm]
      · left
        simp [hl]
    · left
      simp [hij]
  refine ⟨h.n1, ⟨s.id, by show (S.vol.set j _).length = n; rw [List.length_set]; exact s.vol, s.cm, s.tk, s.ib, s.len, s.srt, s.sn, s.lst, s.ho, s.mkk, s.ms, ?_, ?_, s.t0, s.t1⟩, h.pl, h.rl, fun i p R h1 h2 => ((h.pe i p R h1 h2).le (by omega) (Int.le_refl _)).eq rfl rfl, fun R hR => (h.re R hR).le (by omega), h.wy, ?_, by show S.cnt ≤ _; have := h.cn; omega, by have := h.wl; omega, by have := h.nq; omega⟩
  · intro i hi
    rcases hvol i with e | e
    · rw [e]; exact s.v0 i hi
    · rw [e]; omega
  · intro g i hg hi hlt
    rcases hvol i with e | e
    · rw [e] at hlt ⊢; exact s.v1 g i hg hi hlt
    · rw [e] at hlt; have := hg.2; omega
  · show (S.log ++ entry c t).length ≤ _
    have := h.lg
    rw [List.length_append]
    have e : (entry c t).length = t.size + 2 := by simp [entry]
    omega
end

section
variable {n : Nat} {S S' : Sto} {ps : List Pe} {im : List Img} {Rs : List Sto} {way way' : List (Nat × Lt)} {T : Int} {q : Nat}

theorem mem_left {ss : List Sn} {Z : List Int} {x : Sn} : x ∈ left ss Z ↔ x ∈ ss ∧ x.guid ∉ Z := by
  unfold left
  rw [List.mem_filter]
  simp only [isG, Bool.not_eq_true', List.any_eq_false, beq_iff_eq]
  constructor
  · rintro ⟨h1, h2⟩
    exact ⟨h1, fun hm => h2 _ hm rfl⟩
  · rintro ⟨h1, h2⟩
    exact ⟨h1, fun z hz e => h2 (e ▸ hz)⟩
theorem lastG_app (l : List Sn) (x : Sn) : lastG (l ++ [x]) = x.guid := by simp [lastG]
theorem lastG_mem {l : List Sn} (h : lastG l ≠ 0) : ∃ x ∈ l, x.guid = lastG l := by
  rcases List.eq_nil_or_concat l with rfl | ⟨l', x, rfl⟩
  · exact absurd rfl h
  · exact ⟨x, by simp, (by simp [lastG])⟩
theorem split_last {l : List Sn} (h : l ≠ []) : ∃ x, l = l.take (l.length - 1) ++ [x] := by
  rcases List.eq_nil_or_concat l with rfl | ⟨l', x, rfl⟩
  · exact absurd rfl h
  · exact ⟨x, by simp⟩

theorem SrcOk.nd (s : SrcOk S n im ps) : (S.ss.map Sn.guid).Nodup := by
  rw [List.Nodup, List.pairwise_map]
  exact s.srt.imp (fun h => by omega)
theorem SrcOk.le_last (s : SrcOk S n im ps) {g : Int} (h : Gv im.length g) : g ≤ lastG S.ss := by
  rw [s.lst]
  unfold nwG
  obtain ⟨h1, h2⟩ := h
  split <;> omega
theorem NInv.peer_of (h : NInv n S ps im Rs way T q) {p : Pe} (hp : p ∈ ps) : ∃ (i : Nat) (R : Sto), ps[i]? = some p ∧ Rs[i]? = some R ∧ PeOk S im.length p (lastG R.ss) T q := by
  obtain ⟨i, hi, e⟩ := List.getElem_of_mem hp
  have h1 : ps[i]? = some p := by rw [List.getElem?_eq_getElem hi, e]
  have h2 : Rs[i]? = some (Rs[i]'(by rw [h.rl]; exact hi)) := List.getElem?_eq_getElem _
  exact ⟨i, _, h1, h2, h.pe i p _ h1 h2⟩
theorem cX_pos {p : Pe} {g : Int} (hp : p ∈ ps) (e : p.x = g) : 0 < cX ps g := by
  unfold cX
  have : 0 < (ps.map Pe.x).count g := List.count_pos_iff.2 (List.mem_map.2 ⟨p, hp, e⟩)
  omega

/-- Some that are not held, and not the last, are gone. -/
theorem NInv.thin (h : NInv n S ps im Rs way T q) {b N : Nat} {Z : List Int} (ht : Thn b S S' Z N) (hz : ∀ z ∈ Z, ∃ x ∈ S.ss.take (S.ss.length - 1), x.guid = z) (hl : Z.length ≤ 13) : NInv n S' ps im Rs way T (q + 1) := by
  have s := h.src
  have hsub : ∀ x ∈ S'.ss, x ∈ S.ss ∧ x.guid ∉ Z := fun x hx => by rw [ht.ss] at hx; exact mem_left.1 hx
  have hlast : lastG S'.ss = lastG S.ss := by
    rw [ht.ss]
    by_cases he : S.ss = []
    · rw [he]; rfl
    · obtain ⟨y, hy⟩ := split_last he
      have hsrt := s.srt
      obtain ⟨A, hA⟩ : ∃ A, S.ss.take (S.ss.length - 1) = A := ⟨_, rfl⟩
      rw [hA] at hy hz
      rw [hy] at hsrt ⊢
      rw [List.pairwise_append] at hsrt
      have hyz : y.guid ∉ Z := fun hm => by
        obtain ⟨x, hx, e⟩ := hz _ hm
        have := hsrt.2.2 x hx y (by simp)
        omega
      have e : left (A ++ [y]) Z = left A Z ++ [y] := by
        unfold left
        rw [List.filter_append]
        congr 1
        rw [List.filter_eq_self]
        intro x hx
        simp at hx
        subst hx
        simp only [isG, Bool.not_eq_true', List.any_eq_false, beq_iff_eq]
        intro z hz' e
        exact hyz (e ▸ hz')
      rw [e, lastG_app, lastG_app]
  have hth : ∀ x ∈ S'.ss, ∀ i, S'.th x.guid i = S.th x.guid i := fun x hx i => ht.th _ _ (hsub x hx).2
  have hlen : S'.ss.length ≤ S.ss.length := by rw [ht.ss]; unfold left; exact List.length_filter_le _ _
  refine ⟨h.n1, ⟨?_, ?_, ?_, ?_, s.ib, by have := s.len; omega, ?_, fun x hx => s.sn x (hsub x hx).1, by rw [hlast]; exact s.lst, fun x hx => s.ho x (hsub x hx).1, ?_, ?_, ?_, ?_, ?_, ?_⟩, h.pl, h.rl, ?_, fun R hR => (h.re R hR).le (by omega), h.wy, ?_, ?_, by have := h.wl; omega, by have := h.nq; omega⟩
  · rw [ht.id]; exact s.id
  · rw [ht.vol]; exact s.vol
  · rw [ht.cm]; exact s.cm
  · rw [ht.tk]; exact s.tk
  · rw [ht.ss]; unfold left; exact s.srt.filter _
  · rw [ht.ms]; exact s.mkk
  · rw [ht.ms]; exact s.ms
  · rw [ht.vol]; exact s.v0
  · rw [ht.vol]; exact s.v1
  · intro x hx j hj
    rw [hth x hx]
    exact s.t0 x (hsub x hx).1 j hj
  · intro x hx g j hg hlt hj
    rw [hth x hx]
    exact s.t1 x (hsub x hx).1 g j hg hlt hj
  · intro i p R h1 h2
    have o := (h.pe i p R h1 h2).le (show q ≤ q + 1 by omega) (Int.le_refl T)
    refine ⟨by rw [ht.ms]; exact o.k, ?_, o.g, o.num, o.tr, o.aw, o.un, o.rr⟩
    rcases o.x with e | ⟨⟨y, hy, e⟩, e2⟩
    · exact Or.inl e
    · refine Or.inr ⟨⟨y, ?_, e⟩, e2⟩
      rw [ht.ss]
      refine mem_left.2 ⟨hy, fun hm => ht.free _ hm y hy rfl ?_⟩
      rw [s.ho y hy]
      exact cX_pos (List.mem_of_getElem? h1) e.symm
  · have := ht.lg
    have := h.lg
    omega
  · rw [ht.cnt]
    have := h.cn
    omega

/-- The next number is free. -/
theorem NInv.free (h : NInv n S ps im Rs way T q) : Free S := by
  have s := h.src
  have e : gu S (S.taken + 1) = 1000001 + (im.length : Int) := by unfold gu; rw [s.id, s.tk]; omega
  refine ⟨fun x hx => ?_, fun x hx => ?_⟩
  · rw [e]
    have := (s.sn x hx).1.2
    simp only [beq_eq_false_iff_ne, ne_eq]
    omega
  · rw [e]
    have := (s.ms x hx).1.2
    simp only [beq_eq_false_iff_ne, ne_eq]
    omega
theorem Dok.app {f t m : Int} {l : List (Int × B4)} (h : Dok n im f t m l) (y : Img) : Dok n (im ++ [y]) f t m l := by
  have hl : (im ++ [y]).length = im.length + 1 := by simp
  refine ⟨h.may, ?_, by rw [hl]; exact h.ht.up, h.lt, by rw [tI_app y h.ht]; exact h.hm, fun s hs hf j hj => ?_⟩
  · rcases h.hf with e | e
    · exact Or.inl e
    · exact Or.inr (by rw [hl]; exact e.up)
  · rw [bI_app y j h.ht]
    refine h.ct s hs (fun hf0 i hi => ?_) j hj
    rw [hf hf0 i hi]
    rcases h.hf with e | e
    · exact absurd e hf0
    · exact bI_app y i e
theorem LtOk.app {p : Pe} {r : Int} (y : Img) : ∀ {l : Lt}, LtOk n im p r l → LtOk n (im ++ [y]) p r l
  | .inl _, h => h
  | .inr (.inl (_, _, _, _, _)), h => ⟨h.1, h.2.1.app y, h.2.2⟩
  | .inr (.inr (.inl (_, _))), h => h
  | .inr (.inr (.inr (_, _))), h => h
theorem RepOk.app {R : Sto} (h : RepOk R n im q) (y : Img) : RepOk R n (im ++ [y]) q := by
  have hl : (im ++ [y]).length = im.length + 1 := by simp
  refine ⟨h.rp, h.up, fun x hx => ?_⟩
  obtain ⟨h1, h2, h3⟩ := h.ri x hx
  exact ⟨by rw [hl]; exact h1.up, by rw [tI_app y h1]; exact h2, fun j hj => by rw [bI_app y j h1]; exact h3 j hj⟩

/-- A snapshot is taken. -/
theorem NInv.snap (h : NInv n S ps im Rs way T q) (t : Int) (ht : 0 ≤ t ∧ t ≤ 1073741824) (hlen : S.ss.length < 12) (sv : Value) (c : UInt8) (tx : ByteArray) (lv : Value) (htx : tx.size ≤ 900) :
    NInv n ((S.snap t sv).noted c tx lv) ps (im ++ [⟨t, S.vol.map Ct.x⟩]) Rs way T (q + 1) := by
  have s := h.src
  have hl : (im ++ [(⟨t, S.vol.map Ct.x⟩ : Img)]).length = im.length + 1 := by simp
  obtain ⟨y, hy⟩ : ∃ y : Img, ⟨t, S.vol.map Ct.x⟩ = y := ⟨_, rfl⟩
  obtain ⟨S1, hS1⟩ : ∃ S1, (S.snap t sv).noted c tx lv = S1 := ⟨_, rfl⟩
  obtain ⟨G, hG⟩ : ∃ G, 1000001 + (im.length : Int) = G := ⟨_, rfl⟩
  have hgu : gu S (S.taken + 1) = G := by unfold gu; rw [s.id, s.tk]; omega
  have hss : S1.ss = S.ss ++ [⟨G, t, 0, S.came + 1⟩] := by rw [← hS1, ← hgu]; rfl
  have hvol : S1.vol = S.vol := by rw [← hS1]; rfl
  have hms : S1.ms = S.ms := by rw [← hS1]; rfl
  have hcm : S1.came = S.came + 1 := by rw [← hS1]; rfl
  have hth : ∀ g i, S1.th g i = if g = G ∧ 0 ≤ i ∧ i < S.vol.length then S.vol.getD i.toNat Ct.zero else S.th g i := fun g i => by rw [← hS1, ← hgu]; rfl
  have htG : ∀ j : Nat, j < n → S1.th G j = S.vol.getD j Ct.zero := fun j hj => by
    rw [hth, if_pos ⟨rfl, by omega, by rw [s.vol]; omega⟩]
    rfl
  have htO : ∀ g (j : Nat), Gv im.length g → S1.th g j = S.th g j := fun g j hg => by
    rw [hth, if_neg (fun h1 => by have := h1.1; have := hg.2; omega)]
  have hbG : ∀ j : Nat, bI (im ++ [y]) G j = (S.vol.getD j Ct.zero).x := fun j => by
    unfold bI
    rw [← hG, imOf_new, ← hy]
    show (S.vol.map Ct.x).getD j B4.zero = _
    rw [List.getD_eq_getElem?_getD, List.getD_eq_getElem?_getD, List.getElem?_map]
    cases S.vol[j]? <;> rfl
  have hpx : ∀ p ∈ ps, p.x ≠ G := fun p hp e => by
    obtain ⟨i, R, _, _, o⟩ := h.peer_of hp
    rcases o.x with e1 | ⟨⟨z, hz, e1⟩, _⟩
    · omega
    · have := (s.sn z hz).1.2
      omega
  rw [hS1, hy]
  have hl : (im ++ [y]).length = im.length + 1 := by simp
  have hGv : Gv (im ++ [y]).length G := by rw [hl]; exact ⟨by omega, by omega⟩
  have hsn : ∀ x ∈ S1.ss, (x ∈ S.ss ∧ Gv im.length x.guid) ∨ x = ⟨G, t, 0, S.came + 1⟩ := fun x hx => by
    rw [hss] at hx
    rcases List.mem_append.1 hx with h1 | h1
    · exact Or.inl ⟨h1, (s.sn x h1).1⟩
    · exact Or.inr (by simpa using h1)
  have hg2 : ∀ g, Gv (im ++ [y]).length g → Gv im.length g ∨ g = G := fun g hg => by
    rw [hl] at hg
    obtain ⟨h1, h2⟩ := hg
    by_cases h3 : g = G
    · exact Or.inr h3
    · exact Or.inl ⟨h1, by omega⟩
  refine ⟨h.n1, ⟨by rw [← hS1]; exact s.id, by rw [hvol]; exact s.vol, ?_, ?_, ?_, ?_, ?_, ?_, ?_, ?_, by rw [hms]; exact s.mkk, ?_, by rw [hvol]; exact s.v0, ?_, ?_, ?_⟩, h.pl, h.rl, ?_, fun R hR => ((h.re R hR).le (by omega)).app y, fun m hm => ?_, ?_, ?_, by have := h.wl; omega, by rw [hl]; have := h.nq; omega⟩
  · rw [hcm, hl, s.cm]; omega
  · rw [hl]
    have : S1.taken = S.taken + 1 := by rw [← hS1]; rfl
    rw [this, s.tk]; omega
  · intro i hi
    rcases List.mem_append.1 hi with h1 | h1
    · exact s.ib i h1
    · simp at h1
      rw [h1, ← hy]
      exact ⟨by simp [s.vol], ht.1, ht.2⟩
  · rw [hss]; simp; omega
  · rw [hss, List.pairwise_append]
    refine ⟨s.srt, by simp, fun a ha c hc => ?_⟩
    simp at hc
    subst hc
    have := (s.sn a ha).1.2
    show a.guid < G
    omega
  · intro x hx
    rcases hsn x hx with ⟨h1, h2⟩ | rfl
    · obtain ⟨a, b, c⟩ := s.sn x h1
      exact ⟨by rw [hl]; exact a.up, b, by rw [tI_app y h2]; exact c⟩
    · refine ⟨hGv, ?_, ?_⟩
      · show S.came + 1 = G - 1000000
        rw [s.cm]; omega
      · show t = tI (im ++ [y]) G
        unfold tI
        rw [← hG, imOf_new, ← hy]
  · rw [hss, lastG_app, hl]
    unfold nwG
    rw [if_neg (by omega)]
    show G = _
    omega
  · intro x hx
    rcases hsn x hx with ⟨h1, h2⟩ | rfl
    · exact s.ho x h1
    · show (0 : Int) = cX ps G
      unfold cX
      have : (ps.map Pe.x).count G = 0 := List.count_eq_zero.2 (fun hm => by
        obtain ⟨p, hp, e⟩ := List.mem_map.1 hm
        exact hpx p hp e)
      omega
  · intro m hm
    rw [hms] at hm
    obtain ⟨a, b, c⟩ := s.ms m hm
    exact ⟨by rw [hl]; exact a.up, b, c⟩
  · intro g j hg hj hlt
    rw [hvol] at hlt ⊢
    rcases hg2 g hg with h1 | rfl
    · rw [bI_app y j h1]; exact s.v1 g j h1 hj hlt
    · exact (hbG j).symm
  · intro x hx j hj
    rcases hsn x hx with ⟨h1, h2⟩ | rfl
    · rw [htO _ _ h2, bI_app y j h2]; exact s.t0 x h1 j hj
    · show (S1.th G j).x = bI _ G j ∧ 0 ≤ (S1.th G j).n
      rw [htG j hj, hbG j]
      exact ⟨rfl, s.v0 j hj⟩
  · intro x hx g j hg hlt hj hn
    rcases hsn x hx with ⟨h1, h2⟩ | rfl
    · have h3 : Gv im.length g := ⟨hg.1, by have := h2.2; omega⟩
      rw [htO _ _ h2] at hn
      rw [bI_app y j h2, bI_app y j h3]
      exact s.t1 x h1 g j h3 hlt hj hn
    · have hlt' : g < G := hlt
      have h3 : Gv im.length g := ⟨hg.1, by omega⟩
      have hn' : (S1.th G j).n < g - 1000000 := hn
      rw [htG j hj] at hn'
      show bI _ G j = _
      rw [hbG j, bI_app y j h3]
      exact s.v1 g j h3 hj hn'
  · intro i p R h1 h2
    have o := (h.pe i p R h1 h2).le (show q ≤ q + 1 by omega) (Int.le_refl T)
    refine ⟨?_, ?_, o.g, o.num, o.tr, o.aw, o.un, o.rr⟩
    · rw [hms, hl]
      exact o.k.imp_right (fun e => ⟨e.1.up, e.2⟩)
    · rw [hss]
      exact o.x.imp_right (fun ⟨⟨z, hz, e⟩, e2⟩ => ⟨⟨z, List.mem_append.2 (Or.inl hz), e⟩, e2⟩)
  · obtain ⟨p, R, h1, h2, h3⟩ := h.wy m hm
    exact ⟨p, R, h1, h2, h3.app y⟩
  · rw [← hS1]
    show (S.log ++ entry c tx).length ≤ _
    have := h.lg
    rw [List.length_append]
    have e : (entry c tx).length = tx.size + 2 := by simp [entry]
    omega
  · rw [← hS1]
    show S.cnt + S.vol.length ≤ _
    have := h.cn
    have := h.n1
    rw [s.vol]
    omega
end

section
variable {n : Nat} {S S' : Sto} {ps : List Pe} {im : List Img} {Rs : List Sto} {way way' : List (Nat × Lt)} {T : Int} {q : Nat}

theorem set_self {α : Type} : ∀ (l : List α) (i : Nat) (x : α), l[i]? = some x → l.set i x = l
  | [], _, _, h => by simp at h
  | y :: l, 0, x, h => by
    simp at h
    rw [h]
    rfl
  | y :: l, i + 1, x, h => by
    rw [List.set_cons_succ, set_self l i x (by simpa using h)]

/-- One peer and its replica go on; letters are added. -/
theorem NInv.step (h : NInv n S ps im Rs way T q) {i : Nat} {p : Pe} {R : Sto} (hp : ps[i]? = some p) (hR : Rs[i]? = some R) (p' : Pe) (R' S' : Sto) (new : List Lt)
    (src : SrcOk S' n im (ps.set i p'))
    (oth : ∀ (j : Nat) (p2 : Pe) (R2 : Sto), j ≠ i → ps[j]? = some p2 → Rs[j]? = some R2 → PeOk S' im.length p2 (lastG R2.ss) T (q + 1))
    (me : PeOk S' im.length p' (lastG R'.ss) T (q + 1)) (re : RepOk R' n im (q + 1))
    (lt : ∀ l, LtOk n im p (lastG R.ss) l → LtOk n im p' (lastG R'.ss) l)
    (nw : ∀ l ∈ new, LtOk n im p' (lastG R'.ss) l) (hnl : new.length ≤ 1)
    (lg : S'.log.length ≤ S.log.length + 1000) (cn : S'.cnt ≤ S.cnt + 16) :
    NInv n S' (ps.set i p') im (Rs.set i R') (way ++ new.map (fun l => (i, l))) T (q + 1) := by
  have hi : i < ps.length := (List.getElem?_eq_some_iff.1 hp).1
  have hi' : i < Rs.length := (List.getElem?_eq_some_iff.1 hR).1
  have gp : (ps.set i p')[i]? = some p' := by rw [List.getElem?_set_self hi]
  have gR : (Rs.set i R')[i]? = some R' := by rw [List.getElem?_set_self hi']
  refine ⟨h.n1, src, by rw [List.length_set]; exact h.pl, by rw [List.length_set, List.length_set]; exact h.rl, ?_, ?_, ?_, by have := h.lg; omega, by have := h.cn; omega, by have := h.wl; rw [List.length_append, List.length_map]; omega, by have := h.nq; omega⟩
  · intro j p2 R2 h1 h2
    by_cases hj : j = i
    · subst hj
      rw [gp] at h1
      rw [gR] at h2
      cases h1
      cases h2
      exact me
    · rw [List.getElem?_set_ne (Ne.symm hj)] at h1 h2
      exact oth j p2 R2 hj h1 h2
  · intro R2 hR2
    rcases List.mem_or_eq_of_mem_set hR2 with h1 | rfl
    · exact (h.re R2 h1).le (by omega)
    · exact re
  · intro m hm
    rcases List.mem_append.1 hm with h1 | h1
    · obtain ⟨p2, R2, a, b, c⟩ := h.wy m h1
      by_cases hj : m.1 = i
      · rw [hj] at a b ⊢
        rw [hp] at a
        rw [hR] at b
        cases a
        cases b
        exact ⟨p', R', gp, gR, lt _ c⟩
      · exact ⟨p2, R2, by rw [List.getElem?_set_ne (Ne.symm hj)]; exact a, by rw [List.getElem?_set_ne (Ne.symm hj)]; exact b, c⟩
    · obtain ⟨l, hl, rfl⟩ := List.mem_map.1 h1
      exact ⟨p', R', gp, gR, nw l hl⟩

theorem SrcOk.peer (s : SrcOk S n im ps) {i : Nat} {p p' : Pe} (hp : ps[i]? = some p) (hk : p'.k = p.k) (hx : p'.x = p.x) : SrcOk S n im (ps.set i p') := by
  have e1 : (ps.set i p').map Pe.x = ps.map Pe.x := by
    rw [List.map_set]
    exact set_self _ _ _ (by rw [List.getElem?_map, hp, hx]; rfl)
  have e2 : (ps.set i p').map Pe.k = ps.map Pe.k := by
    rw [List.map_set]
    exact set_self _ _ _ (by rw [List.getElem?_map, hp, hk]; rfl)
  exact ⟨s.id, s.vol, s.cm, s.tk, s.ib, s.len, s.srt, s.sn, s.lst, fun x hx => by unfold cX; rw [e1]; exact s.ho x hx, s.mkk, fun m hm => by rw [e2]; exact s.ms m hm, s.v0, s.v1, s.t0, s.t1⟩

/-- A letter stays right, whatever is asked next. -/
theorem LtOk.next {p : Pe} {r : Int} (kk un tr : Int) : ∀ l, LtOk n im p r l → LtOk n im (Pe.post { p with tr := tr } kk un) r l
  | .inl _, h => ⟨h.1, by have := h.2; show _ ≤ p.num + 1; omega⟩
  | .inr (.inl (_, _, _, _, _)), h => ⟨⟨h.1.1, by have := h.1.2; show _ ≤ p.num + 1; omega⟩, h.2.1, h.2.2⟩
  | .inr (.inr (.inl (num, _))), h => ⟨⟨h.1.1, by have := h.1.2; show _ ≤ p.num + 1; omega⟩, h.2.1, h.2.2.1, fun e => by
      have := h.1.2
      have e' : num = p.num + 1 := e
      omega⟩
  | .inr (.inr (.inr (_, _))), h => ⟨⟨h.1.1, by have := h.1.2; show _ ≤ p.num + 1; omega⟩, h.2⟩

/-- A replica is asked. -/
theorem NInv.asked (h : NInv n S ps im Rs way T q) {i : Nat} {p : Pe} (hp : ps[i]? = some p) (un : Int) (hun : un ≤ T) : NInv n S (ps.set i (p.ask un)) im Rs (way ++ [(i, .ask (p.num + 1))]) T (q + 1) := by
  have hi : i < Rs.length := by rw [h.rl]; exact (List.getElem?_eq_some_iff.1 hp).1
  obtain ⟨R, hR⟩ : ∃ R, Rs[i]? = some R := ⟨_, List.getElem?_eq_getElem hi⟩
  have o := h.pe i p R hp hR
  have := h.step hp hR (p.ask un) R S [.ask (p.num + 1)] (h.src.peer hp rfl rfl) (fun j p2 R2 _ h1 h2 => (h.pe j p2 R2 h1 h2).le (by omega) (Int.le_refl _))
    ⟨o.k, o.x, o.g, ⟨by have := o.num; show 0 ≤ p.num + 1; omega, by have := o.num; show p.num + 1 ≤ _; omega⟩, by
      have := o.tr
      show 0 ≤ (if p.aw = 0 then 0 else p.tr + 1) ∧ (if p.aw = 0 then 0 else p.tr + 1) ≤ _
      split <;> omega, Or.inr (Or.inl rfl), fun _ => hun, o.rr⟩
    ((h.re R (List.mem_of_getElem? hR)).le (by omega)) (fun l hl => LtOk.next 65 un _ l hl)
    (fun l hl => by
      simp at hl
      subst hl
      exact ⟨by have := o.num; omega, Int.le_refl _⟩) (by simp) (by omega) (by omega)
  rw [set_self _ _ _ hR] at this
  exact this

/-! The replica. -/
theorem NInv.rstay (h : NInv n S ps im Rs way T q) {i : Nat} {p : Pe} {R : Sto} (hp : ps[i]? = some p) (hR : Rs[i]? = some R) (l : Lt) (hl : LtOk n im p (lastG R.ss) l) : NInv n S ps im Rs (way ++ [(i, l)]) T (q + 1) := by
  have := h.step hp hR p R S [l] (h.src.peer hp rfl rfl) (fun j p2 R2 _ h1 h2 => (h.pe j p2 R2 h1 h2).le (by omega) (Int.le_refl _)) ((h.pe i p R hp hR).le (by omega) (Int.le_refl _)) ((h.re R (List.mem_of_getElem? hR)).le (by omega)) (fun _ h => h) (fun l' hl' => by simp at hl'; subst hl'; exact hl) (by simp) (by omega) (by omega)
  rw [set_self _ _ _ hR, set_self _ _ _ hp] at this
  exact this
/-- It tells what it has. -/
theorem NInv.rHas (h : NInv n S ps im Rs way T q) {i : Nat} {p : Pe} {R : Sto} (hp : ps[i]? = some p) (hR : Rs[i]? = some R) {num : Int} (hn : 0 ≤ num ∧ num ≤ p.num) : NInv n S ps im Rs (way ++ [(i, .has num (lastG R.ss))]) T (q + 1) := by
  have o := h.pe i p R hp hR
  refine h.rstay hp hR _ ⟨hn, ?_, Int.le_refl _, fun _ _ => o.rr⟩
  have := o.kr
  rcases o.k with e | e
  · omega
  · have := e.1.1; omega
/-- It has it already. -/
theorem NInv.rDup (h : NInv n S ps im Rs way T q) {i : Nat} {p : Pe} {R : Sto} (hp : ps[i]? = some p) (hR : Rs[i]? = some R) {num f t m : Int} {l : List (Int × B4)} (hl : LtOk n im p (lastG R.ss) (.data num f t m l)) (hin : ∃ x ∈ R.ss, x.guid = t) : NInv n S ps im Rs (way ++ [(i, .got num t)]) T (q + 1) := by
  obtain ⟨x, hx, e⟩ := hin
  exact h.rstay hp hR _ ⟨hl.1, by have := hl.2.1.ht.1; omega, by rw [← e]; exact (h.re R (List.mem_of_getElem? hR)).up x hx⟩
/-- It is taken in. -/
theorem NInv.rOk (h : NInv n S ps im Rs way T q) {i : Nat} {p : Pe} {R R' : Sto} (hp : ps[i]? = some p) (hR : Rs[i]? = some R) {num f t m : Int} {l : List (Int × B4)} (hl : LtOk n im p (lastG R.ss) (.data num f t m l)) (hb : f = lastG R.ss) (hQ : RQ R R' n q f t m l) :
    NInv n S ps im (Rs.set i R') (way ++ [(i, .got num t)]) T (q + 1) ∧ f = p.k ∧ t = p.x ∧ lastG R.ss = p.k := by
  have o := h.pe i p R hp hR
  have ro := h.re R (List.mem_of_getElem? hR)
  obtain ⟨hn, D, hft⟩ := hl
  have hkr := o.kr
  have hlt := D.lt
  have hft' : f = p.k ∧ t = p.x := by
    rcases hft with e | e
    · exact e
    · omega
  refine ⟨?_, hft'.1, hft'.2, by omega⟩
  obtain ⟨Z, hss⟩ := hQ.ss
  have hmem : ∀ x ∈ R'.ss, (x ∈ R.ss ∧ x.guid ≠ t) ∨ x = ⟨t, m, 0, R.came + 1⟩ := fun x hx => by
    rw [hss] at hx
    rcases List.mem_append.1 hx with h1 | h1
    · have h2 := (mem_left.1 h1).1
      have := ro.up x h2
      exact Or.inl ⟨h2, by omega⟩
    · exact Or.inr (by simpa using h1)
  have hx0 : p.x ≠ 0 := by have := D.ht.1; omega
  have hlst := hQ.lst
  have := h.step hp hR p R' S [.got num t] (h.src.peer hp rfl rfl) (fun j p2 R2 _ h1 h2 => (h.pe j p2 R2 h1 h2).le (by omega) (Int.le_refl _))
    ⟨o.k, o.x, o.g, by have := o.num; omega, by have := o.tr; omega, o.aw, o.un, Or.inr ⟨hx0, by rw [hlst]; exact hft'.2⟩⟩
    ⟨hQ.rp, fun x hx => by
      rw [hlst]
      rcases hmem x hx with ⟨h1, _⟩ | rfl
      · have := ro.up x h1; omega
      · exact Int.le_refl _, fun x hx => by
      rcases hmem x hx with ⟨h1, h2⟩ | e
      · obtain ⟨a, b, c⟩ := ro.ri x h1
        exact ⟨a, b, fun j hj => by rw [hQ.th x hx j hj, if_neg h2]; exact c j hj⟩
      · have hg : x.guid = t := by rw [e]
        have ht : x.time = m := by rw [e]
        refine ⟨by rw [hg]; exact D.ht, by rw [ht, hg]; exact D.hm, fun j hj => ?_⟩
        rw [hQ.th x hx j hj, if_pos hg, hg]
        refine D.ct R ro.rp.vol (fun hf0 k hk => ?_) j hj
        obtain ⟨y, hy, ey⟩ := lastG_mem (l := R.ss) (by omega)
        have := (ro.ri y hy).2.2 k hk
        rw [ey, ← hb] at this
        exact this⟩
    (fun l' h' => by
      have hle : lastG R.ss ≤ lastG R'.ss := by rw [hlst]; omega
      cases l' using Lt.cs with
      | ask _ => exact h'
      | data _ _ _ _ _ => exact h'
      | has _ _ => exact ⟨h'.1, h'.2.1, by have := h'.2.2.1; omega, h'.2.2.2⟩
      | got _ _ => exact ⟨h'.1, h'.2.1, by have := h'.2.2; omega⟩)
    (fun l' hl' => by
      simp at hl'
      subst hl'
      exact ⟨hn, by have := D.ht.1; omega, by rw [hlst]; exact Int.le_refl _⟩) (by simp) (by omega) (by omega)
  rw [set_self _ _ _ hp] at this
  exact this

/-! The source takes an answer. -/
/-- What a snapshot is, but for its holds. -/
def Sn.key (x : Sn) : Int × Int × Int := (x.guid, x.time, x.came)
/-- Holds and marks of a store turn. -/
structure Turn (S S' : Sto) (ps' : List Pe) : Prop where
  id : S'.id = S.id
  vol : S'.vol = S.vol
  ss : S'.ss.map Sn.key = S.ss.map Sn.key
  th : S'.th = S.th
  cm : S'.came = S.came
  tk : S'.taken = S.taken
  cn : S'.cnt = S.cnt
  lg : S'.log.length ≤ S.log.length + 100
  ho : ∀ x ∈ S'.ss, x.holds = cX ps' x.guid
theorem Turn.mem {ps' : List Pe} (t : Turn S S' ps') {x : Sn} (hx : x ∈ S'.ss) : ∃ y ∈ S.ss, y.key = x.key := by
  have : x.key ∈ S.ss.map Sn.key := by rw [← t.ss]; exact List.mem_map.2 ⟨x, hx, rfl⟩
  exact List.mem_map.1 this
theorem Turn.mem' {ps' : List Pe} (t : Turn S S' ps') {x : Sn} (hx : x ∈ S.ss) : ∃ y ∈ S'.ss, y.guid = x.guid := by
  have : x.key ∈ S'.ss.map Sn.key := by rw [t.ss]; exact List.mem_map.2 ⟨x, hx, rfl⟩
  obtain ⟨y, hy, e⟩ := List.mem_map.1 this
  exact ⟨y, hy, by simpa [Sn.key] using congrArg Prod.fst e⟩
theorem SrcOk.turn {ps' : List Pe} (s : SrcOk S n im ps) (t : Turn S S' ps') (mkk : S'.ms.Pairwise fun a b => a.2 < b.2) (ms : ∀ m ∈ S'.ms, Gv im.length m.1 ∧ m.2 = m.1 - 1000000 ∧ m.1 ∈ ps'.map Pe.k) : SrcOk S' n im ps' := by
  have hg : ∀ (a b : List Sn), a.map Sn.key = b.map Sn.key → a.map Sn.guid = b.map Sn.guid := fun a b e => by
    have e1 : ∀ l : List Sn, l.map Sn.guid = (l.map Sn.key).map Prod.fst := fun l => by rw [List.map_map]; rfl
    rw [e1, e1, e]
  have hk : ∀ {x y : Sn}, y.key = x.key → y.guid = x.guid ∧ y.time = x.time ∧ y.came = x.came := fun {x y} e => by
    simpa [Sn.key] using e
  refine ⟨by rw [t.id]; exact s.id, by rw [t.vol]; exact s.vol, by rw [t.cm]; exact s.cm, by rw [t.tk]; exact s.tk, s.ib, ?_, ?_, ?_, ?_, t.ho, mkk, ms, by rw [t.vol]; exact s.v0, by rw [t.vol]; exact s.v1, ?_, ?_⟩
  · have := congrArg List.length t.ss
    simp at this
    rw [this]; exact s.len
  · have h1 := s.srt
    have h2 : (S.ss.map Sn.guid).Pairwise (· < ·) := List.pairwise_map.2 h1
    rw [← hg _ _ t.ss] at h2
    exact List.pairwise_map.1 h2
  · intro x hx
    obtain ⟨y, hy, e⟩ := t.mem hx
    obtain ⟨e1, e2, e3⟩ := hk e
    have := s.sn y hy
    rw [e1, e2, e3] at this
    exact this
  · have e1 : ∀ l : List Sn, lastG l = ((l.map Sn.guid).getLast?).getD 0 := fun l => by
      unfold lastG
      rw [List.getLast?_map]
    rw [e1, hg _ _ t.ss, ← e1]
    exact s.lst
  · intro x hx j hj
    obtain ⟨y, hy, e⟩ := t.mem hx
    rw [t.th, ← (hk e).1]
    exact s.t0 y hy j hj
  · intro x hx g j h1 h2 h3
    obtain ⟨y, hy, e⟩ := t.mem hx
    rw [← (hk e).1] at h2
    rw [t.th, ← (hk e).1]
    exact s.t1 y hy g j h1 h2 h3

/-- The marks, behind a replica was found to have g. -/
structure Lrn (ms ms' : List (Int × Int)) (ps' : List Pe) (g : Int) : Prop where
  srt : ms'.Pairwise fun a b => a.2 < b.2
  sub : ∀ m ∈ ms', m ∈ ms ∨ m = (g, g - 1000000)
  new : ∃ m ∈ ms', m.1 = g
  keep : ∀ m ∈ ms, m.1 ∈ ps'.map Pe.k → m ∈ ms'
  gone : ∀ m ∈ ms', m.1 ∈ ps'.map Pe.k

/-- It has what was sent. -/
theorem NInv.learnt (h : NInv n S ps im Rs way T q) {i : Nat} {p : Pe} {R : Sto} (hp : ps[i]? = some p) (hR : Rs[i]? = some R) (hx : p.x ≠ 0) (hr : p.x ≤ lastG R.ss) (t : Turn S S' (ps.set i { p with k := p.x, x := 0, aw := 0 })) (L : Lrn S.ms S'.ms (ps.set i { p with k := p.x, x := 0, aw := 0 }) p.x) :
    NInv n S' (ps.set i { p with k := p.x, x := 0, aw := 0 }) im Rs way T (q + 1) ∧ lastG R.ss = p.x := by
  have s := h.src
  have o := h.pe i p R hp hR
  have hi : i < ps.length := (List.getElem?_eq_some_iff.1 hp).1
  obtain ⟨⟨y, hy, ey⟩, hkx⟩ : (∃ y ∈ S.ss, y.guid = p.x) ∧ p.k < p.x := o.x.resolve_left hx
  have hgx : Gv im.length p.x := by rw [← ey]; exact (s.sn y hy).1
  have hrx : lastG R.ss = p.x := by
    rcases o.rr with e | e
    · omega
    · exact e.2
  have hme : ({ p with k := p.x, x := 0, aw := 0 } : Pe) ∈ ps.set i { p with k := p.x, x := 0, aw := 0 } := List.mem_of_getElem? (List.getElem?_set_self hi)
  refine ⟨?_, hrx⟩
  have := h.step hp hR { p with k := p.x, x := 0, aw := 0 } R S' [] (s.turn t L.srt (fun m hm => ?_)) (fun j p2 R2 hj h1 h2 => ?_)
    ⟨Or.inr ⟨hgx, L.new⟩, Or.inl rfl, o.g, by have := o.num; show 0 ≤ p.num ∧ p.num ≤ _; omega, by have := o.tr; show 0 ≤ p.tr ∧ p.tr ≤ _; omega, Or.inl rfl, fun e => absurd rfl e, Or.inl hrx⟩
    ((h.re R (List.mem_of_getElem? hR)).le (by omega)) (fun l hl => ?_) (fun l hl => by simp at hl) (by simp) (by have := t.lg; omega) (by rw [t.cn]; omega)
  · rw [set_self _ _ _ hR] at this
    simpa using this
  · refine ⟨?_, ?_, L.gone m hm⟩
    · rcases L.sub m hm with h1 | rfl
      · exact (s.ms m h1).1
      · exact hgx
    · rcases L.sub m hm with h1 | rfl
      · exact (s.ms m h1).2.1
      · rfl
  · have o2 := (h.pe j p2 R2 h1 h2).le (show q ≤ q + 1 by omega) (Int.le_refl T)
    have hm2 : p2 ∈ ps.set i { p with k := p.x, x := 0, aw := 0 } := List.mem_of_getElem? (by rw [List.getElem?_set_ne (Ne.symm hj)]; exact h1)
    refine ⟨o2.k.imp_right (fun ⟨a, m, hm, e⟩ => ⟨a, m, L.keep m hm (by rw [e]; exact List.mem_map.2 ⟨p2, hm2, rfl⟩), e⟩), o2.x.imp_right (fun ⟨⟨z, hz, e⟩, e2⟩ => ?_), o2.g, o2.num, o2.tr, o2.aw, o2.un, o2.rr⟩
    obtain ⟨z', hz', e'⟩ := t.mem' hz
    exact ⟨⟨z', hz', e'.trans e⟩, e2⟩
  · cases l using Lt.cs with
    | ask _ => exact hl
    | data num f t m l =>
      refine ⟨hl.1, hl.2.1, Or.inr ?_⟩
      show t ≤ p.x
      rcases hl.2.2 with e | e
      · omega
      · omega
    | has _ _ => exact ⟨hl.1, hl.2.1, hl.2.2.1, fun _ (e : (0 : Int) = 65) => by omega⟩
    | got _ _ => exact hl

/-- It waits no longer. -/
theorem NInv.idle (h : NInv n S ps im Rs way T q) {i : Nat} {p : Pe} (hp : ps[i]? = some p) : NInv n S (ps.set i { p with aw := 0 }) im Rs way T (q + 1) := by
  have hi : i < Rs.length := by rw [h.rl]; exact (List.getElem?_eq_some_iff.1 hp).1
  obtain ⟨R, hR⟩ : ∃ R, Rs[i]? = some R := ⟨_, List.getElem?_eq_getElem hi⟩
  have o := h.pe i p R hp hR
  have := h.step hp hR { p with aw := 0 } R S [] (h.src.peer hp rfl rfl) (fun j p2 R2 _ h1 h2 => (h.pe j p2 R2 h1 h2).le (by omega) (Int.le_refl _))
    ⟨o.k, o.x, o.g, by have := o.num; show 0 ≤ p.num ∧ p.num ≤ _; omega, by have := o.tr; show 0 ≤ p.tr ∧ p.tr ≤ _; omega, Or.inl rfl, fun e => absurd rfl e, o.rr⟩
    ((h.re R (List.mem_of_getElem? hR)).le (by omega)) (fun l hl => by
      cases l using Lt.cs with
      | ask _ => exact hl
      | data _ _ _ _ _ => exact hl
      | has _ _ => exact ⟨hl.1, hl.2.1, hl.2.2.1, fun _ (e : (0 : Int) = 65) => by omega⟩
      | got _ _ => exact hl) (fun l hl => by simp at hl) (by simp) (by omega) (by omega)
  rw [set_self _ _ _ hR] at this
  simpa using this

/-- What a stream from f to a snapshot tells. -/
theorem SrcOk.dok (s : SrcOk S n im ps) (hn : 1 ≤ n ∧ n ≤ 4) (hN : im.length ≤ 900000) {x : Sn} (hx : x ∈ S.ss) {f : Int} (hf : f = 0 ∨ Gv im.length f) (hlt : f < x.guid) : Dok n im f x.guid x.time (flw S x.guid (if f = 0 then 0 else f - 1000000) n) := by
  obtain ⟨g1, g2, g3⟩ := s.sn x hx
  obtain ⟨c, hc⟩ : ∃ c : Int, (if f = 0 then 0 else f - 1000000) = c := ⟨_, rfl⟩
  have hg1 := g1.1
  have hg2 := g1.2
  have htm : 0 ≤ x.time ∧ x.time ≤ 1073741824 := by
    rw [g3]
    unfold tI imOf
    have hl : (x.guid - 1000001).toNat < im.length := by omega
    rw [List.getD_eq_getElem?_getD, List.getElem?_eq_getElem hl]
    exact (s.ib _ (List.getElem_mem hl)).2
  rw [hc]
  refine ⟨⟨?_, by omega, by omega, htm, by omega, by have := flw_len S x.guid c n; omega, ?_, flw_up S x.guid c n⟩, hf, g1, hlt, g3, ?_⟩
  · rcases hf with e | e
    · exact Or.inl e
    · have := e.1
      exact Or.inr (by omega)
  · intro e
    rw [if_pos e] at hc
    rw [← hc, flw_all S x.guid n (fun j hj => (s.t0 x hx j hj).2)]
  · intro r hr hf0 j hj
    rw [rvol_get r S f x.guid c n j hr hj]
    by_cases hcj : c ≤ (S.th x.guid j).n
    · rw [if_pos hcj]
      exact (s.t0 x hx j hj).1
    · rw [if_neg hcj]
      have hfn : f ≠ 0 := fun e => by
        rw [if_pos e] at hc
        have := (s.t0 x hx j hj).2
        omega
      rw [if_neg hfn] at hc
      rw [hf0 hfn j hj]
      exact (s.t1 x hx f j (hf.resolve_left hfn) hlt hj (by omega)).symm

/-- A stream is sent. -/
theorem NInv.sent (h : NInv n S ps im Rs way T q) {i : Nat} {p : Pe} (hp : ps[i]? = some p) (aim un m : Int) (l : List (Int × B4)) (hun : un ≤ T) (hD : Dok n im p.k aim m l) (hin : ∃ y ∈ S.ss, y.guid = aim) (ha : p.x = 0 ∨ p.x = aim) (t : Turn S S' (ps.set i (Pe.post { p with x := aim } 68 un))) (hms : S'.ms = S.ms) :
    NInv n S' (ps.set i (Pe.post { p with x := aim } 68 un)) im Rs (way ++ [(i, .data (p.num + 1) p.k aim m l)]) T (q + 1) := by
  have hi : i < Rs.length := by rw [h.rl]; exact (List.getElem?_eq_some_iff.1 hp).1
  obtain ⟨R, hR⟩ : ∃ R, Rs[i]? = some R := ⟨_, List.getElem?_eq_getElem hi⟩
  have s := h.src
  have o := h.pe i p R hp hR
  have e2 : (ps.set i (Pe.post { p with x := aim } 68 un)).map Pe.k = ps.map Pe.k := by
    rw [List.map_set]
    exact set_self _ _ _ (by rw [List.getElem?_map, hp]; rfl)
  have ha0 : aim ≠ 0 := by have := hD.ht.1; omega
  have hin' : ∃ y ∈ S'.ss, y.guid = aim := by
    obtain ⟨y, hy, e⟩ := hin
    obtain ⟨z, hz, e'⟩ := t.mem' hy
    exact ⟨z, hz, e'.trans e⟩
  have := h.step hp hR (Pe.post { p with x := aim } 68 un) R S' [.data (p.num + 1) p.k aim m l] (s.turn t (by rw [hms]; exact s.mkk) (by rw [hms, e2]; exact s.ms)) (fun j p2 R2 hj h1 h2 => ?_)
    ⟨by rw [hms]; exact o.k, Or.inr ⟨hin', hD.lt⟩, o.g, ⟨by have := o.num; show 0 ≤ p.num + 1; omega, by have := o.num; show p.num + 1 ≤ _; omega⟩, by have := o.tr; show 0 ≤ p.tr ∧ p.tr ≤ _; omega, Or.inr (Or.inr rfl), fun _ => hun, ?_⟩
    ((h.re R (List.mem_of_getElem? hR)).le (by omega)) (fun l' hl' => ?_)
    (fun l' hl' => by
      simp at hl'
      subst hl'
      exact ⟨⟨by have := o.num; omega, Int.le_refl _⟩, hD, Or.inl ⟨rfl, rfl⟩⟩) (by simp) (by have := t.lg; omega) (by rw [t.cn]; omega)
  · rw [set_self _ _ _ hR] at this
    exact this
  · have o2 := (h.pe j p2 R2 h1 h2).le (show q ≤ q + 1 by omega) (Int.le_refl T)
    refine ⟨by rw [hms]; exact o2.k, o2.x.imp_right (fun ⟨⟨z, hz, e⟩, e2⟩ => ?_), o2.g, o2.num, o2.tr, o2.aw, o2.un, o2.rr⟩
    obtain ⟨z', hz', e'⟩ := t.mem' hz
    exact ⟨⟨z', hz', e'.trans e⟩, e2⟩
  · rcases o.rr with e | ⟨e1, e3⟩
    · exact Or.inl e
    · exact Or.inr ⟨ha0, by show _ = aim; rcases ha with e4 | e4 <;> omega⟩
  · have := LtOk.next (kk := 68) (un := un) (tr := p.tr) l' hl'
    cases l' using Lt.cs with
    | ask _ => exact this
    | data num f t m l =>
      refine ⟨this.1, this.2.1, ?_⟩
      rcases hl'.2.2 with e | e
      · have := hl'.2.1.ht.1
        exact Or.inl ⟨e.1, by show t = aim; rcases ha with e4 | e4 <;> omega⟩
      · exact Or.inr e
    | has num g => exact ⟨this.1, this.2.1, this.2.2.1, fun e => by
        have := hl'.1.2
        have e' : num = p.num + 1 := e
        omega⟩
    | got _ _ => exact this
end

/-! While every letter comes at once. -/
/-- The letters of one peer. -/
def lettersOf (way : List (Nat × Lt)) (i : Nat) : List Lt := (way.filter fun m => m.1 == i).map Prod.snd
theorem lettersOf_app (a b : List (Nat × Lt)) (i : Nat) : lettersOf (a ++ b) i = lettersOf a i ++ lettersOf b i := by simp [lettersOf]
theorem lettersOf_one (l : Lt) (i j : Nat) : lettersOf [(i, l)] j = if j = i then [l] else [] := by
  by_cases h : j = i
  · subst h
    simp [lettersOf]
  · simp [lettersOf, h, Ne.symm h]

theorem lettersOf_map (out : List Lt) (i j : Nat) : lettersOf (out.map fun l => (i, l)) j = if j = i then out else [] := by
  induction out with
  | nil => simp [lettersOf]
  | cons a b ih =>
    rw [List.map_cons, show (i, a) :: List.map (fun l => (i, l)) b = [(i, a)] ++ List.map (fun l => (i, l)) b from rfl, lettersOf_app, lettersOf_one, ih]
    by_cases h : j = i
    · rw [if_pos h, if_pos h, if_pos h]; rfl
    · rw [if_neg h, if_neg h, if_neg h]; rfl

/-- How far a peer is. -/
def Stg (p : Pe) (r nw ti U : Int) (fr : Prop) : List Lt → Prop
  | [] => (p.aw = 0 ∧ p.x = 0 ∧ (fr → p.k = nw)) ∨ (p.aw ≠ 0 ∧ ti < p.un ∧ p.un ≤ U ∧ ¬ fr)
  | [.inl num] => num = p.num ∧ p.aw = 65 ∧ (fr → p.x = 0)
  | [.inr (.inr (.inl (num, g)))] => num = p.num ∧ p.aw = 65 ∧ g = r ∧ (fr → p.x = 0)
  | [.inr (.inl (num, f, t, _, _))] => num = p.num ∧ p.aw = 68 ∧ f = p.k ∧ t = p.x ∧ r = p.k ∧ (fr → p.x = nw)
  | [.inr (.inr (.inr (num, g)))] => num = p.num ∧ p.aw = 68 ∧ g = p.x ∧ r = p.x ∧ (fr → p.x = nw)
  | _ => False
def Calm (ps : List Pe) (Rs : List Sto) (way : List (Nat × Lt)) (nw ti U : Int) (fr : Nat → Prop) : Prop :=
  ∀ (i : Nat) (p : Pe) (R : Sto), ps[i]? = some p → Rs[i]? = some R → Stg p (lastG R.ss) nw ti U (fr i) (lettersOf way i)

/-- How many letters may come of one. -/
def Lt.wt : Lt → Nat
  | .inl _ => 4
  | .inr (.inr (.inl (_, _))) => 3
  | .inr (.inl (_, _, _, _, _)) => 2
  | .inr (.inr (.inr (_, _))) => 1
def wts (way : List (Nat × Lt)) : Nat := (way.map fun m => m.2.wt).sum
theorem wts_app (a b : List (Nat × Lt)) : wts (a ++ b) = wts a + wts b := by simp [wts]

/-- What a replica makes of a letter. -/
def RStep (R R' : Sto) : Lt → Lt → Prop
  | .inl num, .inr (.inr (.inl (num', g))) => R' = R ∧ num' = num ∧ g = lastG R.ss
  | .inr (.inl (num, f, t, _, _)), .inr (.inr (.inr (num', g))) => num' = num ∧ g = t ∧ ((R' = R ∧ ∃ x ∈ R.ss, x.guid = t) ∨ (f = lastG R.ss ∧ lastG R'.ss = t))
  | .inr (.inl (num, f, _, _, _)), .inr (.inr (.inl (num', g))) => R' = R ∧ num' = num ∧ g = lastG R.ss ∧ f ≠ lastG R.ss
  | _, _ => False
/-- What was sent, behind a replica told that it has g. -/
def Pe.x1 (p : Pe) (g : Int) : Int := if g = p.x then 0 else p.x
def Pe.aim (p : Pe) (g nw : Int) : Int := if p.x1 g = 0 then nw else p.x1 g
/-- What the source makes of a letter. -/
def SStep (p p' : Pe) (nw : Int) : Lt → List Lt → Prop
  | .inr (.inr (.inl (num, g))), out =>
    if p.aw = 0 ∨ num ≠ p.num then p' = p ∧ out = []
    else if p.aw = 65 then (if g = p.aim g nw then p' = { p with k := g, x := p.x1 g, aw := 0 } ∧ out = [] else ∃ un m l, p' = Pe.post { p with k := g, x := p.aim g nw } 68 un ∧ out = [.data (p.num + 1) g (p.aim g nw) m l])
    else p' = { p with aw := 0 } ∧ out = []
  | .inr (.inr (.inr (num, g))), out => if p.aw = 68 ∧ num = p.num ∧ g = p.x then p' = { p with k := g, x := 0, aw := 0 } ∧ out = [] else p' = p ∧ out = []
  | _, _ => False

section
variable {n : Nat} {S S' : Sto} {ps : List Pe} {im : List Img} {Rs : List Sto} {way : List (Nat × Lt)} {T nw ti U : Int} {q : Nat} {fr : Nat → Prop}

theorem Calm.rstep (c : Calm ps Rs way nw ti U fr) (h : NInv n S ps im Rs way T q) {i : Nat} {l l' : Lt} {rest : List (Nat × Lt)} (hw : way = (i, l) :: rest) {p : Pe} {R R' : Sto} (hp : ps[i]? = some p) (hR : Rs[i]? = some R) (hs : RStep R R' l l') :
    Calm ps (Rs.set i R') (rest ++ [(i, l')]) nw ti U fr ∧ wts (rest ++ [(i, l')]) < wts way := by
  have hi' : i < Rs.length := (List.getElem?_eq_some_iff.1 hR).1
  have st := c i p R hp hR
  have hlo : ∀ j, lettersOf way j = (if j = i then [l] else []) ++ lettersOf rest j := fun j => by
    rw [hw, show (i, l) :: rest = [(i, l)] ++ rest from rfl, lettersOf_app, lettersOf_one]
  rw [hlo i, if_pos rfl] at st
  have hrest : lettersOf rest i = [] := by
    cases e : lettersOf rest i with
    | nil => rfl
    | cons a b =>
      rw [e] at st
      cases l using Lt.cs <;> simp [Stg] at st
  rw [hrest] at st
  have hwt : wts way = l.wt + wts rest := by rw [hw]; simp [wts]
  have key : Stg p (lastG R'.ss) nw ti U (fr i) [l'] ∧ l'.wt < l.wt := by
    cases l using Lt.cs with
    | ask num =>
      cases l' using Lt.cs with
      | has num' g =>
        obtain ⟨rfl, rfl, rfl⟩ := hs
        exact ⟨⟨st.1, st.2.1, rfl, st.2.2⟩, by simp [Lt.wt]⟩
      | ask _ => exact hs.elim
      | data _ _ _ _ _ => exact hs.elim
      | got _ _ => exact hs.elim
    | data num f t m b =>
      obtain ⟨s1, s2, s3, s4, s5, s6⟩ := st
      have ro := h.re R (List.mem_of_getElem? hR)
      obtain ⟨p3, R3, a3, b3, c3⟩ := h.wy (i, .data num f t m b) (by rw [hw]; simp)
      have hlt := c3.2.1.lt
      cases l' using Lt.cs with
      | got num' g =>
        obtain ⟨rfl, rfl, e | e⟩ := hs
        · obtain ⟨_, x, hx, ex⟩ := e
          have := ro.up x hx
          omega
        · exact ⟨⟨s1, s2, s4, by rw [e.2]; exact s4, s6⟩, by simp [Lt.wt]⟩
      | has num' g =>
        obtain ⟨_, _, _, e⟩ := hs
        exact absurd (by omega) e
      | ask _ => exact hs.elim
      | data _ _ _ _ _ => exact hs.elim
    | has _ _ => exact hs.elim
    | got _ _ => exact hs.elim
  refine ⟨fun j p2 R2 h1 h2 => ?_, ?_⟩
  · rw [lettersOf_app, lettersOf_one]
    by_cases hj : j = i
    · subst hj
      rw [hp] at h1
      rw [List.getElem?_set_self hi'] at h2
      cases h1
      cases h2
      rw [if_pos rfl, hrest]
      exact key.1
    · rw [List.getElem?_set_ne (Ne.symm hj)] at h2
      rw [if_neg hj, List.append_nil]
      have := c j p2 R2 h1 h2
      rw [hlo j, if_neg hj] at this
      exact this
  · rw [wts_app, hwt]
    have e : wts [(i, l')] = l'.wt := by simp [wts]
    rw [e]
    have := key.2
    omega

theorem Calm.sstep (c : Calm ps Rs way nw ti U fr) {i : Nat} {l : Lt} {out : List Lt} {rest : List (Nat × Lt)} (hw : way = (i, l) :: rest) {p p' : Pe} {R : Sto} (hp : ps[i]? = some p) (hR : Rs[i]? = some R) (hs : SStep p p' nw l out) :
    Calm (ps.set i p') Rs (rest ++ out.map fun l => (i, l)) nw ti U fr ∧ wts (rest ++ out.map fun l => (i, l)) < wts way := by
  have hi : i < ps.length := (List.getElem?_eq_some_iff.1 hp).1
  have st := c i p R hp hR
  have hlo : ∀ j, lettersOf way j = (if j = i then [l] else []) ++ lettersOf rest j := fun j => by
    rw [hw, show (i, l) :: rest = [(i, l)] ++ rest from rfl, lettersOf_app, lettersOf_one]
  rw [hlo i, if_pos rfl] at st
  have hrest : lettersOf rest i = [] := by
    cases e : lettersOf rest i with
    | nil => rfl
    | cons a b =>
      rw [e] at st
      cases l using Lt.cs <;> simp [Stg] at st
  rw [hrest] at st
  have hwt : wts way = l.wt + wts rest := by rw [hw]; simp [wts]
  have hout := fun j => lettersOf_map out i j
  have key : Stg p' (lastG R.ss) nw ti U (fr i) out ∧ (out.map Lt.wt).sum < l.wt := by
    cases l using Lt.cs with
    | has num g =>
      obtain ⟨s1, s2, s3, s4⟩ := st
      simp only [SStep] at hs
      rw [if_neg (by omega), if_pos s2] at hs
      by_cases hg : g = p.aim g nw
      · rw [if_pos hg] at hs
        obtain ⟨rfl, rfl⟩ := hs
        have hx1 : p.x1 g = 0 ∧ g = nw := by
          unfold Pe.aim at hg
          by_cases h0 : p.x1 g = 0
          · rw [if_pos h0] at hg
            exact ⟨h0, hg⟩
          · rw [if_neg h0] at hg
            exfalso
            unfold Pe.x1 at hg h0
            by_cases h1 : g = p.x
            · rw [if_pos h1] at h0; exact h0 rfl
            · rw [if_neg h1] at hg; exact h1 hg
        exact ⟨Or.inl ⟨rfl, hx1.1, fun _ => hx1.2⟩, by simp [Lt.wt]⟩
      · rw [if_neg hg] at hs
        obtain ⟨un, m, b, rfl, rfl⟩ := hs
        refine ⟨⟨rfl, rfl, rfl, rfl, s3.symm, fun hf => ?_⟩, by simp [Lt.wt]⟩
        show p.aim g nw = nw
        have h0 := s4 hf
        unfold Pe.aim Pe.x1
        rw [h0]
        simp
    | got num g =>
      obtain ⟨s1, s2, s3, s4, s5⟩ := st
      simp only [SStep] at hs
      rw [if_pos ⟨s2, s1, s3⟩] at hs
      obtain ⟨rfl, rfl⟩ := hs
      exact ⟨Or.inl ⟨rfl, rfl, fun hf => by show g = nw; rw [s3]; exact s5 hf⟩, by simp [Lt.wt]⟩
    | ask _ => exact hs.elim
    | data _ _ _ _ _ => exact hs.elim
  refine ⟨fun j p2 R2 h1 h2 => ?_, ?_⟩
  · rw [lettersOf_app, hout]
    by_cases hj : j = i
    · subst hj
      rw [List.getElem?_set_self hi] at h1
      rw [hR] at h2
      cases h1
      cases h2
      rw [if_pos rfl, hrest]
      exact key.1
    · rw [List.getElem?_set_ne (Ne.symm hj)] at h1
      rw [if_neg hj, List.append_nil]
      have := c j p2 R2 h1 h2
      rw [hlo j, if_neg hj] at this
      exact this
  · rw [wts_app, hwt]
    have : wts (out.map fun l => (i, l)) = (out.map Lt.wt).sum := by
      simp [wts]
      rfl
    rw [this]
    have := key.2
    omega

/-- A peer is due. -/
def Due (p : Pe) (ti nw : Int) : Prop := if p.aw = 0 then nw ≠ 0 ∧ nw ≠ p.k ∧ nw ≠ p.g else p.un ≤ ti
/-- What a second asks of the peers ahead of k. -/
def Asked (ps ps' : List Pe) (L : List (Nat × Lt)) (ti nw : Int) (k : Nat) : Prop :=
  ps'.length = ps.length ∧ ∀ (j : Nat) (p : Pe), ps[j]? = some p →
    (j < k ∧ Due p ti nw ∧ ∃ un, ps'[j]? = some (p.ask un) ∧ lettersOf L j = [.ask (p.num + 1)]) ∨ ((k ≤ j ∨ ¬ Due p ti nw) ∧ ps'[j]? = some p ∧ lettersOf L j = [])
theorem Asked.nil (ps : List Pe) (ti nw : Int) : Asked ps ps [] ti nw 0 := ⟨rfl, fun _ _ h => Or.inr ⟨Or.inl (Nat.zero_le _), h, rfl⟩⟩
theorem Asked.no {ps' : List Pe} {L : List (Nat × Lt)} {k : Nat} (h : Asked ps ps' L ti nw k) {p : Pe} (hp : ps[k]? = some p) (hd : ¬ Due p ti nw) : Asked ps ps' L ti nw (k + 1) :=
  ⟨h.1, fun j p2 h2 => by
    rcases h.2 j p2 h2 with ⟨a, b, c⟩ | ⟨a, b, c⟩
    · exact Or.inl ⟨by omega, b, c⟩
    · by_cases hj : j = k
      · subst hj
        rw [hp] at h2
        cases h2
        exact Or.inr ⟨Or.inr hd, b, c⟩
      · exact Or.inr ⟨a.imp_left (fun _ => by omega), b, c⟩⟩
theorem Asked.yes {ps' : List Pe} {L : List (Nat × Lt)} {k : Nat} (h : Asked ps ps' L ti nw k) {p : Pe} (hp : ps[k]? = some p) (hd : Due p ti nw) (un : Int) : Asked ps (ps'.set k (p.ask un)) (L ++ [(k, .ask (p.num + 1))]) ti nw (k + 1) :=
  ⟨by rw [List.length_set]; exact h.1, fun j p2 h2 => by
    rw [lettersOf_app, lettersOf_one]
    by_cases hj : j = k
    · subst hj
      rw [hp] at h2
      cases h2
      have hl : j < ps'.length := by rw [h.1]; exact (List.getElem?_eq_some_iff.1 hp).1
      rcases h.2 j p hp with ⟨a, b, c⟩ | ⟨a, b, c⟩
      · omega
      · exact Or.inl ⟨by omega, hd, un, List.getElem?_set_self hl, by rw [c, if_pos rfl]; rfl⟩
    · rw [List.getElem?_set_ne (Ne.symm hj), if_neg hj, List.append_nil]
      rcases h.2 j p2 h2 with ⟨a, b, c⟩ | ⟨a, b, c⟩
      · exact Or.inl ⟨by omega, b, c⟩
      · exact Or.inr ⟨a.imp_left (fun _ => by omega), b, c⟩⟩
theorem Asked.at {ps' : List Pe} {L : List (Nat × Lt)} {k : Nat} (h : Asked ps ps' L ti nw k) {p : Pe} (hp : ps[k]? = some p) : ps'[k]? = some p := by
  rcases h.2 k p hp with ⟨a, _⟩ | ⟨_, b, _⟩
  · omega
  · exact b

/-- Behind a second's questions each peer is at its first letter, or waits. -/
theorem Calm.tick {ps' : List Pe} {L : List (Nat × Lt)} (h : NInv n S ps im Rs [] T q) (a : Asked ps ps' L ti (nwG im.length) ps.length) (hU : ∀ p ∈ ps, p.aw ≠ 0 → p.un ≤ U) :
    Calm ps' Rs L (nwG im.length) ti U (fun i => ∃ p, ps[i]? = some p ∧ p.aw = 0 ∧ p.x = 0) := by
  intro i p' R h1 h2
  have hi : i < ps.length := by rw [← a.1]; exact (List.getElem?_eq_some_iff.1 h1).1
  obtain ⟨p, hp⟩ : ∃ p, ps[i]? = some p := ⟨_, List.getElem?_eq_getElem hi⟩
  have o := h.pe i p R hp h2
  rcases a.2 i p hp with ⟨_, hd, un, e1, e2⟩ | ⟨hd, e1, e2⟩
  · rw [h1] at e1
    cases e1
    rw [e2]
    refine ⟨rfl, rfl, fun ⟨p2, a2, b2, c2⟩ => ?_⟩
    rw [hp] at a2
    cases a2
    exact c2
  · have e3 : p' = p := by
      rw [h1] at e1
      exact Option.some.inj e1
    rw [e2, e3]
    have hd' : ¬ Due p ti (nwG im.length) := hd.resolve_left (by omega)
    by_cases haw : p.aw = 0
    · left
      unfold Due at hd'
      rw [if_pos haw, o.g] at hd'
      have hx0 : p.x = 0 := by
        rcases o.x with e | ⟨⟨y, hy, e⟩, hlt⟩
        · exact e
        · exfalso
          apply hd'
          have h3 := (h.src.sn y hy).1
          have h4 := h.src.le_last h3
          rw [h.src.lst] at h4
          have := h3.1
          exact ⟨by omega, by omega, by omega⟩
      refine ⟨haw, hx0, fun _ => ?_⟩
      by_cases h0 : nwG im.length = 0
      · rcases o.k with e | ⟨e, _⟩
        · omega
        · exfalso
          have h4 := h.src.le_last e
          rw [h.src.lst] at h4
          have := e.1
          omega
      · exact Decidable.byContradiction fun hne => hd' ⟨h0, fun e => hne e.symm, h0⟩
    · right
      unfold Due at hd'
      rw [if_neg haw] at hd'
      exact ⟨haw, by omega, hU p (List.mem_of_getElem? hp) haw, fun ⟨p2, a2, b2, _⟩ => by
        rw [hp] at a2
        cases a2
        exact haw b2⟩
end

theorem nodup_le : ∀ (l l' : List Int), l.Nodup → (∀ x ∈ l, x ∈ l') → l.length ≤ l'.length
  | [], _, _, _ => Nat.zero_le _
  | a :: l, l', hn, hs => by
    rw [List.nodup_cons] at hn
    have ha : a ∈ l' := hs a List.mem_cons_self
    have := nodup_le l (l'.erase a) hn.2 (fun x hx => (List.mem_erase_of_ne (fun e : x = a => hn.1 (by rw [← e]; exact hx))).2 (hs x (List.mem_cons_of_mem _ hx)))
    rw [List.length_erase_of_mem ha] at this
    have h0 : 0 < l'.length := List.length_pos_of_mem ha
    rw [List.length_cons]
    omega

section
variable {n : Nat} {S : Sto} {ps : List Pe} {im : List Img} {Rs : List Sto} {way : List (Nat × Lt)} {T : Int} {q : Nat}
theorem NInv.room (h : NInv n S ps im Rs way T q) (hl : S.ss.length = 12) : ∃ x ∈ S.ss.take (S.ss.length - 1), ¬ 0 < x.holds := by
  apply Classical.byContradiction
  intro hc
  have hall : ∀ x ∈ S.ss.take (S.ss.length - 1), 0 < x.holds := fun x hx => Classical.byContradiction fun h0 => hc ⟨x, hx, h0⟩
  have h1 := nodup_le ((S.ss.take (S.ss.length - 1)).map Sn.guid) (ps.map Pe.x) (by
    rw [List.map_take]
    exact (List.take_sublist _ _).nodup h.src.nd) (fun g hg => by
    obtain ⟨x, hx, rfl⟩ := List.mem_map.1 hg
    have h2 := hall x hx
    rw [h.src.ho x (List.mem_of_mem_take hx)] at h2
    unfold cX at h2
    exact List.count_pos_iff.1 (by omega))
  rw [List.length_map, List.length_map, List.length_take] at h1
  have := h.pl
  omega
theorem NInv.marks (h : NInv n S ps im Rs way T q) : S.ms.length ≤ 3 := by
  have s := h.src
  have h1 := nodup_le (S.ms.map Prod.fst) (ps.map Pe.k) (by
    rw [List.Nodup, List.pairwise_map]
    refine (List.Pairwise.imp_of_mem ?_ s.mkk)
    intro a b ha hb hlt e
    rw [(s.ms a ha).2.1, (s.ms b hb).2.1] at hlt
    omega) (fun g hg => by
    obtain ⟨m, hm, rfl⟩ := List.mem_map.1 hg
    exact (s.ms m hm).2.2)
  rw [List.length_map, List.length_map] at h1
  have := h.pl
  omega
theorem NInv.held (h : NInv n S ps im Rs way T q) {x : Sn} (hx : x ∈ S.ss) : 0 ≤ x.holds ∧ x.holds ≤ 3 := by
  rw [h.src.ho x hx]
  unfold cX
  have h1 := List.count_le_length (a := x.guid) (l := ps.map Pe.x)
  rw [List.length_map] at h1
  have := h.pl
  omega
end
end Go.Proofs.YthdhegmlknpllabGreatDoor
