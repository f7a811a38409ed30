import Derived.Test.YthdhegmlknpllaaGreatM44
import Derived.Test.YthdhegmlknpllaaGreatM47
namespace Go.Proofs.YthdhegmlknpllaaGreat
open Go.RowKit Go.Maps Go.MuLone
theorem RRep.baseL {w : World} {B B' : Nat} {b : Nat} {s : RSto} (h : RRep B w b s) (hB : B' ≤ B) : RRep B' w b s :=
 ⟨h.blk, h.d16, h.b16, h.wf, own_baseL h.sh hB, own_baseL h.ms hB, Nat.le_trans hB h.hb⟩
theorem ptC_app (ps : List Pt) (p : Pt) : ptC (ps ++ [p]) = ptC ps ++ p.cs := by simp [ptC]
theorem ptC_get : ∀ (ps : List Pt) (j : Nat) (p : Pt), ps[j]? = some p → (ptC ps)[j * 2]? = some (.int .i64 p.lg.length) ∧ (ptC ps)[j * 2 + 1]? = some (.pointer (some ⟨p.c, 0, none⟩))
 | [], j, p, h => by simp at h
 | a :: r, 0, p, h => by
  simp at h
  subst h
  exact ⟨by simp [ptC, Pt.cs], by simp [ptC, Pt.cs]⟩
 | a :: r, j + 1, p, h => by
  have e : ptC (a :: r) = .int .i64 a.lg.length :: .pointer (some ⟨a.c, 0, none⟩) :: ptC r := by simp [ptC, Pt.cs]
  have ih := ptC_get r j p (by simpa using h)
  rw [e, show (j + 1) * 2 = j * 2 + 1 + 1 by omega]
  exact ⟨by simpa using ih.1, by simpa using ih.2⟩
section
variable {w0 : World} {di : Option Nat} {B : Nat} {w w' : World} {wb : Nat} {sv tv : Value} {T : List ByteArray} {kv mv : Value} {sds : List SdR} {K M : List (Nat × Nat × Nat)} {q q' : Nat}
theorem LS.swap (h : LS w0 di B w wb sv tv T kv mv sds K M q) {i : Nat} {x : SdR} (hx : sds[i]? = some x) {F : List Nat} (f : Fr F w w') (hF : ∀ k ∈ F, k = x.db ∨ k ∈ x.ft ∨ x.lnv.ownBlock = some k)
  (y : SdR) (hdb : y.db = x.db) (sdy : SD y.o B w' y.db y.b y.rb y.s y.r) (my : Sim y.s y.r q') (hqq : q ≤ q') (ly : LnM B w' y) (py : LnP none i y q')
  (g1 : ∀ k ∈ y.ft, k ∈ x.ft ∨ w.heap.size ≤ k) (g2 : ∀ p ∈ y.ps, p ∈ x.ps ∨ ∀ k ∈ rfoot p.c p.r, w.heap.size ≤ k) (g2' : ∀ p ∈ y.ps, ∀ k ∈ rfoot p.c p.r, k ∉ y.ft) (g3 : ∀ k, y.lnv.ownBlock = some k → x.lnv.ownBlock = some k ∨ w.heap.size ≤ k) (hdi : di = none ∨ di = some i) :
  LS w0 none B w' wb sv tv T kv mv (sds.set i y) K M q' ∧ (sds.set i y).map SdR.db = sds.map SdR.db := by
 have hil : i < sds.length := (List.getElem?_eq_some_iff.1 hx).1
 have ex : sds[i] = x := (List.getElem?_eq_some_iff.1 hx).2
 have hD : (sds.set i y).map SdR.db = sds.map SdR.db := by
  rw [List.map_set]
  have e : y.db = (sds.map SdR.db)[i]'(by simpa using hil) := by rw [List.getElem_map, ex, hdb]
  rw [e, List.set_getElem_self]
 have sdx := (h.sd i x hx).1
 have lnx := (h.ln i x hx).1
 have tg := sft_tags sdx
 have hbx : w.heap[x.db]? = some (.cells #[.pointer (some ⟨x.b, 0, none⟩), .pointer (some ⟨x.rb, 0, none⟩), x.lnv] 53 (0, 0)) := sdx.blk
 have htag : ∀ j ∈ F, ∀ cur t, w.heap[j]? = some (.cells cur t (0, 0)) → t = 53 ∨ t = 57 ∨ t = 76 ∨ t = 112 ∨ t = 119 ∨ t = 125 ∨ t = 5 ∨ t = 86 ∨ t = 117 ∨ t = 129 := fun j hj cur t e => by
  rcases hF j hj with rfl | hj | hj
  · rw [hbx] at e
    simp at e
    exact Or.inl e.2.symm
  · exact Or.inr (Or.inr (tg j hj cur t e))
  · obtain ⟨_, cur', e'⟩ := own_tag lnx.row hj
    rw [e'] at e
    simp at e
    exact Or.inr (Or.inl e.2.symm)
 have hget : ∀ {j : Nat} {z : SdR}, (sds.set i y)[j]? = some z → (j = i ∧ z = y) ∨ (j ≠ i ∧ sds[j]? = some z) := fun {j z} hz => by
  by_cases e : j = i
  · subst e
    rw [List.getElem?_set_self hil] at hz
    exact Or.inl ⟨rfl, (Option.some.inj hz).symm⟩
  · rw [List.getElem?_set_ne (Ne.symm e)] at hz
    exact Or.inr ⟨e, hz⟩
 have hdbne : ∀ {j : Nat} {z : SdR}, j ≠ i → sds[j]? = some z → z.db ≠ x.db := fun {j z} hj hz e => by
  have h1 : (sds.map SdR.db)[j]? = some z.db := by rw [List.getElem?_map, hz]; rfl
  have h2 : (sds.map SdR.db)[i]? = some x.db := by rw [List.getElem?_map, hx]; rfl
  rw [e] at h1
  have hjl : j < (sds.map SdR.db).length := (List.getElem?_eq_some_iff.1 h1).1
  exact hj ((List.getElem?_inj hjl h.nd).1 (h1.trans h2.symm))
 have hft : ∀ {j : Nat} {z : SdR}, j ≠ i → sds[j]? = some z → ∀ k ∈ z.ft, k ∉ F := fun {j z} hj hz k hk hm => by
  rcases hF k hm with rfl | hm | hm
  · exact (h.sd j z hz).1.no hbx (by decide) hk
  · exact h.dj j i z x hj hz hx k hk hm
  · obtain ⟨_, cur', e'⟩ := own_tag lnx.row hm
    exact (h.sd j z hz).1.no e' (by decide) hk
 refine ⟨⟨?_, fun j z hz => ?_, fun j1 j2 z1 z2 hne h1 h2 => ?_, h.k4, ⟨by have := h.kl.1; omega, by have := h.kl.2; omega⟩, h.kb, h.be.trans (f.below h.hB (fun k hk => ?_)), ⟨by have := h.tl.1; omega, h.tl.2⟩, fun j z hz => ?_, fun j1 j2 z1 z2 h1 h2 p hp k hk hm => ?_, fun j1 j2 z1 z2 k hne h1 h2 => ?_, by rw [hD]; exact h.nd⟩, hD⟩
 · rw [hD]
   exact h.wm.fr f (fun j hj cur t e => by rcases htag j hj cur t e with h | h | h | h | h | h | h | h | h | h <;> subst h <;> decide)
 · rcases hget hz with ⟨rfl, rfl⟩ | ⟨hj, hz⟩
   · exact ⟨sdy, my⟩
   · have hs := h.sd j z hz
     refine ⟨hs.1.fr f (hft hj hz) (fun hm => ?_), hs.2.le hqq⟩
     rcases hF _ hm with e | hm | hm
     · exact hdbne hj hz e
     · have := tg _ hm _ _ hs.1.blk
       simp at this
     · obtain ⟨_, cur', e'⟩ := own_tag lnx.row hm
       have h8 : w.heap[z.db]? = some (.cells _ 53 (0, 0)) := hs.1.blk
       rw [e'] at h8
       simp at h8
 · rcases hget h1 with ⟨rfl, rfl⟩ | ⟨hj1, a1⟩
   · rcases hget h2 with ⟨rfl, rfl⟩ | ⟨hj2, a2⟩
     · exact absurd rfl hne
     · intro k hk hm
       rcases g1 k hk with h3 | h3
       · exact h.dj j1 j2 x z2 hne hx a2 k h3 hm
       · have := ((h.sd j2 z2 a2).1.lt k hm).2
         omega
   · rcases hget h2 with ⟨rfl, rfl⟩ | ⟨hj2, a2⟩
     · intro k hk hm
       rcases g1 k hm with h3 | h3
       · exact h.dj j1 j2 z1 x hne a1 hx k hk h3
       · have := ((h.sd j1 z1 a1).1.lt k hk).2
         omega
     · exact h.dj j1 j2 z1 z2 hne a1 a2
 · rcases hF k hk with rfl | hm | hm
   · exact sdx.hdb
   · exact (sdx.lt k hm).1
   · exact (own_tag lnx.row hm).1
 · rcases hget hz with ⟨rfl, rfl⟩ | ⟨hj, hz⟩
   · exact ⟨ly, py⟩
   · have hl := h.ln j z hz
     refine ⟨⟨own_of_block hl.1.row (fun k hk => ?_), fun p hp => (hl.1.cl p hp).kept f (fun k hk hm => ?_)⟩, ⟨hl.2.ch, hl.2.li, fun _ => hl.2.ex (fun e => ?_), by have := hl.2.len; omega⟩⟩
     · obtain ⟨_, cur', e'⟩ := own_tag hl.1.row hk
       refine f.block k (Array.getElem?_eq_some_iff.1 e').1 (fun hm => ?_)
       rcases hF k hm with rfl | hm | hm
       · rw [hbx] at e'
         simp at e'
       · have := tg _ hm _ _ e'
         simp at this
       · exact h.ld i j x z k (Ne.symm hj) hx hz hm hk
     · rcases hF k hm with rfl | hm | hm
       · rcases rfoot_tag (hl.1.cl p hp) hk hbx with h | h | h <;> cases h
       · exact h.cd j i z x hz hx p hp k hk hm
       · obtain ⟨_, cur', e'⟩ := own_tag lnx.row hm
         rcases rfoot_tag (hl.1.cl p hp) hk e' with h | h | h <;> cases h
     · rcases hdi with h1 | h1
       · rw [h1] at e
         cases e
       · rw [h1] at e
         cases e
         exact hj rfl
 · rcases hget h1 with ⟨rfl, rfl⟩ | ⟨hj1, a1⟩
   · rcases hget h2 with ⟨e2, rfl⟩ | ⟨hj2, a2⟩
     · exact g2' p hp k hk hm
     · rcases g2 p hp with h3 | h3
       · exact h.cd j1 j2 x z2 hx a2 p h3 k hk hm
       · have h4 := h3 k hk
         have := ((h.sd j2 z2 a2).1.lt k hm).2
         omega
   · rcases hget h2 with ⟨rfl, rfl⟩ | ⟨hj2, a2⟩
     · rcases g1 k hm with h3 | h3
       · exact h.cd j1 j2 z1 x a1 hx p hp k hk h3
       · have := (((h.ln j1 z1 a1).1.cl p hp).lt k hk).2
         omega
     · exact h.cd j1 j2 z1 z2 a1 a2 p hp k hk hm
 · rcases hget h1 with ⟨rfl, rfl⟩ | ⟨hj1, a1⟩
   · rcases hget h2 with ⟨rfl, rfl⟩ | ⟨hj2, a2⟩
     · exact absurd rfl hne
     · intro hk hk2
       rcases g3 k hk with h3 | h3
       · exact h.ld j1 j2 x z2 k hne hx a2 h3 hk2
       · obtain ⟨_, cur', e'⟩ := own_tag (h.ln j2 z2 a2).1.row hk2
         have := (Array.getElem?_eq_some_iff.1 e').1
         omega
   · rcases hget h2 with ⟨rfl, rfl⟩ | ⟨hj2, a2⟩
     · intro hk hk2
       rcases g3 k hk2 with h3 | h3
       · exact h.ld j1 j2 z1 x k hne a1 hx hk h3
       · obtain ⟨_, cur', e'⟩ := own_tag (h.ln j1 z1 a1).1.row hk
         have := (Array.getElem?_eq_some_iff.1 e').1
         omega
     · exact h.ld j1 j2 z1 z2 k hne a1 a2
end
structure PtPost (B : Nat) (w w' : World) (db b : Nat) (s : Sto) (r : RSto) (lnv : Value) (ps : List Pt) (v9 : Value) (cb : Nat) (rc : RSto) : Prop where
 rq : RQ r rc
 ex : ∃ w1 w9, Rep B w1 b 0 s ∧ Fr (foot b s) w w1 ∧ RRep w.heap.size w1 cb rc ∧ w1.grownBy w9 lnv.ownBlock ∧ w9.ownsRow B 57 2 v9 (ps.length + 1) (ptC (ps ++ [⟨cb, rc, s.log⟩])) ∧ w' = w9.setCell ⟨db, 2, none⟩ v9
 ob : ∀ k, v9.ownBlock = some k → lnv.ownBlock = some k ∨ w.heap.size ≤ k
section
variable {B : Nat} {w w' : World} {db b rb : Nat} {s : Sto} {r : RSto} {lnv : Value} {ps : List Pt} {v9 : Value} {cb : Nat} {rc : RSto}
theorem PtPost.out (h : PtPost B w w' db b s r lnv ps v9 cb rc) (sd : SD (sdO b rb lnv) B w db b rb s r) (row : w.ownsRow B 57 2 lnv ps.length (ptC ps)) :
  SD (sdO b rb v9) B w' db b rb s r ∧ w'.ownsRow B 57 2 v9 (ps.length + 1) (ptC (ps ++ [⟨cb, rc, s.log⟩])) ∧ RRep w.heap.size w' cb rc ∧ Fr (db :: (lnv.ownBlock.toList ++ foot b s)) w w' := by
 obtain ⟨w1, w9, rp1, f1, rc1, hg, ho, rfl⟩ := h.ex
 have hblk : w.heap[db]? = some (.cells #[.pointer (some ⟨b, 0, none⟩), .pointer (some ⟨rb, 0, none⟩), lnv] 53 (0, 0)) := sd.blk
 have hdl := (Array.getElem?_eq_some_iff.1 hblk).1
 have row1 : w1.ownsRow B 57 2 lnv ps.length (ptC ps) := own_tagged row f1 (fun j hj cur e => by rcases foot_tag sd.rep hj e with h | h | h | h | h <;> cases h)
 have f9 : Fr lnv.ownBlock.toList w1 w9 := (Fr.refl _ _).grown hg (fun k hk => Or.inl (by simp [hk]))
 have hl : ∀ k ∈ lnv.ownBlock.toList, ∃ cur, w.heap[k]? = some (.cells cur 57 (0, 0)) := fun k hk => (own_tag row (by simpa using hk)).2
 have hl1 : ∀ k ∈ lnv.ownBlock.toList, ∃ cur, w1.heap[k]? = some (.cells cur 57 (0, 0)) := fun k hk => (own_tag row1 (by simpa using hk)).2
 have fA : Fr (lnv.ownBlock.toList ++ foot b s) w w9 := (f1.mono (fun k hk => List.mem_append_right _ hk)).trans f9 (fun k hk => Or.inl (List.mem_append_left _ hk))
 have fB : Fr (db :: (lnv.ownBlock.toList ++ foot b s)) w (w9.setCell ⟨db, 2, none⟩ v9) := (fA.mono (fun k hk => List.mem_cons_of_mem _ hk)).setCell _ (Or.inl (by simp))
 have b1 : w1.heap[db]? = some (.cells #[.pointer (some ⟨b, 0, none⟩), .pointer (some ⟨rb, 0, none⟩), lnv] 53 (0, 0)) := by rw [f1.block db hdl (fun hm => sd.ndb (List.mem_append_left _ hm))]; exact hblk
 have b9 : w9.heap[db]? = some (.cells #[.pointer (some ⟨b, 0, none⟩), .pointer (some ⟨rb, 0, none⟩), lnv] 53 (0, 0)) := by
  rw [f9.block db (Array.getElem?_eq_some_iff.1 b1).1 (fun hm => ?_)]
  · exact b1
  · obtain ⟨cur, e⟩ := hl1 db hm
    rw [b1] at e
    simp at e
 have hset : Fr [db] w9 (w9.setCell ⟨db, 2, none⟩ v9) := (Fr.refl _ _).setCell _ (Or.inl (by simp))
 have rr1 : RRep B w1 rb r := sd.rrep.kept f1 (fun k hk hm => sd.dis k hm hk)
 have n1 : ∀ k ∈ foot b s, k ∉ lnv.ownBlock.toList := fun k hk hm => by
  obtain ⟨cur, e⟩ := hl k hm
  rcases foot_tag sd.rep hk e with h | h | h | h | h <;> cases h
 have n2 : ∀ k ∈ rfoot rb r, k ∉ lnv.ownBlock.toList := fun k hk hm => by
  obtain ⟨cur, e⟩ := hl k hm
  rcases rfoot_tag sd.rrep hk e with h | h | h <;> cases h
 have rp9 : Rep B (w9.setCell ⟨db, 2, none⟩ v9) b 0 s := (rp1.kept f9 n1).kept hset (fun k hk hm => by
  have e : k = db := by simpa using hm
  rw [e] at hk
  exact sd.ndb (List.mem_append_left _ hk))
 have rr9 : RRep B (w9.setCell ⟨db, 2, none⟩ v9) rb r := (rr1.kept f9 n2).kept hset (fun k hk hm => by
  have e : k = db := by simpa using hm
  rw [e] at hk
  exact sd.ndb (List.mem_append_right _ hk))
 refine ⟨⟨by rw [heap_setCell_same _ _ _ _ _ _ b9]; rfl, rp9, rr9, sd.dis, sd.hdb, sd.ndb⟩, own_of_block ho (fun j hj => heap_setCell_other _ _ _ _ (fun e => ?_)), (rc1.kept f9 (fun k hk hm => ?_)).kept hset (fun k hk hm => ?_), fB⟩
 · obtain ⟨_, cur, h4⟩ := own_tag ho hj
   rw [e, b9] at h4
   simp at h4
 · obtain ⟨cur, e⟩ := hl k hm
   have := (Array.getElem?_eq_some_iff.1 e).1
   have := (rc1.lt k hk).1
   omega
 · have e : k = db := by simpa using hm
   have := (rc1.lt k hk).1
   omega
end
section
variable {w0 : World} {B : Nat} {w w' : World} {wb : Nat} {sv tv : Value} {T : List ByteArray} {kv mv : Value} {sds : List SdR} {K M : List (Nat × Nat × Nat)} {q : Nat}
theorem PCh.ne {d : Int} {n : Nat} {ps : List Pt} (h : PCh d n (ps.map Pt.lr)) : ps ≠ [] := fun e => by
 have := h.pos
 rw [e] at this
 simp at this
theorem getLast_app {α : Type} (l : List α) (a : α) : (l ++ [a]).getLast? = some a := by simp
theorem map_last {ps : List Pt} {p : Pt} (h : ps.getLast? = some p) : (ps.map Pt.lr)[(ps.map Pt.lr).length - 1]? = some p.lr := by
 rw [List.length_map, List.getElem?_map, ← List.getLast?_eq_getElem?, h]
 rfl
theorem LS.addPt {i : Nat} (h : LS w0 (some i) B w wb sv tv T kv mv sds K M q) {x : SdR} (hx : sds[i]? = some x) {v9 : Value} {cb : Nat} {rc : RSto} (hp : PtPost B w w' x.db x.b x.s x.r x.lnv x.ps v9 cb rc) :
  LS w0 none B w' wb sv tv T kv mv (sds.set i { x with lnv := v9, ps := x.ps ++ [⟨cb, rc, x.s.log⟩] }) K M (q + 1) ∧ (sds.set i { x with lnv := v9, ps := x.ps ++ [⟨cb, rc, x.s.log⟩] }).map SdR.db = sds.map SdR.db := by
 have sdx := (h.sd i x hx).1
 have ln := h.ln i x hx
 obtain ⟨sd', row', rc', f⟩ := hp.out (rb := x.rb) sdx ln.1.row
 have hnew : ∀ k ∈ rfoot cb rc, k ∉ x.ft := fun k hk hm => by
  have h1 := (rc'.lt k hk).1
  have h2 := (sdx.lt k hm).2
  omega
 refine h.swap hx f (fun k hk => ?_) { x with lnv := v9, ps := x.ps ++ [⟨cb, rc, x.s.log⟩] } rfl sd' ((h.sd i x hx).2.le (by omega)) (by omega) ⟨?_, fun p hpm => ?_⟩ ⟨?_, fun p hpl => ?_, fun _ p hpl => ?_, ?_⟩ (fun k hk => Or.inl hk) (fun p hpm => ?_) (fun p hpm k hk => ?_) hp.ob (Or.inr rfl)
 · rcases List.mem_cons.1 hk with rfl | hk
   · exact Or.inl rfl
   · rcases List.mem_append.1 hk with hk | hk
     · exact Or.inr (Or.inr (by simpa using hk))
     · exact Or.inr (Or.inl (List.mem_append_left _ hk))
 · show w'.ownsRow B 57 2 v9 (x.ps ++ [_]).length _
   rw [List.length_append, List.length_singleton]
   exact row'
 · rcases List.mem_append.1 hpm with hpm | hpm
   · refine (ln.1.cl p hpm).kept f (fun k hk hm => ?_)
     rcases List.mem_cons.1 hm with rfl | hm
     · rcases rfoot_tag (ln.1.cl p hpm) hk (show w.heap[x.db]? = some (.cells _ 53 (0, 0)) from sdx.blk) with h | h | h <;> cases h
     · rcases List.mem_append.1 hm with hm | hm
       · obtain ⟨_, cur', e'⟩ := own_tag ln.1.row (show x.lnv.ownBlock = some k by simpa using hm)
         rcases rfoot_tag (ln.1.cl p hpm) hk e' with h | h | h <;> cases h
       · exact h.cd i i x x hx hx p hpm k hk (List.mem_append_left _ hm)
   · have e : p = _ := List.mem_singleton.1 hpm
     subst e
     exact rc'.baseL h.hB
 · obtain ⟨d, n, h1⟩ := ln.2.ch
   have h0 : x.ps ≠ [] := h1.ne
   obtain ⟨p, hpl⟩ : ∃ p, x.ps.getLast? = some p := ⟨_, List.getLast?_eq_some_getLast h0⟩
   refine ⟨d, n, ?_⟩
   show PCh d n ((x.ps ++ [_]).map Pt.lr)
   rw [List.map_append, List.map_singleton]
   exact h1.snoc (map_last hpl) ((ln.2.li p hpl).rqR hp.rq)
 · have e : p = _ := (Option.some.inj ((getLast_app _ _).symm.trans hpl)).symm
   subst e
   exact Or.inl ⟨rfl, hp.rq.symm⟩
 · have e : p = _ := (Option.some.inj ((getLast_app _ _).symm.trans hpl)).symm
   subst e
   exact ⟨rfl, hp.rq.symm⟩
 · show (x.ps ++ [_]).length ≤ _
   rw [List.length_append, List.length_singleton]
   have := ln.2.len
   omega
 · rcases List.mem_append.1 hpm with hpm | hpm
   · exact Or.inl hpm
   · have e : p = _ := List.mem_singleton.1 hpm
     subst e
     exact Or.inr (fun k hk => (rc'.lt k hk).1)
 · rcases List.mem_append.1 hpm with hpm | hpm
   · exact h.cd i i x x hx hx p hpm k hk
   · have e : p = _ := List.mem_singleton.1 hpm
     subst e
     exact hnew k hk
end
theorem info57 : (Tryz.prog.info? 57).map (fun i => (i.zero, i.size, i.bytes)) = some (some (.agg #[.int .i64 0, .pointer none]), 2, 16) := by kernel_rfl
set_option maxRecDepth 100000 in
set_option maxHeartbeats 3200000 in
theorem point_any (B db b rb : Nat) (s : Sto) (r : RSto) (lnv : Value) (ps : List Pt) (w : World) (h : SD (sdO b rb lnv) B w db b rb s r) (row : w.ownsRow B 57 2 lnv ps.length (ptC ps)) (h0 : 0 < s.log.length) (hl : r.sh.length ≤ 12) (hm : r.ms.length ≤ 12) (hp : ps.length ≤ 4000000) (hlog : s.log.length ≤ 1000000000) :
  Calls Tryz.prog 9 #[.pointer (some ⟨db, 0, none⟩)] w fun e w' => e = .returned (.tuple #[]) ∧ ∃ v9 cb rc, PtPost B w w' db b s r lnv ps v9 cb rc := by
 obtain ⟨i0, hi, hz0, hz1, hz2⟩ := info_parts info57
 obtain ⟨la, lc, hlv⟩ := own_shape row
 obtain ⟨n, hn⟩ : ∃ n, ps.length = n := ⟨_, rfl⟩
 rw [hn] at hlv hp
 subst hlv
 have hblk : w.heap[db]? = some (.cells #[.pointer (some ⟨b, 0, none⟩), .pointer (some ⟨rb, 0, none⟩), .slice la n lc] 53 (0, 0)) := h.blk
 have d0 : w.cell? ⟨db, 0, none⟩ = some (.pointer (some ⟨b, 0, none⟩)) := by rw [cell_of hblk]; rfl
 have hTs : (ofL s.log).size = s.log.length := ofL_size _
 obtain ⟨T, hT⟩ : ∃ T, ofL s.log = T := ⟨_, rfl⟩
 obtain ⟨L, hL⟩ : ∃ L, s.log.length = L := ⟨_, rfl⟩
 rw [hT, hL] at hTs
 have hLb : L ≤ 1000000000 := by omega
 have HLg : Hid (Calls Tryz.prog 14 #[.pointer (some ⟨b, 0, none⟩)] w fun e w' => e = .returned (.string T) ∧ Rep B w' b 0 s ∧ Fr (foot b s) w w') := by rw [← hT]; exact log_any B b s w h.rep h0
 have HC : Hid (∀ W, Fr (foot b s) w W → W.cell? ⟨db, 1, none⟩ = some (.pointer (some ⟨rb, 0, none⟩)) ∧ W.cell? ⟨db, 2, none⟩ = some (.slice la n lc) ∧ W.frozen? ⟨db, 2, none⟩ = false ∧ W.ownsRow B 57 2 (.slice la n lc) n (ptC ps) ∧ RRep B W rb r ∧ B ≤ W.heap.size ∧ db < W.heap.size ∧ (Value.slice la n lc).ownBlock ≠ some db) := fun W hW => by
  have hb : W.heap[db]? = some (.cells #[.pointer (some ⟨b, 0, none⟩), .pointer (some ⟨rb, 0, none⟩), .slice la n lc] 53 (0, 0)) := by rw [hW.block db (Array.getElem?_eq_some_iff.1 hblk).1 (fun hm => h.ndb (List.mem_append_left _ hm))]; exact hblk
  have hr : W.ownsRow B 57 2 (.slice la n lc) n (ptC ps) := by
   rw [hn] at row
   exact own_tagged row hW (fun j hj cur e => by rcases foot_tag h.rep hj e with h | h | h | h | h <;> cases h)
  have hlt := (Array.getElem?_eq_some_iff.1 hb).1
  refine ⟨by rw [cell_of hb]; rfl, by rw [cell_of hb]; rfl, froz_of hb _, hr, h.rrep.kept hW (fun k hk hm => h.dis k hm hk), by have := h.hdb; omega, hlt, fun e => ?_⟩
  obtain ⟨_, cur, e'⟩ := own_tag hr e
  rw [hb] at e'
  simp at e'
 have HA : Hid (r.sh.length ≤ 12 ∧ r.ms.length ≤ 12 ∧ ps.length = n ∧ s.log.length = L) := ⟨hl, hm, hn, hL⟩
 clear h row hblk hT hL hlog h0 hl hm hn
 go_enter Tryz.func9, Tryz.ntmps9
 go_wp2_with (first
  | (go_at_call 14; refine HLg.out.mono ?_; rintro e w1 ⟨rfl, r1, f1⟩; have H1 : Hid (Rep B w1 b 0 s ∧ Fr (foot b s) w w1) := ⟨r1, f1⟩; obtain ⟨c1, c2, z2, _⟩ := HC.out w1 f1; clear r1 f1))
 have HCl : Hid (∀ W, Fr [] w1 W → Calls Tryz.prog 15 #[.pointer (some ⟨rb, 0, none⟩)] W fun e w2 => ∃ cb, e = .returned (.pointer (some ⟨cb, 0, none⟩)) ∧ Fr [] w1 w2 ∧ ∃ rc, RQ r rc ∧ RRep w.heap.size w2 cb rc) := fun W hW => by
  have fW : Fr (foot b s) w W := H1.out.2.trans hW (by simp)
  obtain ⟨_, _, _, _, rr, _⟩ := HC.out W fW
  refine (clone_any B rb r W rr HA.out.1 HA.out.2.1).mono ?_
  rintro e w2 ⟨cb, sv, mv, rfl, r2, f2⟩
  exact ⟨cb, rfl, hW.trans f2 (by simp), _, ⟨sv, mv, rfl⟩, r2.baseL fW.size⟩
 have HFin : Hid (∀ (w2 w9 : World) (cb : Nat) (rc : RSto) (v9 : Value), Fr [] w1 w2 → RQ r rc → RRep w.heap.size w2 cb rc → w2.grownBy w9 (Value.slice la n lc).ownBlock → w9.ownsRow B 57 2 v9 (n + 1) (ptC ps ++ [.int .i64 L, .pointer (some ⟨cb, 0, none⟩)]) → (v9.ownBlock = (Value.slice la n lc).ownBlock ∨ v9.ownBlock = some w2.heap.size) → PtPost B w (w9.setCell ⟨db, 2, none⟩ v9) db b s r (.slice la n lc) ps v9 cb rc) := fun w2 w9 cb rc v9 f2 hq rr hg ho hat => by
  refine ⟨hq, ⟨w2, w9, H1.out.1.kept0 f2, H1.out.2.trans f2 (by simp), rr, hg, ?_, rfl⟩, fun k hk => ?_⟩
  · rw [HA.out.2.2.1, ptC_app]
    show w9.ownsRow B 57 2 v9 (n + 1) (ptC ps ++ [.int .i64 s.log.length, .pointer (some ⟨cb, 0, none⟩)])
    rw [HA.out.2.2.2]
    exact ho
  · rcases hat with e | e
    · exact Or.inl (e ▸ hk)
    · rw [e] at hk
      have := (H1.out.2.trans f2 (by simp)).size
      simp at hk
      exact Or.inr (by omega)
 have HX : Hid (∀ W, Fr [] w1 W → W.cell? ⟨db, 2, none⟩ = some (.slice la n lc) ∧ W.frozen? ⟨db, 2, none⟩ = false ∧ W.ownsRow B 57 2 (.slice la n lc) n (ptC ps) ∧ B ≤ W.heap.size ∧ db < W.heap.size ∧ (Value.slice la n lc).ownBlock ≠ some db) := fun W hW => by
  obtain ⟨_, x2, x3, x4, _, x6, x7, x8⟩ := HC.out W (H1.out.2.trans hW (by simp))
  exact ⟨x2, x3, x4, x6, x7, x8⟩
 clear HC HLg hTs
 go_region_law (first
  | (go_simp; refine (HCl.out w1.drew (Fr.refl _ _).drew).mono ?_; rintro e w2 ⟨cb, rfl, f2, hrc⟩; dsimp only
     have H2 : Hid (Fr [] w1 w2 ∧ ∃ rc, RQ r rc ∧ RRep w.heap.size w2 cb rc) := ⟨f2, hrc⟩
     have y2 := (HX.out w2 f2).1
     have y3 := (HX.out _ (f2.alloc (.cells #[.int .i64 L, .pointer (some ⟨cb, 0, none⟩)] 57))).1
     clear f2 hrc)
  | (refine step_append_own (by rfl) _ _ 51 (by rfl) B 57 i0 _ 2 16 Tryz.underlying51 hi hz0 hz1 hz2 rfl (by omega) (.slice la n lc) n (ptC ps) (by rfl) (HX.out _ (H2.out.1.alloc _)).2.2.1 ⟨w2.heap.size, 0, none⟩ 1 1 [.int .i64 L, .pointer (some ⟨cb, 0, none⟩)] (by rfl) (by rfl) (World.news_of_block (cs := #[.int .i64 L, .pointer (some ⟨cb, 0, none⟩)]) (t := 57) (fr := (0, 0)) (heap_alloc_new w2 _)) (by simp [Value.oneCell']) (by unfold maxLen; omega) (by omega) (HX.out _ (H2.out.1.alloc _)).2.2.2.1 ?_; intro v9 w9 hown9 hgrow9 hat9
     obtain ⟨va9, vc9, hv9⟩ := own_shape hown9
     subst hv9
     have hX9 := HX.out _ (H2.out.1.alloc (.cells #[.int .i64 L, .pointer (some ⟨cb, 0, none⟩)] 57))
     have c9 : w9.cell? ⟨db, 2, none⟩ = some (.slice la n lc) := (hgrow9.cell_far ⟨db, 2, none⟩ hX9.2.2.2.2.1 (Ne.symm hX9.2.2.2.2.2)).trans hX9.1
     have z9 : w9.frozen? ⟨db, 2, none⟩ = false := (hgrow9.frozen_far ⟨db, 2, none⟩ hX9.2.2.2.2.1 (Ne.symm hX9.2.2.2.2.2)).trans hX9.2.1
     have H9 : Hid (∃ v9' cb rc, PtPost B w (w9.setCell ⟨db, 2, none⟩ (.slice va9 (n + 1) vc9)) db b s r (.slice la n lc) ps v9' cb rc) := (by
      obtain ⟨f2, rc, hq, rr⟩ := H2.out
      exact ⟨_, cb, rc, HFin.out _ w9 cb rc _ (f2.alloc _) hq (rr.kept0 ((Fr.refl _ _).alloc _)) hgrow9 hown9 hat9⟩)
     clear hown9 hgrow9 hat9 hX9))
 all_goals
  try go_wp2
  go_end0
  exact ⟨rfl, H9.out⟩
end Go.Proofs.YthdhegmlknpllaaGreat
