import Derived.Test.YthdhegmlknpllabGreatDoorM44
import Derived.Test.YthdhegmlknpllabGreatDoorM45
/-
  What a replica makes of a letter that comes to it, where the net is as it must be.
-/
namespace Go.Proofs.YthdhegmlknpllabGreatDoor
open Go.RowKit Go.Maps Go.MuLone

/-- What a replica's Take leaves. -/
def RtPost (r : RCfg) (w w' : World) (n : Nat) (S : Sto) (ps : List Pe) (im : List Img) (Rs : List Sto) (way : List (Nat × Lt)) (T : Int) (q i : Nat) (R : Sto) (l : Lt) (v : Value) : Prop :=
  ∃ R' l', v = .string (l'.txt i n) ∧ l'.back = true ∧ RK r.B r.b r.kb r.RB w' R' r.last r.ra r.rs r.rc ∧ Fr (foot r.b R) w w' ∧ (∀ k ∈ foot r.b R', k ∈ foot r.b R ∨ w.heap.size ≤ k) ∧ NInv n S ps im (Rs.set i R') (way ++ [(i, l')]) T (q + 1) ∧ RStep R R' l l'

theorem ofL_stream (t : ByteArray) : ofL t.data.toList = t := rfl

theorem rtake {n : Nat} {S : Sto} {ps : List Pe} {im : List Img} {Rs : List Sto} {way : List (Nat × Lt)} {T : Int} {q : Nat} (I : NInv n S ps im Rs way T q) {i : Nat} {p : Pe} {R : Sto} {r : RCfg} (hp : ps[i]? = some p) (hR : Rs[i]? = some R) {l : Lt} (hl : LtOk n im p (lastG R.ss) l) (hb : l.back = false) (hq : q ≤ 800000) (w : World) (h : RM r w R) :
    Calls Tryz.prog 21 #[.pointer (some ⟨r.kb, 0, none⟩), .string (l.txt i n)] w fun e w' => ∃ v, e = .returned v ∧ RtPost r w w' n S ps im Rs way T q i R l v := by
  have o := I.pe i p R hp hR
  have ro := I.re R (List.mem_of_getElem? hR)
  have hi : i < ps.length := (List.getElem?_eq_some_iff.1 hp).1
  have hpl := I.pl
  have hn1 := I.n1
  have hnum := o.num
  have hset : Rs.set i R = Rs := set_self _ _ _ hR
  have hrl := ro.rp.len
  cases l using Lt.cs with
  | ask num =>
    obtain ⟨l1, l2⟩ := hl
    refine (rtake_ask r.B r.b r.kb r.RB R r.last r.ra r.rs r.rc i num w h.rk (by omega) (by omega) ⟨l1, by omega⟩).mono ?_
    rintro e w' ⟨rfl, rk, f⟩
    refine ⟨_, rfl, R, .has num (lastG R.ss), rfl, rfl, rk, f, fun _ hk => Or.inl hk, ?_, ⟨rfl, rfl, rfl⟩⟩
    rw [hset]
    exact I.rHas hp hR ⟨l1, l2⟩
  | data num f t m b =>
    have D := hl.2.1
    have hsz := streamT_size f t m n b
    have hlen := D.may.len
    have hsl : (streamT f t m n b).data.toList.length ≤ 900000 := by
      have : (streamT f t m n b).data.toList.length = (streamT f t m n b).size := by simp
      omega
    have hnum2 : 0 ≤ num ∧ num < 4294967296 := ⟨hl.1.1, by have := hl.1.2; omega⟩
    by_cases hin : ∃ x ∈ R.ss, x.guid = t
    · have ti := ti_dup r.B r.b r.kb r.RB R r.last r.ra r.rs r.rc n q ro.rp f t m b D.may hin
      refine (rtake_data r.B r.b r.kb r.RB R r.last r.ra r.rs r.rc i num (streamT f t m n b).data.toList 71 t _ w h.rk (by omega) hnum2 hsl ti (Or.inl rfl)).mono ?_
      rintro e w' ⟨rfl, R', rk, f, ft, rfl⟩
      refine ⟨_, rfl, R', .got num t, rfl, rfl, rk, f, ft, ?_, ⟨rfl, rfl, Or.inl ⟨rfl, hin⟩⟩⟩
      rw [hset]
      exact I.rDup hp hR hl hin
    · by_cases hbs : f = lastG R.ss
      · have hlk : ∀ k (hk : k < b.length), 0 ≤ b[k].1 ∧ b[k].1 < (n : Int) := fun k hk => by
          have h1 := D.may.up k hk
          have h2 := least_nonneg D.may.up k (Nat.le_of_lt hk)
          omega
        have ti := ti_ok r.B r.b r.kb r.RB R r.last r.ra r.rs r.rc n q ro.rp f t m b D.may hin hbs (by omega) h.ok.1 (by have := h.ok.2; omega) hlk
        refine (rtake_data r.B r.b r.kb r.RB R r.last r.ra r.rs r.rc i num (streamT f t m n b).data.toList 71 t _ w h.rk (by omega) hnum2 hsl ti (Or.inl rfl)).mono ?_
        rintro e w' ⟨rfl, R', rk, fr, ft, Q⟩
        refine ⟨_, rfl, R', .got num t, rfl, rfl, rk, fr, ft, (I.rOk hp hR hl hbs Q).1, ⟨rfl, rfl, Or.inr ⟨hbs, Q.lst⟩⟩⟩
      · have ti := ti_base r.B r.b r.kb r.RB R r.last r.ra r.rs r.rc n q ro.rp f t m b D.may hin hbs
        refine (rtake_data r.B r.b r.kb r.RB R r.last r.ra r.rs r.rc i num (streamT f t m n b).data.toList 72 (lastG R.ss) _ w h.rk (by omega) hnum2 hsl ti (Or.inr rfl)).mono ?_
        rintro e w' ⟨rfl, R', rk, fr, ft, rfl⟩
        refine ⟨_, rfl, R', .has num (lastG R'.ss), rfl, rfl, rk, fr, ft, ?_, ⟨rfl, rfl, rfl, hbs⟩⟩
        rw [hset]
        exact I.rHas hp hR hl.1
  | has _ _ => cases hb
  | got _ _ => cases hb
end Go.Proofs.YthdhegmlknpllabGreatDoor

/-
  The walk of tetherkeep's gives (22).
-/
namespace Go.Proofs.YthdhegmlknpllabGreatDoor
open Go.RowKit Go.Maps Go.MuLone

/-- What a letter that comes makes of the net. -/
def GStep (im : List Img) (ps ps' : List Pe) (Rs Rs' : List Sto) (way1 way' : List (Nat × Lt)) (i : Nat) (l : Lt) : Prop :=
  (l.back = true ∧ Rs' = Rs ∧ ∃ p p' out, ps[i]? = some p ∧ ps' = ps.set i p' ∧ SStep p p' (nwG im.length) l out ∧ way' = way1 ++ out.map fun l => (i, l)) ∨
  (l.back = false ∧ ps' = ps ∧ ∃ R R' l', Rs[i]? = some R ∧ Rs' = Rs.set i R' ∧ RStep R R' l l' ∧ way' = way1 ++ [(i, l')])

/-- A net: where it lies. -/
structure NC where
  nb : Nat
  BN : Nat
  n : Nat
  c : SCfg
  rcs : List RCfg
/-- A net: what it is. -/
structure PS where
  S : Sto
  ti : Int
  ps : List Pe
  im : List Img
  Rs : List Sto
  way : List (Nat × Lt)
  q : Nat
/-- A net in memory that is as it must be, as it goes on from w0. -/
structure Net (w0 W : World) (N : NC) (x : PS) : Prop where
  m : ∃ rv wv iv vs, NM N.nb N.BN N.n N.c N.rcs W x.S x.ti x.ps x.im x.Rs x.way rv wv iv vs
  I : NInv N.n x.S x.ps x.im x.Rs x.way (x.ti + N.c.mo) x.q
  C : CfOk N.c x.ti (x.ti + N.c.mo)
  be : Below w0.heap.size w0 W
  lo : (w0.heap.size ≤ N.c.B ∧ w0.heap.size ≤ N.c.xb ∧ w0.heap.size ≤ N.c.pb) ∧ (∀ r ∈ N.rcs, w0.heap.size ≤ r.B) ∧ w0.heap.size ≤ N.BN

theorem Net.same {w0 W W' : World} {N : NC} {x : PS} (h : Net w0 W N x) (hf : Fr [] W W') : Net w0 W' N x := by
  obtain ⟨rv, wv, iv, vs, m⟩ := h.m
  exact ⟨⟨rv, wv, iv, vs, m.same hf⟩, h.I, h.C, h.be.trans (hf.below h.be.size (by simp)), h.lo⟩
theorem Net.srcBelow {w0 W W' : World} {N : NC} {x : PS} (h : Net w0 W N x) {S' : Sto} {ti' : Int} {ps' : List Pe} (s : SS N.c W W' x.S S' ti' ps') : Below w0.heap.size w0 W' := by
  obtain ⟨rv, wv, iv, vs, m⟩ := h.m
  refine h.be.trans (s.fr.below h.be.size (fun k hk => ?_))
  simp only [List.mem_cons] at hk
  rcases hk with rfl | rfl | hk
  · exact h.lo.1.2.1
  · exact h.lo.1.2.2
  · exact Nat.le_trans h.lo.1.1 (m.sk.rep.lt k hk).1
theorem Net.repBelow {w0 W W' : World} {N : NC} {x : PS} (h : Net w0 W N x) {i : Nat} {r : RCfg} {R : Sto} (hr : N.rcs[i]? = some r) (hR : x.Rs[i]? = some R) (f : Fr (foot r.b R) W W') : Below w0.heap.size w0 W' := by
  obtain ⟨rv, wv, iv, vs, m⟩ := h.m
  exact h.be.trans (f.below h.be.size (fun k hk => Nat.le_trans (h.lo.2.1 r (List.mem_of_getElem? hr)) ((m.rm i r R hr hR).rk.rep.lt k hk).1))

theorem Net.setWay {w0 W W9 : World} {N : NC} {x : PS} (h : Net w0 W N x) {rv wv iv : Value} {vs : List Value} (M : NM N.nb N.BN N.n N.c N.rcs W x.S x.ti x.ps x.im x.Rs x.way rv wv iv vs) {F : List Nat} (hf : Fr F W W9) (ht : ∀ j ∈ F, N.BN ≤ j ∧ ∃ cur, W.heap[j]? = some (.cells cur 108 (0, 0))) {wv' : Value} {way' : List (Nat × Lt)} {q' : Nat} (ho : W9.ownsRow N.BN 108 3 wv' way'.length (mlC N.n way')) (I' : NInv N.n x.S x.ps x.im x.Rs way' (x.ti + N.c.mo) q') : Net w0 (W9.setCell ⟨N.nb, 3, none⟩ wv') N ⟨x.S, x.ti, x.ps, x.im, x.Rs, way', q'⟩ := by
  refine ⟨⟨rv, wv', iv, vs, M.setWay hf (fun j hj => (ht j hj).2) ho⟩, I', h.C, ?_, h.lo⟩
  have h1 := h.lo.2.2
  have h2 := M.hnb
  exact h.be.trans (((hf.mono (F' := N.nb :: F) (fun k hk => List.mem_cons_of_mem _ hk)).setCell _ (Or.inl (by simp))).below h.be.size (fun k hk => by
    rcases List.mem_cons.1 hk with rfl | hk
    · omega
    · have := (ht k hk).1
      omega))
theorem mlC_take (n : Nat) : ∀ (l : List (Nat × Lt)) (i : Nat), (mlC n l).take (i * 3) = mlC n (l.take i)
  | [], i => by simp [mlC]
  | x :: r, 0 => by simp [mlC]
  | x :: r, i + 1 => by
    have ih := mlC_take n r i
    simp only [mlC, List.flatMap_cons, List.take_succ_cons] at ih ⊢
    rw [List.take_append, show (i + 1) * 3 - (ml3 n x).length = i * 3 from by show (i + 1) * 3 - 3 = _; omega, ih, List.take_of_length_le (by show 3 ≤ _; omega)]
theorem mlC_drop (n : Nat) : ∀ (l : List (Nat × Lt)) (i : Nat), (mlC n l).drop (i * 3) = mlC n (l.drop i)
  | [], i => by simp [mlC]
  | x :: r, 0 => by simp [mlC]
  | x :: r, i + 1 => by
    have ih := mlC_drop n r i
    simp only [mlC, List.flatMap_cons, List.drop_succ_cons] at ih ⊢
    rw [List.drop_append, show (i + 1) * 3 - (ml3 n x).length = i * 3 from by show (i + 1) * 3 - 3 = _; omega, ih, List.drop_of_length_le (by show 3 ≤ _; omega)]
    rfl
theorem mlC_app (n : Nat) (a b : List (Nat × Lt)) : mlC n (a ++ b) = mlC n a ++ mlC n b := by simp [mlC]
theorem mlC_one (n : Nat) (l : List (Nat × Lt)) : ∀ u ∈ mlC n l, u.oneCell' = true := by
  intro u hu
  simp only [mlC, List.mem_flatMap] at hu
  obtain ⟨m, _, hm⟩ := hu
  simp [ml3] at hm
  rcases hm with rfl | rfl | rfl <;> rfl
/-- A part of the row, as what is appended. -/
theorem ml_news {W : World} {BN wg wl wc n : Nat} {way : List (Nat × Lt)} (h : W.ownsRow BN 108 3 (.slice (some ⟨wg, 0, none⟩) wl wc) wl (mlC n way)) (i j : Nat) (hj : i + j ≤ wl) : ∀ k u, (mlC n ((way.drop i).take j))[k]? = some u → W.cell? ((⟨wg, i * 3, none⟩ : Addr).add k) = some u := by
  intro k u hu
  have hk : k < j * 3 := by
    have := (List.getElem?_eq_some_iff.1 hu).1
    rw [mlC_len, List.length_take, List.length_drop] at this
    omega
  have e8 : (⟨wg, i * 3, none⟩ : Addr).add k = ⟨wg, i * 3 + k, none⟩ := by
    unfold Addr.add
    split
    · rename_i e
      rw [e]
      rfl
    · rfl
  rw [e8, h.cellAt (i * 3 + k) (by omega), ← hu, ← mlC_take, List.getElem?_take, if_pos hk, ← mlC_drop, List.getElem?_drop]

theorem own_rest {W : World} {B BN a wl n : Nat} {v : Value} {A C : List (Nat × Lt)} (h : W.ownsRow B 108 3 v (a + (wl - (a + 1))) (mlC n A ++ mlC n C)) (hB : BN ≤ B) (ha : a + 1 ≤ wl) : W.ownsRow BN 108 3 v (wl - 1) (mlC n (A ++ C)) := by
  rw [mlC_app]
  have e8 : a + (wl - (a + 1)) = wl - 1 := by omega
  rw [e8] at h
  exact Kp.own_base h hB

theorem own_rest0 {W : World} {B BN a n : Nat} {v : Value} {A C : List (Nat × Lt)} (h : W.ownsRow B 108 3 v a (mlC n A)) (hB : BN ≤ B) : W.ownsRow BN 108 3 v (a + 1 - 1) (mlC n (A ++ C.take (a + 1 - (a + 1)))) := by
  rw [Nat.sub_self, List.take_zero, List.append_nil, Nat.add_sub_cancel]
  exact Kp.own_base h hB
theorem back_cases {l : Lt} (h : l.back = true) : (∃ num g, l = .has num g) ∨ ∃ num g, l = .got num g := by
  cases l using Lt.cs with
  | ask _ => cases h
  | data _ _ _ _ _ => cases h
  | has num g => exact Or.inl ⟨num, g, rfl⟩
  | got num g => exact Or.inr ⟨num, g, rfl⟩
theorem sstep_fwd {p p' : Pe} {nw : Int} {l : Lt} {out : List Lt} (h : SStep p p' nw l out) : ∀ m ∈ out, m.back = false := by
  intro m hm
  cases l using Lt.cs with
  | ask _ => exact h.elim
  | data _ _ _ _ _ => exact h.elim
  | has num g =>
    simp only [SStep] at h
    split at h
    · rw [h.2] at hm; simp at hm
    · split at h
      · split at h
        · rw [h.2] at hm; simp at hm
        · obtain ⟨un, mm, b, _, rfl⟩ := h
          simp at hm
          rw [hm]
          rfl
      · rw [h.2] at hm; simp at hm
  | got num g =>
    simp only [SStep] at h
    split at h
    · rw [h.2] at hm; simp at hm
    · rw [h.2] at hm; simp at hm
/-- The net, behind the source's Take. -/
theorem gv_three {w0 W2 W w3 : World} {N : NC} {x : PS} {way1 : List (Nat × Lt)} {S' : Sto} {i mb : Nat} {p' : Pe} {out : List Lt} {rv wv iv : Value} {vs : List Value} {o : Array Value} (f : Fr [] W2 W) (h : Net w0 W2 N ⟨x.S, x.ti, x.ps, x.im, x.Rs, way1, x.q⟩) (M : NM N.nb N.BN N.n N.c N.rcs W2 x.S x.ti x.ps x.im x.Rs way1 rv wv iv vs) (hb : W2.heap[mb]? = some (.cells o 108 (0, 0))) (hmw : wv.ownBlock ≠ some mb) (hq : x.q ≤ 700000) (ss : SS N.c W w3 x.S S' x.ti (x.ps.set i p')) (I : NInv N.n S' (x.ps.set i p') x.im x.Rs (way1 ++ out.map fun l => (i, l)) (x.ti + N.c.mo) (x.q + 3)) :
    Hid (NM N.nb N.BN N.n N.c N.rcs w3 S' x.ti (x.ps.set i p') x.im x.Rs way1 rv wv iv vs ∧ NInv N.n S' (x.ps.set i p') x.im x.Rs (way1 ++ out.map fun l => (i, l)) (x.ti + N.c.mo) (x.q + 3) ∧ (CfOk N.c x.ti (x.ti + N.c.mo) ∧ Below w0.heap.size w0 w3 ∧ ((w0.heap.size ≤ N.c.B ∧ w0.heap.size ≤ N.c.xb ∧ w0.heap.size ≤ N.c.pb) ∧ (∀ r ∈ N.rcs, w0.heap.size ≤ r.B) ∧ w0.heap.size ≤ N.BN)) ∧ w3.heap[mb]? = some (.cells o 108 (0, 0)) ∧ mb ∉ N.nb :: wv.ownBlock.toList ∧ way1.length ≤ 100000000) := by
  have h1 := h.same f
  have M1 := M.same f
  have b1 : W.heap[mb]? = some (.cells o 108 (0, 0)) := by rw [f.block mb (Array.getElem?_eq_some_iff.1 hb).1 (by simp)]; exact hb
  refine ⟨M1.source ss, I, ⟨h.C, h1.srcBelow ss, h.lo⟩, ?_, fun hm => ?_, ?_⟩
  · rw [ss.fr.block mb (Array.getElem?_eq_some_iff.1 b1).1 (fun hm => by
      rcases src_tags M1.sk mb hm _ _ b1 with r | r | r | r | r | r | r <;> cases r)]
    exact b1
  · rcases List.mem_cons.1 hm with rfl | hm
    · rw [M.blk] at hb
      simp at hb
    · simp at hm
      exact hmw hm
  · have h8 : way1.length ≤ 4 * x.q := h.I.wl
    omega
theorem gv_goes {w3 W : World} {N : NC} {S' : Sto} {ti : Int} {ps : List Pe} {im : List Img} {Rs : List Sto} {way1 : List (Nat × Lt)} {i : Nat} {R : Sto} {p p' : Pe} {l : Lt} {out : List Lt} {rv wv iv : Value} {vs : List Value} {v : Value} (M : NM N.nb N.BN N.n N.c N.rcs w3 S' ti ps im Rs way1 rv wv iv vs) (ow : w3.ownsRow W.heap.size 115 2 v out.length (ltC (out.map fun l => (i, l.txt i N.n)))) (st : SStep p p' (nwG im.length) l out) (ol : out.length ≤ 1) (hw : way1.length ≤ 100000000) (hR : Rs[i]? = some R) :
    Calls Tryz.prog 25 #[.pointer (some ⟨N.nb, 0, none⟩), v] w3 fun e w' => e = .returned (.bool true) ∧ GoPost N.nb N.BN N.n N.c N.rcs w3 w' S' ti ps im Rs (way1 ++ out.map fun l => (i, l)) rv iv vs wv := by
  have e1 : lts N.n (out.map fun l => (i, l)) = out.map fun l => (i, l.txt i N.n) := by
    unfold lts
    rw [List.map_map]
    rfl
  refine goes_any N.nb N.BN N.n N.c N.rcs w3 S' ti ps im Rs way1 (out.map fun l => (i, l)) rv wv iv vs W.heap.size v M ?_ (by rw [List.length_map]; omega) (fun m hm => ?_) hw
  · rw [e1, List.length_map]
    exact ow
  · obtain ⟨l', hl', rfl⟩ := List.mem_map.1 hm
    exact ⟨sstep_fwd st l' hl', by rw [M.rl]; exact (List.getElem?_eq_some_iff.1 hR).1⟩
theorem net_goes {w0 w3 w4 : World} {N : NC} {S' : Sto} {ti : Int} {ps : List Pe} {im : List Img} {Rs : List Sto} {way1 way2 : List (Nat × Lt)} {q : Nat} {rv wv wv4 iv : Value} {vs : List Value} (M : NM N.nb N.BN N.n N.c N.rcs w3 S' ti ps im Rs way1 rv wv iv vs) (I : NInv N.n S' ps im Rs way2 (ti + N.c.mo) q) (h : CfOk N.c ti (ti + N.c.mo) ∧ Below w0.heap.size w0 w3 ∧ ((w0.heap.size ≤ N.c.B ∧ w0.heap.size ≤ N.c.xb ∧ w0.heap.size ≤ N.c.pb) ∧ (∀ r ∈ N.rcs, w0.heap.size ≤ r.B) ∧ w0.heap.size ≤ N.BN)) (M4 : NM N.nb N.BN N.n N.c N.rcs w4 S' ti ps im Rs way2 rv wv4 iv vs) (f : Fr (N.nb :: wv.ownBlock.toList) w3 w4) : Net w0 w4 N ⟨S', ti, ps, im, Rs, way2, q⟩ := by
  refine ⟨⟨rv, wv4, iv, vs, M4⟩, I, h.1, h.2.1.trans (f.below h.2.1.size (fun k hk => ?_)), h.2.2⟩
  have h1 := h.2.2.2.2
  rcases List.mem_cons.1 hk with rfl | hk
  · have := M.hnb
    omega
  · simp at hk
    have := (own_tag M.wo hk).1
    omega
/-- The net, behind a replica's Take. -/
theorem gr_three {w0 W2 W w3 : World} {N : NC} {x : PS} {way1 : List (Nat × Lt)} {i mb : Nat} {r : RCfg} {R R' : Sto} {l' : Lt} {rv wv iv : Value} {vs : List Value} {o : Array Value} (f : Fr [] W2 W) (h : Net w0 W2 N ⟨x.S, x.ti, x.ps, x.im, x.Rs, way1, x.q⟩) (M : NM N.nb N.BN N.n N.c N.rcs W2 x.S x.ti x.ps x.im x.Rs way1 rv wv iv vs) (hb : W2.heap[mb]? = some (.cells o 108 (0, 0))) (hmw : wv.ownBlock ≠ some mb) (hr : N.rcs[i]? = some r) (hR : x.Rs[i]? = some R) (rk : RK r.B r.b r.kb r.RB w3 R' r.last r.ra r.rs r.rc) (f3 : Fr (foot r.b R) W w3) (ft : ∀ k ∈ foot r.b R', k ∈ foot r.b R ∨ W.heap.size ≤ k) (I : NInv N.n x.S x.ps x.im (x.Rs.set i R') (way1 ++ [(i, l')]) (x.ti + N.c.mo) (x.q + 1)) :
    Hid (NM N.nb N.BN N.n N.c N.rcs w3 x.S x.ti x.ps x.im (x.Rs.set i R') way1 rv wv iv vs ∧ NInv N.n x.S x.ps x.im (x.Rs.set i R') (way1 ++ [(i, l')]) (x.ti + N.c.mo) (x.q + 1) ∧ (CfOk N.c x.ti (x.ti + N.c.mo) ∧ Below w0.heap.size w0 w3 ∧ ((w0.heap.size ≤ N.c.B ∧ w0.heap.size ≤ N.c.xb ∧ w0.heap.size ≤ N.c.pb) ∧ (∀ r ∈ N.rcs, w0.heap.size ≤ r.B) ∧ w0.heap.size ≤ N.BN)) ∧ w3.heap[mb]? = some (.cells o 108 (0, 0)) ∧ mb ∉ N.nb :: wv.ownBlock.toList ∧ way1.length ≤ 4 * x.q) := by
  have h1 := h.same f
  have M1 := M.same f
  have b1 : W.heap[mb]? = some (.cells o 108 (0, 0)) := by rw [f.block mb (Array.getElem?_eq_some_iff.1 hb).1 (by simp)]; exact hb
  refine ⟨M1.replica hr hR rk f3 ft, I, ⟨h.C, h1.repBelow hr hR f3, h.lo⟩, ?_, fun hm => ?_, h.I.wl⟩
  · rw [f3.block mb (Array.getElem?_eq_some_iff.1 b1).1 (tag_foot (M1.rm i r R hr hR).rk.rep b1 (by decide))]
    exact b1
  · rcases List.mem_cons.1 hm with rfl | hm
    · rw [M.blk] at hb
      simp at hb
    · simp at hm
      exact hmw hm
theorem ro_cell {nb BN n : Nat} {c : SCfg} {rcs : List RCfg} {W : World} {S : Sto} {ti : Int} {ps : List Pe} {im : List Img} {Rs : List Sto} {way : List (Nat × Lt)} {rg m rc : Nat} {wv iv : Value} {vs : List Value} {i : Nat} {r : RCfg} (M : NM nb BN n c rcs W S ti ps im Rs way (.slice (some ⟨rg, 0, none⟩) m rc) wv iv vs) (hm : rcs.length = m) (hr : rcs[i]? = some r) : W.cell? ⟨rg, i, none⟩ = some (.pointer (some ⟨r.kb, 0, none⟩)) := by
  have h1 := M.ro
  rw [hm] at h1
  have hi : i < m := by rw [← hm]; exact (List.getElem?_eq_some_iff.1 hr).1
  rw [h1.cellAt i (by omega)]
  unfold rpC
  rw [List.getElem?_map, hr]
  rfl
theorem txt_ne (i n : Nat) (l : Lt) : (l.txt i n).toList.isEmpty = false := by
  cases l using Lt.cs <;> (rw [ByteArray.toList_eq]; rfl)

set_option maxRecDepth 100000 in
set_option maxHeartbeats 6400000 in
theorem gives_any (w0 : World) (N : NC) (x : PS) (at' : Nat) (stays : Bool) (i : Nat) (l : Lt) (w : World) (h : Net w0 w N x) (hq : x.q ≤ 700000) (hat : x.way[at']? = some (i, l)) :
    Calls Tryz.prog 22 #[.pointer (some ⟨N.nb, 0, none⟩), .int .i64 at', .bool stays] w fun e w' => e = .returned (.bool true) ∧ ∃ S' ps' Rs' way', Net w0 w' N ⟨S', x.ti, ps', x.im, Rs', way', x.q + 3⟩ ∧ GStep x.im x.ps ps' x.Rs Rs' (if stays then x.way else x.way.eraseIdx at') way' i l := by
  obtain ⟨i0, hi, hz0, hz1, hz2⟩ := info_parts info108
  obtain ⟨rv, wv, iv, vs, M⟩ := h.m
  obtain ⟨wa, wc, hwv⟩ := own_shape M.wo
  subst hwv
  have hal : at' < x.way.length := (List.getElem?_eq_some_iff.1 hat).1
  obtain ⟨wl, hwl⟩ : ∃ wl, x.way.length = wl := ⟨_, rfl⟩
  have hwl2 : wl ≤ 4 * x.q := by rw [← hwl]; exact h.I.wl
  obtain ⟨wg, hwg, hcap, hcl⟩ := own_addr M.wo (by omega)
  subst hwg
  obtain ⟨g0, g1, g2⟩ := mlC_get N.n x.way at' hal
  rw [(List.getElem?_eq_some_iff.1 hat).2] at g0 g1 g2
  have d0 : w.cell? ⟨wg, at' * 3, none⟩ = some (.int .i64 (i : Int)) := (hcl _ (by omega)).trans g0
  have d1 : w.cell? ⟨wg, at' * 3 + 1, none⟩ = some (.bool l.back) := (hcl _ (by omega)).trans g1
  have d2 : w.cell? ⟨wg, at' * 3 + 2, none⟩ = some (.string (l.txt i N.n)) := (hcl _ (by omega)).trans g2
  obtain ⟨Tx, hTx⟩ : ∃ Tx, l.txt i N.n = Tx := ⟨_, rfl⟩
  obtain ⟨bk, hbk⟩ : ∃ bk, l.back = bk := ⟨_, rfl⟩
  rw [hTx] at d2
  rw [hbk] at d1
  have HT : Hid (l.txt i N.n = Tx ∧ l.back = bk) := ⟨hTx, hbk⟩
  obtain ⟨w1, hw1⟩ : ∃ w1, w.alloc (.cells #[.int .i64 (i : Int), .bool bk, .string Tx] 108) = w1 := ⟨_, rfl⟩
  obtain ⟨mb, hmb⟩ : ∃ mb, w.heap.size = mb := ⟨_, rfl⟩
  have n1 : w1.heap[mb]? = some (.cells #[.int .i64 (i : Int), .bool bk, .string Tx] 108 (0, 0)) := by rw [← hw1, ← hmb]; exact heap_alloc_new w _
  have f1 : Fr [] w w1 := by rw [← hw1]; exact (Fr.refl _ _).alloc _
  have M1 := M.same f1
  have N1 := h.same f1
  obtain ⟨x0, x1, x2, x3, x4, z3, z4⟩ := M.cells
  rw [hwl] at x3
  have y3 : w1.cell? ⟨N.nb, 3, none⟩ = some (.slice (some ⟨wg, 0, none⟩) wl wc) := f1.gb.cell x3 (by simp)
  have u3 : w1.frozen? ⟨N.nb, 3, none⟩ = false := froz_of M1.blk _
  have hltz : (at' : Int) < (wl : Int) := by omega
  have a0 : (0 : Int) ≤ (at' : Int) := by omega
  have a1 : (at' : Int) + 1 ≤ (wl : Int) := by omega
  have hcap2 : (wl : Int) ≤ (wc : Int) := by omega
  have hcap3 : wl ≤ wc := by omega
  have HS : Hid (Net w0 w1 N x ∧ NM N.nb N.BN N.n N.c N.rcs w1 x.S x.ti x.ps x.im x.Rs x.way rv (.slice (some ⟨wg, 0, none⟩) wl wc) iv vs ∧ w1.heap[mb]? = some (.cells #[.int .i64 (i : Int), .bool bk, .string Tx] 108 (0, 0)) ∧ x.way[at']? = some (i, l) ∧ x.way.length = wl ∧ w.heap.size = mb) := ⟨N1, by rw [hwl] at M1; exact M1, n1, hat, hwl, hmb⟩
  have hw1' := hw1
  clear hcl g0 g1 g2 x0 x1 x2 x4 z3 z4 hTx hbk M1 N1 n1 f1 hat M h hw1 hwl hal hcap
  obtain ⟨p, R, hp, hR, hlt⟩ : ∃ (p : Pe) (R : Sto), x.ps[i]? = some p ∧ x.Rs[i]? = some R ∧ LtOk N.n x.im p (lastG R.ss) l := HS.out.1.I.wy (i, l) (List.mem_of_getElem? HS.out.2.2.2.1)
  have HP : Hid (x.ps[i]? = some p ∧ x.Rs[i]? = some R ∧ LtOk N.n x.im p (lastG R.ss) l) := ⟨hp, hR, hlt⟩
  clear hp hR hlt
  obtain ⟨way1, hway1⟩ : ∃ way1, (if stays then x.way else x.way.eraseIdx at') = way1 := ⟨_, rfl⟩
  have HW1 : Hid ((if stays then x.way else x.way.eraseIdx at') = way1) := hway1
  rw [hway1]
  clear hway1
  have q1 : w1.cell? ⟨mb, 1, none⟩ = some (.bool bk) := by rw [cell_of HS.out.2.2.1]; rfl
  have hmn : mb ≠ N.nb := fun e => by
    have h8 := HS.out.2.1.blk
    rw [← e, HS.out.2.2.1] at h8
    simp at h8
  cases stays
  · have HO1 : Hid (w1.ownsRow N.BN 108 3 (.slice (some ⟨wg, 0, none⟩) wl wc) wl (mlC N.n x.way)) := by
      have h8 := HS.out.2.1.wo
      rw [HS.out.2.2.2.2.1] at h8
      exact h8
    have hBN1 : N.BN ≤ w1.heap.size := by
      have h8 := (Array.getElem?_eq_some_iff.1 HS.out.2.1.blk).1
      have h9 := HS.out.2.1.hnb
      omega
    have hl1 : (mlC N.n (x.way.take at')).length = at' * 3 := by
      rw [mlC_len, List.length_take]
      have := HS.out.2.2.2.2.1
      omega
    have hl2 : (mlC N.n ((x.way.drop (at' + 1)).take (wl - (at' + 1)))).length = (wl - (at' + 1)) * 3 := by
      rw [mlC_len, List.length_take, List.length_drop]
      have := HS.out.2.2.2.2.1
      omega
    have hws : at' + 1 ≤ wl := by omega
    have hwmx : wl ≤ 2800000 := by omega
    have HNW1 : Hid (∀ k u, (mlC N.n (x.way.take at'))[k]? = some u → w1.cell? ((⟨wg, 0, none⟩ : Addr).add k) = some u) := by
      have h8 := ml_news HO1.out 0 at' (by omega)
      rw [List.drop_zero] at h8
      exact h8
    by_cases hcc : wc = at' + 1
    · subst hcc
      have hwle : wl = at' + 1 := by omega
      subst hwle
      cases bk
      · go_enter Tryz.func22, Tryz.ntmps22
        go_wp2_with (first
          | (at_builtin; refine wpList_append_own _ rfl _ _ 29 rfl w1.heap.size 108 i0 _ 3 32 Tryz.underlying29 hi hz0 hz1 hz2 rfl (by omega) (.slice va9 at' vc9) at' (mlC N.n (x.way.take at')) rfl H9.out.1 ⟨wg, 0, none⟩ 0 0 [] rfl rfl (fun k u hu => by simp at hu) (fun u hu => by simp at hu) (by unfold maxLen; omega) (by omega) (by have := H9.out.2.1.size; omega) ?_; intro v10 w10 hown10 hgrow10 hne10; rw [Nat.add_zero, List.append_nil] at hown10; obtain ⟨va10, vc10, hv10⟩ := own_shape hown10; subst hv10; have H10 : Hid (w10.ownsRow N.BN 108 3 (.slice va10 at' vc10) ((at' + 1) - 1) (mlC N.n (x.way.take at' ++ (x.way.drop (at' + 1)).take ((at' + 1) - (at' + 1)))) ∧ Fr [] w1 w10 ∧ ∀ k, (Value.slice va10 at' vc10).ownBlock = some k → w1.heap.size ≤ k) := ⟨own_rest0 hown10 hBN1, H9.out.2.1.trans ((Fr.refl (Value.slice va9 at' vc9).ownBlock.toList _).grown hgrow10 (fun k hk => Or.inl (by simp [hk]))) (fun k hk => Or.inr (by simp at hk; exact (own_tag H9.out.1 hk).1)), fun k hk => (own_tag hown10 hk).1⟩; have y103 : w10.cell? ⟨N.nb, 3, none⟩ = some (.slice (some ⟨wg, 0, none⟩) (at' + 1) (at' + 1)) := H10.out.2.1.gb.cell y3 (by simp); have u103 : w10.frozen? ⟨N.nb, 3, none⟩ = false := froz_of (HS.out.2.1.same H10.out.2.1).blk _; have q101 : w10.cell? ⟨mb, 1, none⟩ = some (.bool false) := H10.out.2.1.gb.cell q1 (by simp); clear hown10 hgrow10 hne10)
          | (at_builtin; refine wpList_append_own _ rfl _ _ 29 rfl w1.heap.size 108 i0 _ 3 32 Tryz.underlying29 hi hz0 hz1 hz2 rfl (by omega) (.slice none 0 0) 0 [] rfl (World.ownsRow_nil _ _ _ _) ⟨wg, 0, none⟩ at' (at' + 1) (mlC N.n (x.way.take at')) rfl hl1 HNW1.out (mlC_one _ _) (by unfold maxLen; omega) (by omega) (Nat.le_refl _) ?_; intro v9 w9 hown9 hgrow9 hne9; rw [Nat.zero_add] at hown9; obtain ⟨va9, vc9, hv9⟩ := own_shape hown9; subst hv9; have H9 : Hid (w9.ownsRow w1.heap.size 108 3 (.slice va9 at' vc9) at' (mlC N.n (x.way.take at')) ∧ Fr [] w1 w9 ∧ w9.ownsRow N.BN 108 3 (.slice (some ⟨wg, 0, none⟩) (at' + 1) (at' + 1)) (at' + 1) (mlC N.n x.way)) := (by have f8 : Fr [] w1 w9 := (Fr.refl _ _).grown hgrow9 (fun k hk => by simp [Value.ownBlock] at hk); exact ⟨hown9, f8, own_fr' HO1.out f8⟩); have y93 : w9.cell? ⟨N.nb, 3, none⟩ = some (.slice (some ⟨wg, 0, none⟩) (at' + 1) (at' + 1)) := H9.out.2.1.gb.cell y3 (by simp); clear hown9 hgrow9 hne9))
        obtain ⟨W2, hW2⟩ : ∃ W2, w10.setCell ⟨N.nb, 3, none⟩ (.slice va10 at' vc10) = W2 := ⟨_, rfl⟩
        have HJ : Hid (Net w0 W2 N ⟨x.S, x.ti, x.ps, x.im, x.Rs, way1, x.q⟩ ∧ W2.heap[mb]? = some (.cells #[.int .i64 (i : Int), .bool false, .string Tx] 108 (0, 0)) ∧ ∃ rv2 wv2 iv2 vs2, NM N.nb N.BN N.n N.c N.rcs W2 x.S x.ti x.ps x.im x.Rs way1 rv2 wv2 iv2 vs2 ∧ wv2.ownBlock ≠ some mb) := by
          have e8 : x.way.take at' ++ (x.way.drop (at' + 1)).take ((at' + 1) - (at' + 1)) = way1 := by
            rw [← HW1.out]
            show _ = x.way.eraseIdx at'
            rw [List.eraseIdx_eq_take_drop_succ, List.take_of_length_le (l := x.way.drop (at' + 1)) (by rw [List.length_drop, HS.out.2.2.2.2.1]; exact Nat.le_refl _)]
          have e9 : way1.length = (at' + 1) - 1 := by
            rw [← e8, List.length_append, List.length_take, List.length_take, List.length_drop, HS.out.2.2.2.2.1]
            omega
          have J := HS.out.1.setWay (W9 := w10) HS.out.2.1 H10.out.2.1 (by simp) (wv' := .slice va10 at' vc10) (way' := way1) (q' := x.q) (by rw [e9, ← e8]; exact H10.out.1) (HS.out.1.I.sub (fun m hm => by
            rw [← HW1.out] at hm
            exact (List.eraseIdx_sublist _ _).subset hm) (by rw [e9, HS.out.2.2.2.2.1]; omega))
          have J2 := HS.out.2.1.setWay (W9 := w10) H10.out.2.1 (by simp) (wv' := .slice va10 at' vc10) (way' := way1) (by rw [e9, ← e8]; exact H10.out.1)
          rw [hW2] at J J2
          refine ⟨J, ?_, ⟨_, _, _, _, J2, fun e => ?_⟩⟩
          rotate_left
          · have h8 := H10.out.2.2 mb e
            have h9 := (Array.getElem?_eq_some_iff.1 HS.out.2.2.1).1
            omega
          rw [← hW2, heap_setCell_other _ _ _ _ hmn, H10.out.2.1.block mb (Array.getElem?_eq_some_iff.1 HS.out.2.2.1).1 (by simp)]
          exact HS.out.2.2.1
        rw [hW2]
        clear hW2 H9 H10 y93 y103 u103 q101
        obtain ⟨rv2, wv2, iv2, vs2, M2, hmw2⟩ := HJ.out.2.2
        obtain ⟨ra2, rc2, hrv2⟩ := own_shape M2.ro
        subst hrv2
        obtain ⟨m, hm⟩ : ∃ m, N.rcs.length = m := ⟨_, rfl⟩
        have him : i < m := by rw [← hm, M2.rl]; exact (List.getElem?_eq_some_iff.1 HP.out.2.1).1
        obtain ⟨rg, hrg, hrcap, hrcl⟩ := own_addr M2.ro (by omega)
        subst hrg
        have him' : i < N.rcs.length := by omega
        obtain ⟨r, hr⟩ : ∃ r, N.rcs[i] = r := ⟨_, rfl⟩
        have hrr : N.rcs[i]? = some r := by rw [List.getElem?_eq_getElem him', hr]
        have r0 : W2.cell? ⟨rg, i, none⟩ = some (.pointer (some ⟨r.kb, 0, none⟩)) := by
          rw [hrcl i (by omega)]
          unfold rpC
          rw [List.getElem?_map, hrr]
          rfl
        have n1 := M2.cells.2.1
        rw [hm] at n1
        have hmz : (i : Int) < (m : Int) := by omega
        have hm0 : (0 : Int) ≤ (i : Int) := by omega
        have m0 : W2.cell? ⟨mb, 0, none⟩ = some (.int .i64 (i : Int)) := by rw [cell_of HJ.out.2.1]; rfl
        have m2 : W2.cell? ⟨mb, 2, none⟩ = some (.string Tx) := by rw [cell_of HJ.out.2.1]; rfl
        have HRT : Hid (∀ W, Fr [] W2 W → Calls Tryz.prog 21 #[.pointer (some ⟨r.kb, 0, none⟩), .string Tx] W fun e w' => ∃ v, e = .returned v ∧ RtPost r W w' N.n x.S x.ps x.im x.Rs way1 (x.ti + N.c.mo) x.q i R l v) := fun W hW => by
          rw [← HT.out.1]
          exact rtake HJ.out.1.I HP.out.1 HP.out.2.1 HP.out.2.2 HT.out.2 (by show x.q ≤ 800000; omega) W ((M2.same hW).rm i r R hrr HP.out.2.1)
        have HM2 : Hid (NM N.nb N.BN N.n N.c N.rcs W2 x.S x.ti x.ps x.im x.Rs way1 (.slice (some ⟨rg, 0, none⟩) m rc2) wv2 iv2 vs2 ∧ wv2.ownBlock ≠ some mb ∧ N.rcs[i]? = some r ∧ N.rcs.length = m) := ⟨by rw [hm] at M2; exact M2, hmw2, hrr, hm⟩
        clear M2 hmw2 hrcl hr hrr him' hrcap hm
        go_region_held3 (fun w' => w'.cell? ⟨N.nb, 1, none⟩ = some (.slice (some ⟨rg, 0, none⟩) m rc2) ∧ w'.cell? ⟨mb, 0, none⟩ = some (.int .i64 (i : Int)) ∧ w'.cell? ⟨mb, 2, none⟩ = some (.string Tx) ∧ w'.cell? ⟨rg, i, none⟩ = some (.pointer (some ⟨r.kb, 0, none⟩)))
          (first
            | exact ⟨n31, m30, m32, r30⟩
            | go_keep)
          (first
            | (go_at_call 21; refine (HRT.out _ (by first | exact Fr.refl _ _ | exact (Fr.refl _ _).drew)).mono ?_; rintro e w3 ⟨v3, rfl, R', l', rfl, bk3, rk3, f3, ft3, I3, st3⟩; have H3 := gr_three (W2 := W2) (by first | exact Fr.refl _ _ | exact (Fr.refl _ _).drew) HJ.out.1 HM2.out.1 HJ.out.2.1 HM2.out.2.1 HM2.out.2.2.1 HP.out.2.1 rk3 f3 ft3 I3; have ST3 : Hid (RStep R R' l l' ∧ l'.back = true) := ⟨st3, bk3⟩; have n31 := H3.out.1.cells.2.1; have m30 : w3.cell? ⟨mb, 0, none⟩ = some (.int .i64 (i : Int)) := (by rw [cell_of H3.out.2.2.2.1]; rfl); have m32 : w3.cell? ⟨mb, 2, none⟩ = some (.string Tx) := (by rw [cell_of H3.out.2.2.2.1]; rfl); have r30 : w3.cell? ⟨rg, i, none⟩ = some (.pointer (some ⟨r.kb, 0, none⟩)) := ro_cell H3.out.1 HM2.out.2.2.2 HM2.out.2.2.1; clear rk3 f3 ft3 I3 st3 bk3))
        all_goals
          obtain ⟨Ty, hTy⟩ : ∃ Ty, Lt.txt i N.n l' = Ty := ⟨_, rfl⟩
          have HTy : Hid (Lt.txt i N.n l' = Ty) := hTy
          rw [hTy]
          have hTn : Ty.toList.isEmpty = false := by rw [← hTy]; exact txt_ne _ _ _
          clear hTy
          obtain ⟨wa3, wc3, hwv3⟩ := own_shape H3.out.1.wo
          subst hwv3
          obtain ⟨wl3, hwl3⟩ : ∃ wl3, way1.length = wl3 := ⟨_, rfl⟩
          have H3' : Hid (NM N.nb N.BN N.n N.c N.rcs w3 x.S x.ti x.ps x.im (x.Rs.set i R') way1 (.slice (some ⟨rg, 0, none⟩) m rc2) (.slice wa3 way1.length wc3) iv2 vs2 ∧ way1.length = wl3 ∧ w3.ownsRow N.BN 108 3 (.slice wa3 wl3 wc3) wl3 (mlC N.n way1)) := ⟨H3.out.1, hwl3, by have h8 := H3.out.1.wo; rw [hwl3] at h8; exact h8⟩
          have hwl4 : wl3 ≤ 2800000 := by have := H3.out.2.2.2.2.2; omega
          have n33 : w3.cell? ⟨N.nb, 3, none⟩ = some (.slice wa3 wl3 wc3) := by have h8 := H3.out.1.cells.2.2.2.1; rw [hwl3] at h8; exact h8
          have u33 : w3.frozen? ⟨N.nb, 3, none⟩ = false := froz_of H3.out.1.blk _
          have lnb : N.nb < w3.heap.size := (Array.getElem?_eq_some_iff.1 H3.out.1.blk).1
          have hBn : N.BN ≤ w3.heap.size := by have h9 := H3.out.1.hnb; omega
          have HNE : Hid ((Value.slice wa3 wl3 wc3).ownBlock ≠ some N.nb) := fun e => by
            obtain ⟨_, cur, h4⟩ := own_tag H3'.out.2.2 e
            rw [H3.out.1.blk] at h4
            simp at h4
          clear hwl3
          go_wp2
          go_region_law
            ((refine step_append_lies _ (by rfl) _ _ _ (by rfl) N.BN 108 i0 _ 3 32 Tryz.underlying29 hi hz0 hz1 hz2 rfl (by omega) (.slice wa3 wl3 wc3) wl3 (mlC N.n way1) (by rfl) ((H3'.out.2.2.alloc _).drew) ⟨w3.heap.size, 0, none⟩ 1 1 [.int .i64 (i : Int), .bool true, .string Ty] (by rfl) (by rfl) (World.news_of_block (cs := #[.int .i64 (i : Int), .bool true, .string Ty]) (t := 108) (fr := (0, 0)) (heap_alloc_new w3 _)) (by simp [Value.oneCell']) (by omega) (by unfold maxLen; omega) (by omega) (by simp; omega) (w3.heap.size + 1) (by simp) ?_; intro g9 cap9 w9 hown9 hgrow hat9 hlt9; have f9 : w9.frozen? ⟨N.nb, 3, none⟩ = false := (hgrow.frozen_far ⟨N.nb, 3, none⟩ (by simp; omega) (Ne.symm HNE.out)).trans (froz_alloc lnb u33); have c9 : w9.cell? ⟨N.nb, 3, none⟩ = some (.slice wa3 wl3 wc3) := (hgrow.cell_far ⟨N.nb, 3, none⟩ (by simp; omega) (Ne.symm HNE.out)).trans ((World.cell?_of_block (Below.heap_alloc w3 _ N.nb lnb)).trans n33)))
          all_goals
            have H9 : Hid (Net w0 (w9.setCell ⟨N.nb, 3, none⟩ (.slice (some ⟨g9, 0, none⟩) (wl3 + 1) cap9)) N ⟨x.S, x.ti, x.ps, x.im, x.Rs.set i R', way1 ++ [(i, l')], x.q + 3⟩) := by
              have fa : Fr [] w3 (w3.alloc (.cells #[.int .i64 (i : Int), .bool true, .string Ty] 108)).drew := ((Fr.refl _ _).alloc _).drew
              have e5 : ml3 N.n (i, l') = [.int .i64 (i : Int), .bool true, .string Ty] := by
                unfold ml3
                rw [ST3.out.2, HTy.out]
              have M9 := (H3'.out.1.same fa).push (i, l') (W9 := w9) (wv' := .slice (some ⟨g9, 0, none⟩) (wl3 + 1) cap9) (by rw [H3'.out.2.1, e5]; exact hown9) (by rw [H3'.out.2.1]; exact hgrow)
              have F9 : Fr (N.nb :: (Value.slice wa3 way1.length wc3).ownBlock.toList) w3 (w9.setCell ⟨N.nb, 3, none⟩ (.slice (some ⟨g9, 0, none⟩) (wl3 + 1) cap9)) := ((((Fr.refl _ _).alloc _).drew).grown hgrow (fun k hk => Or.inl (by rw [H3'.out.2.1]; simp [hk]))).setCell _ (Or.inl (by simp))
              exact net_goes H3.out.1 (H3.out.2.1.le (show x.q + 1 ≤ x.q + 3 by omega) (Int.le_refl _)) H3.out.2.2.1 M9 F9
            clear hown9 hgrow hat9 hlt9 f9 c9
            go_wp2
            go_ret
            exact ⟨rfl, x.S, x.ps, x.Rs.set i R', _, H9.out, Or.inr ⟨HT.out.2, rfl, R, R', l', HP.out.2.1, rfl, ST3.out.1, rfl⟩⟩
      · go_enter Tryz.func22, Tryz.ntmps22
        go_wp2_with (first
          | (at_builtin; refine wpList_append_own _ rfl _ _ 29 rfl w1.heap.size 108 i0 _ 3 32 Tryz.underlying29 hi hz0 hz1 hz2 rfl (by omega) (.slice va9 at' vc9) at' (mlC N.n (x.way.take at')) rfl H9.out.1 ⟨wg, 0, none⟩ 0 0 [] rfl rfl (fun k u hu => by simp at hu) (fun u hu => by simp at hu) (by unfold maxLen; omega) (by omega) (by have := H9.out.2.1.size; omega) ?_; intro v10 w10 hown10 hgrow10 hne10; rw [Nat.add_zero, List.append_nil] at hown10; obtain ⟨va10, vc10, hv10⟩ := own_shape hown10; subst hv10; have H10 : Hid (w10.ownsRow N.BN 108 3 (.slice va10 at' vc10) ((at' + 1) - 1) (mlC N.n (x.way.take at' ++ (x.way.drop (at' + 1)).take ((at' + 1) - (at' + 1)))) ∧ Fr [] w1 w10 ∧ ∀ k, (Value.slice va10 at' vc10).ownBlock = some k → w1.heap.size ≤ k) := ⟨own_rest0 hown10 hBN1, H9.out.2.1.trans ((Fr.refl (Value.slice va9 at' vc9).ownBlock.toList _).grown hgrow10 (fun k hk => Or.inl (by simp [hk]))) (fun k hk => Or.inr (by simp at hk; exact (own_tag H9.out.1 hk).1)), fun k hk => (own_tag hown10 hk).1⟩; have y103 : w10.cell? ⟨N.nb, 3, none⟩ = some (.slice (some ⟨wg, 0, none⟩) (at' + 1) (at' + 1)) := H10.out.2.1.gb.cell y3 (by simp); have u103 : w10.frozen? ⟨N.nb, 3, none⟩ = false := froz_of (HS.out.2.1.same H10.out.2.1).blk _; have q101 : w10.cell? ⟨mb, 1, none⟩ = some (.bool true) := H10.out.2.1.gb.cell q1 (by simp); clear hown10 hgrow10 hne10)
          | (at_builtin; refine wpList_append_own _ rfl _ _ 29 rfl w1.heap.size 108 i0 _ 3 32 Tryz.underlying29 hi hz0 hz1 hz2 rfl (by omega) (.slice none 0 0) 0 [] rfl (World.ownsRow_nil _ _ _ _) ⟨wg, 0, none⟩ at' (at' + 1) (mlC N.n (x.way.take at')) rfl hl1 HNW1.out (mlC_one _ _) (by unfold maxLen; omega) (by omega) (Nat.le_refl _) ?_; intro v9 w9 hown9 hgrow9 hne9; rw [Nat.zero_add] at hown9; obtain ⟨va9, vc9, hv9⟩ := own_shape hown9; subst hv9; have H9 : Hid (w9.ownsRow w1.heap.size 108 3 (.slice va9 at' vc9) at' (mlC N.n (x.way.take at')) ∧ Fr [] w1 w9 ∧ w9.ownsRow N.BN 108 3 (.slice (some ⟨wg, 0, none⟩) (at' + 1) (at' + 1)) (at' + 1) (mlC N.n x.way)) := (by have f8 : Fr [] w1 w9 := (Fr.refl _ _).grown hgrow9 (fun k hk => by simp [Value.ownBlock] at hk); exact ⟨hown9, f8, own_fr' HO1.out f8⟩); have y93 : w9.cell? ⟨N.nb, 3, none⟩ = some (.slice (some ⟨wg, 0, none⟩) (at' + 1) (at' + 1)) := H9.out.2.1.gb.cell y3 (by simp); clear hown9 hgrow9 hne9))
        obtain ⟨W2, hW2⟩ : ∃ W2, w10.setCell ⟨N.nb, 3, none⟩ (.slice va10 at' vc10) = W2 := ⟨_, rfl⟩
        have HJ : Hid (Net w0 W2 N ⟨x.S, x.ti, x.ps, x.im, x.Rs, way1, x.q⟩ ∧ W2.heap[mb]? = some (.cells #[.int .i64 (i : Int), .bool true, .string Tx] 108 (0, 0)) ∧ ∃ rv2 wv2 iv2 vs2, NM N.nb N.BN N.n N.c N.rcs W2 x.S x.ti x.ps x.im x.Rs way1 rv2 wv2 iv2 vs2 ∧ wv2.ownBlock ≠ some mb) := by
          have e8 : x.way.take at' ++ (x.way.drop (at' + 1)).take ((at' + 1) - (at' + 1)) = way1 := by
            rw [← HW1.out]
            show _ = x.way.eraseIdx at'
            rw [List.eraseIdx_eq_take_drop_succ, List.take_of_length_le (l := x.way.drop (at' + 1)) (by rw [List.length_drop, HS.out.2.2.2.2.1]; exact Nat.le_refl _)]
          have e9 : way1.length = (at' + 1) - 1 := by
            rw [← e8, List.length_append, List.length_take, List.length_take, List.length_drop, HS.out.2.2.2.2.1]
            omega
          have J := HS.out.1.setWay (W9 := w10) HS.out.2.1 H10.out.2.1 (by simp) (wv' := .slice va10 at' vc10) (way' := way1) (q' := x.q) (by rw [e9, ← e8]; exact H10.out.1) (HS.out.1.I.sub (fun m hm => by
            rw [← HW1.out] at hm
            exact (List.eraseIdx_sublist _ _).subset hm) (by rw [e9, HS.out.2.2.2.2.1]; omega))
          have J2 := HS.out.2.1.setWay (W9 := w10) H10.out.2.1 (by simp) (wv' := .slice va10 at' vc10) (way' := way1) (by rw [e9, ← e8]; exact H10.out.1)
          rw [hW2] at J J2
          refine ⟨J, ?_, ⟨_, _, _, _, J2, fun e => ?_⟩⟩
          rotate_left
          · have h8 := H10.out.2.2 mb e
            have h9 := (Array.getElem?_eq_some_iff.1 HS.out.2.2.1).1
            omega
          rw [← hW2, heap_setCell_other _ _ _ _ hmn, H10.out.2.1.block mb (Array.getElem?_eq_some_iff.1 HS.out.2.2.1).1 (by simp)]
          exact HS.out.2.2.1
        rw [hW2]
        clear hW2 H9 H10 y93 y103 u103 q101
        obtain ⟨rv2, wv2, iv2, vs2, M2, hmw2⟩ := HJ.out.2.2
        have HMW : Hid (wv2.ownBlock ≠ some mb) := hmw2
        clear hmw2
        have n0 := M2.cells.1
        have m0 : W2.cell? ⟨mb, 0, none⟩ = some (.int .i64 (i : Int)) := by rw [cell_of HJ.out.2.1]; rfl
        have m2 : W2.cell? ⟨mb, 2, none⟩ = some (.string Tx) := by rw [cell_of HJ.out.2.1]; rfl
        have HST : Hid (∀ W, Fr [] W2 W → Calls Tryz.prog 39 #[.pointer (some ⟨N.c.xb, 0, none⟩), .int .i64 i, .string Tx] W fun e w' => ∃ v, e = .returned v ∧ StPost N.c W w' N.n x.S x.ps x.im x.Rs way1 x.ti (x.ti + N.c.mo) x.q i p l v) := fun W hW => by
          rw [← HT.out.1]
          exact stake N.c HJ.out.1.C HJ.out.1.I HP.out.1 HP.out.2.1 HP.out.2.2 (back_cases HT.out.2) (by show x.q ≤ 800000; omega) W (M2.same hW).sk
        have HM2 : Hid (NM N.nb N.BN N.n N.c N.rcs W2 x.S x.ti x.ps x.im x.Rs way1 rv2 wv2 iv2 vs2) := M2
        clear M2
        go_region_held3 (fun w' => w'.cell? ⟨N.nb, 0, none⟩ = some (.pointer (some ⟨N.c.xb, 0, none⟩)) ∧ w'.cell? ⟨mb, 0, none⟩ = some (.int .i64 (i : Int)) ∧ w'.cell? ⟨mb, 2, none⟩ = some (.string Tx))
          (first
            | exact ⟨n40, m40, m42⟩
            | exact ⟨n30, m30, m32⟩
            | go_keep)
          (first
            | (go_at_call 25; refine (G3.out).mono ?_; rintro e w4 ⟨rfl, wv4, M4, f4, o4⟩; have H4 : Hid (Net w0 w4 N ⟨S', x.ti, x.ps.set i p', x.im, x.Rs, way1 ++ out.map fun l => (i, l), x.q + 3⟩) := net_goes H3.out.1 H3.out.2.1 H3.out.2.2.1 M4 f4; have n40 := M4.cells.1; have b4 : w4.heap[mb]? = some (.cells #[.int .i64 (i : Int), .bool true, .string Tx] 108 (0, 0)) := (by rw [f4.block mb (Array.getElem?_eq_some_iff.1 H3.out.2.2.2.1).1 H3.out.2.2.2.2.1]; exact H3.out.2.2.2.1); have m40 : w4.cell? ⟨mb, 0, none⟩ = some (.int .i64 (i : Int)) := (by rw [cell_of b4]; rfl); have m42 : w4.cell? ⟨mb, 2, none⟩ = some (.string Tx) := (by rw [cell_of b4]; rfl); clear M4 f4 o4 b4)
            | (go_at_call 39; refine (HST.out _ (by first | exact Fr.refl _ _ | exact (Fr.refl _ _).drew)).mono ?_; rintro e w3 ⟨v3, rfl, S', p', out, ow3, ss3, I3, st3, ol3⟩; obtain ⟨va3, vc3, hv3⟩ := own_shape ow3; subst hv3; have H3 := gv_three (W2 := W2) (by first | exact Fr.refl _ _ | exact (Fr.refl _ _).drew) HJ.out.1 HM2.out HJ.out.2.1 HMW.out (by omega) ss3 I3; have G3 : Hid (Calls Tryz.prog 25 #[.pointer (some ⟨N.nb, 0, none⟩), .slice va3 out.length vc3] w3 fun e w' => e = .returned (.bool true) ∧ GoPost N.nb N.BN N.n N.c N.rcs w3 w' S' x.ti (x.ps.set i p') x.im x.Rs (way1 ++ out.map fun l => (i, l)) rv2 iv2 vs2 wv2) := gv_goes H3.out.1 ow3 st3 ol3 H3.out.2.2.2.2.2 HP.out.2.1; have ST3 : Hid (SStep p p' (nwG x.im.length) l out) := st3; have n30 := H3.out.1.cells.1; have m30 : w3.cell? ⟨mb, 0, none⟩ = some (.int .i64 (i : Int)) := (by rw [cell_of H3.out.2.2.2.1]; rfl); have m32 : w3.cell? ⟨mb, 2, none⟩ = some (.string Tx) := (by rw [cell_of H3.out.2.2.2.1]; rfl); clear ow3 ss3 I3 st3 ol3))
        all_goals
          go_wp2
          go_ret
          exact ⟨rfl, S', x.ps.set i p', x.Rs, _, H4.out, Or.inl ⟨HT.out.2, rfl, p, p', out, HP.out.1, rfl, ST3.out, rfl⟩⟩
    · have hccz : at' + 1 < wc := by omega
      have hccz2 : ((at' : Int) + 1) < (wc : Int) := by omega
      cases bk
      · go_enter Tryz.func22, Tryz.ntmps22
        go_wp2_with (first
          | (at_builtin; refine wpList_append_own _ rfl _ _ 29 rfl w1.heap.size 108 i0 _ 3 32 Tryz.underlying29 hi hz0 hz1 hz2 rfl (by omega) (.slice va9 at' vc9) at' (mlC N.n (x.way.take at')) rfl H9.out.1 ⟨wg, (at' + 1) * 3, none⟩ (wl - (at' + 1)) (wc - (at' + 1)) (mlC N.n ((x.way.drop (at' + 1)).take (wl - (at' + 1)))) rfl hl2 (ml_news H9.out.2.2 (at' + 1) (wl - (at' + 1)) (by omega)) (mlC_one _ _) (by unfold maxLen; omega) (by omega) (by have := H9.out.2.1.size; omega) ?_; intro v10 w10 hown10 hgrow10 hne10; obtain ⟨va10, vc10, hv10⟩ := own_shape hown10; subst hv10; have H10 : Hid (w10.ownsRow N.BN 108 3 (.slice va10 (at' + (wl - (at' + 1))) vc10) (wl - 1) (mlC N.n (x.way.take at' ++ (x.way.drop (at' + 1)).take (wl - (at' + 1)))) ∧ Fr [] w1 w10 ∧ ∀ k, (Value.slice va10 (at' + (wl - (at' + 1))) vc10).ownBlock = some k → w1.heap.size ≤ k) := ⟨own_rest hown10 hBN1 hws, H9.out.2.1.trans ((Fr.refl (Value.slice va9 at' vc9).ownBlock.toList _).grown hgrow10 (fun k hk => Or.inl (by simp [hk]))) (fun k hk => Or.inr (by simp at hk; exact (own_tag H9.out.1 hk).1)), fun k hk => (own_tag hown10 hk).1⟩; have y103 : w10.cell? ⟨N.nb, 3, none⟩ = some (.slice (some ⟨wg, 0, none⟩) wl wc) := H10.out.2.1.gb.cell y3 (by simp); have u103 : w10.frozen? ⟨N.nb, 3, none⟩ = false := froz_of (HS.out.2.1.same H10.out.2.1).blk _; have q101 : w10.cell? ⟨mb, 1, none⟩ = some (.bool false) := H10.out.2.1.gb.cell q1 (by simp); clear hown10 hgrow10 hne10)
          | (at_builtin; refine wpList_append_own _ rfl _ _ 29 rfl w1.heap.size 108 i0 _ 3 32 Tryz.underlying29 hi hz0 hz1 hz2 rfl (by omega) (.slice none 0 0) 0 [] rfl (World.ownsRow_nil _ _ _ _) ⟨wg, 0, none⟩ at' wc (mlC N.n (x.way.take at')) rfl hl1 HNW1.out (mlC_one _ _) (by unfold maxLen; omega) (by omega) (Nat.le_refl _) ?_; intro v9 w9 hown9 hgrow9 hne9; rw [Nat.zero_add] at hown9; obtain ⟨va9, vc9, hv9⟩ := own_shape hown9; subst hv9; have H9 : Hid (w9.ownsRow w1.heap.size 108 3 (.slice va9 at' vc9) at' (mlC N.n (x.way.take at')) ∧ Fr [] w1 w9 ∧ w9.ownsRow N.BN 108 3 (.slice (some ⟨wg, 0, none⟩) wl wc) wl (mlC N.n x.way)) := (by have f8 : Fr [] w1 w9 := (Fr.refl _ _).grown hgrow9 (fun k hk => by simp [Value.ownBlock] at hk); exact ⟨hown9, f8, own_fr' HO1.out f8⟩); have y93 : w9.cell? ⟨N.nb, 3, none⟩ = some (.slice (some ⟨wg, 0, none⟩) wl wc) := H9.out.2.1.gb.cell y3 (by simp); clear hown9 hgrow9 hne9))
        obtain ⟨W2, hW2⟩ : ∃ W2, w10.setCell ⟨N.nb, 3, none⟩ (.slice va10 (at' + (wl - (at' + 1))) vc10) = W2 := ⟨_, rfl⟩
        have HJ : Hid (Net w0 W2 N ⟨x.S, x.ti, x.ps, x.im, x.Rs, way1, x.q⟩ ∧ W2.heap[mb]? = some (.cells #[.int .i64 (i : Int), .bool false, .string Tx] 108 (0, 0)) ∧ ∃ rv2 wv2 iv2 vs2, NM N.nb N.BN N.n N.c N.rcs W2 x.S x.ti x.ps x.im x.Rs way1 rv2 wv2 iv2 vs2 ∧ wv2.ownBlock ≠ some mb) := by
          have e8 : x.way.take at' ++ (x.way.drop (at' + 1)).take (wl - (at' + 1)) = way1 := by
            rw [← HW1.out]
            show _ = x.way.eraseIdx at'
            rw [List.eraseIdx_eq_take_drop_succ, List.take_of_length_le (l := x.way.drop (at' + 1)) (by rw [List.length_drop, HS.out.2.2.2.2.1]; exact Nat.le_refl _)]
          have e9 : way1.length = wl - 1 := by
            rw [← e8, List.length_append, List.length_take, List.length_take, List.length_drop, HS.out.2.2.2.2.1]
            omega
          have J := HS.out.1.setWay (W9 := w10) HS.out.2.1 H10.out.2.1 (by simp) (wv' := .slice va10 (at' + (wl - (at' + 1))) vc10) (way' := way1) (q' := x.q) (by rw [e9, ← e8]; exact H10.out.1) (HS.out.1.I.sub (fun m hm => by
            rw [← HW1.out] at hm
            exact (List.eraseIdx_sublist _ _).subset hm) (by rw [e9, HS.out.2.2.2.2.1]; omega))
          have J2 := HS.out.2.1.setWay (W9 := w10) H10.out.2.1 (by simp) (wv' := .slice va10 (at' + (wl - (at' + 1))) vc10) (way' := way1) (by rw [e9, ← e8]; exact H10.out.1)
          rw [hW2] at J J2
          refine ⟨J, ?_, ⟨_, _, _, _, J2, fun e => ?_⟩⟩
          rotate_left
          · have h8 := H10.out.2.2 mb e
            have h9 := (Array.getElem?_eq_some_iff.1 HS.out.2.2.1).1
            omega
          rw [← hW2, heap_setCell_other _ _ _ _ hmn, H10.out.2.1.block mb (Array.getElem?_eq_some_iff.1 HS.out.2.2.1).1 (by simp)]
          exact HS.out.2.2.1
        rw [hW2]
        clear hW2 H9 H10 y93 y103 u103 q101
        obtain ⟨rv2, wv2, iv2, vs2, M2, hmw2⟩ := HJ.out.2.2
        obtain ⟨ra2, rc2, hrv2⟩ := own_shape M2.ro
        subst hrv2
        obtain ⟨m, hm⟩ : ∃ m, N.rcs.length = m := ⟨_, rfl⟩
        have him : i < m := by rw [← hm, M2.rl]; exact (List.getElem?_eq_some_iff.1 HP.out.2.1).1
        obtain ⟨rg, hrg, hrcap, hrcl⟩ := own_addr M2.ro (by omega)
        subst hrg
        have him' : i < N.rcs.length := by omega
        obtain ⟨r, hr⟩ : ∃ r, N.rcs[i] = r := ⟨_, rfl⟩
        have hrr : N.rcs[i]? = some r := by rw [List.getElem?_eq_getElem him', hr]
        have r0 : W2.cell? ⟨rg, i, none⟩ = some (.pointer (some ⟨r.kb, 0, none⟩)) := by
          rw [hrcl i (by omega)]
          unfold rpC
          rw [List.getElem?_map, hrr]
          rfl
        have n1 := M2.cells.2.1
        rw [hm] at n1
        have hmz : (i : Int) < (m : Int) := by omega
        have hm0 : (0 : Int) ≤ (i : Int) := by omega
        have m0 : W2.cell? ⟨mb, 0, none⟩ = some (.int .i64 (i : Int)) := by rw [cell_of HJ.out.2.1]; rfl
        have m2 : W2.cell? ⟨mb, 2, none⟩ = some (.string Tx) := by rw [cell_of HJ.out.2.1]; rfl
        have HRT : Hid (∀ W, Fr [] W2 W → Calls Tryz.prog 21 #[.pointer (some ⟨r.kb, 0, none⟩), .string Tx] W fun e w' => ∃ v, e = .returned v ∧ RtPost r W w' N.n x.S x.ps x.im x.Rs way1 (x.ti + N.c.mo) x.q i R l v) := fun W hW => by
          rw [← HT.out.1]
          exact rtake HJ.out.1.I HP.out.1 HP.out.2.1 HP.out.2.2 HT.out.2 (by show x.q ≤ 800000; omega) W ((M2.same hW).rm i r R hrr HP.out.2.1)
        have HM2 : Hid (NM N.nb N.BN N.n N.c N.rcs W2 x.S x.ti x.ps x.im x.Rs way1 (.slice (some ⟨rg, 0, none⟩) m rc2) wv2 iv2 vs2 ∧ wv2.ownBlock ≠ some mb ∧ N.rcs[i]? = some r ∧ N.rcs.length = m) := ⟨by rw [hm] at M2; exact M2, hmw2, hrr, hm⟩
        clear M2 hmw2 hrcl hr hrr him' hrcap hm
        go_region_held3 (fun w' => w'.cell? ⟨N.nb, 1, none⟩ = some (.slice (some ⟨rg, 0, none⟩) m rc2) ∧ w'.cell? ⟨mb, 0, none⟩ = some (.int .i64 (i : Int)) ∧ w'.cell? ⟨mb, 2, none⟩ = some (.string Tx) ∧ w'.cell? ⟨rg, i, none⟩ = some (.pointer (some ⟨r.kb, 0, none⟩)))
          (first
            | exact ⟨n31, m30, m32, r30⟩
            | go_keep)
          (first
            | (go_at_call 21; refine (HRT.out _ (by first | exact Fr.refl _ _ | exact (Fr.refl _ _).drew)).mono ?_; rintro e w3 ⟨v3, rfl, R', l', rfl, bk3, rk3, f3, ft3, I3, st3⟩; have H3 := gr_three (W2 := W2) (by first | exact Fr.refl _ _ | exact (Fr.refl _ _).drew) HJ.out.1 HM2.out.1 HJ.out.2.1 HM2.out.2.1 HM2.out.2.2.1 HP.out.2.1 rk3 f3 ft3 I3; have ST3 : Hid (RStep R R' l l' ∧ l'.back = true) := ⟨st3, bk3⟩; have n31 := H3.out.1.cells.2.1; have m30 : w3.cell? ⟨mb, 0, none⟩ = some (.int .i64 (i : Int)) := (by rw [cell_of H3.out.2.2.2.1]; rfl); have m32 : w3.cell? ⟨mb, 2, none⟩ = some (.string Tx) := (by rw [cell_of H3.out.2.2.2.1]; rfl); have r30 : w3.cell? ⟨rg, i, none⟩ = some (.pointer (some ⟨r.kb, 0, none⟩)) := ro_cell H3.out.1 HM2.out.2.2.2 HM2.out.2.2.1; clear rk3 f3 ft3 I3 st3 bk3))
        all_goals
          obtain ⟨Ty, hTy⟩ : ∃ Ty, Lt.txt i N.n l' = Ty := ⟨_, rfl⟩
          have HTy : Hid (Lt.txt i N.n l' = Ty) := hTy
          rw [hTy]
          have hTn : Ty.toList.isEmpty = false := by rw [← hTy]; exact txt_ne _ _ _
          clear hTy
          obtain ⟨wa3, wc3, hwv3⟩ := own_shape H3.out.1.wo
          subst hwv3
          obtain ⟨wl3, hwl3⟩ : ∃ wl3, way1.length = wl3 := ⟨_, rfl⟩
          have H3' : Hid (NM N.nb N.BN N.n N.c N.rcs w3 x.S x.ti x.ps x.im (x.Rs.set i R') way1 (.slice (some ⟨rg, 0, none⟩) m rc2) (.slice wa3 way1.length wc3) iv2 vs2 ∧ way1.length = wl3 ∧ w3.ownsRow N.BN 108 3 (.slice wa3 wl3 wc3) wl3 (mlC N.n way1)) := ⟨H3.out.1, hwl3, by have h8 := H3.out.1.wo; rw [hwl3] at h8; exact h8⟩
          have hwl4 : wl3 ≤ 2800000 := by have := H3.out.2.2.2.2.2; omega
          have n33 : w3.cell? ⟨N.nb, 3, none⟩ = some (.slice wa3 wl3 wc3) := by have h8 := H3.out.1.cells.2.2.2.1; rw [hwl3] at h8; exact h8
          have u33 : w3.frozen? ⟨N.nb, 3, none⟩ = false := froz_of H3.out.1.blk _
          have lnb : N.nb < w3.heap.size := (Array.getElem?_eq_some_iff.1 H3.out.1.blk).1
          have hBn : N.BN ≤ w3.heap.size := by have h9 := H3.out.1.hnb; omega
          have HNE : Hid ((Value.slice wa3 wl3 wc3).ownBlock ≠ some N.nb) := fun e => by
            obtain ⟨_, cur, h4⟩ := own_tag H3'.out.2.2 e
            rw [H3.out.1.blk] at h4
            simp at h4
          clear hwl3
          go_wp2
          go_region_law
            ((refine step_append_lies _ (by rfl) _ _ _ (by rfl) N.BN 108 i0 _ 3 32 Tryz.underlying29 hi hz0 hz1 hz2 rfl (by omega) (.slice wa3 wl3 wc3) wl3 (mlC N.n way1) (by rfl) ((H3'.out.2.2.alloc _).drew) ⟨w3.heap.size, 0, none⟩ 1 1 [.int .i64 (i : Int), .bool true, .string Ty] (by rfl) (by rfl) (World.news_of_block (cs := #[.int .i64 (i : Int), .bool true, .string Ty]) (t := 108) (fr := (0, 0)) (heap_alloc_new w3 _)) (by simp [Value.oneCell']) (by omega) (by unfold maxLen; omega) (by omega) (by simp; omega) (w3.heap.size + 1) (by simp) ?_; intro g9 cap9 w9 hown9 hgrow hat9 hlt9; have f9 : w9.frozen? ⟨N.nb, 3, none⟩ = false := (hgrow.frozen_far ⟨N.nb, 3, none⟩ (by simp; omega) (Ne.symm HNE.out)).trans (froz_alloc lnb u33); have c9 : w9.cell? ⟨N.nb, 3, none⟩ = some (.slice wa3 wl3 wc3) := (hgrow.cell_far ⟨N.nb, 3, none⟩ (by simp; omega) (Ne.symm HNE.out)).trans ((World.cell?_of_block (Below.heap_alloc w3 _ N.nb lnb)).trans n33)))
          all_goals
            have H9 : Hid (Net w0 (w9.setCell ⟨N.nb, 3, none⟩ (.slice (some ⟨g9, 0, none⟩) (wl3 + 1) cap9)) N ⟨x.S, x.ti, x.ps, x.im, x.Rs.set i R', way1 ++ [(i, l')], x.q + 3⟩) := by
              have fa : Fr [] w3 (w3.alloc (.cells #[.int .i64 (i : Int), .bool true, .string Ty] 108)).drew := ((Fr.refl _ _).alloc _).drew
              have e5 : ml3 N.n (i, l') = [.int .i64 (i : Int), .bool true, .string Ty] := by
                unfold ml3
                rw [ST3.out.2, HTy.out]
              have M9 := (H3'.out.1.same fa).push (i, l') (W9 := w9) (wv' := .slice (some ⟨g9, 0, none⟩) (wl3 + 1) cap9) (by rw [H3'.out.2.1, e5]; exact hown9) (by rw [H3'.out.2.1]; exact hgrow)
              have F9 : Fr (N.nb :: (Value.slice wa3 way1.length wc3).ownBlock.toList) w3 (w9.setCell ⟨N.nb, 3, none⟩ (.slice (some ⟨g9, 0, none⟩) (wl3 + 1) cap9)) := ((((Fr.refl _ _).alloc _).drew).grown hgrow (fun k hk => Or.inl (by rw [H3'.out.2.1]; simp [hk]))).setCell _ (Or.inl (by simp))
              exact net_goes H3.out.1 (H3.out.2.1.le (show x.q + 1 ≤ x.q + 3 by omega) (Int.le_refl _)) H3.out.2.2.1 M9 F9
            clear hown9 hgrow hat9 hlt9 f9 c9
            go_wp2
            go_ret
            exact ⟨rfl, x.S, x.ps, x.Rs.set i R', _, H9.out, Or.inr ⟨HT.out.2, rfl, R, R', l', HP.out.2.1, rfl, ST3.out.1, rfl⟩⟩
      · go_enter Tryz.func22, Tryz.ntmps22
        go_wp2_with (first
          | (at_builtin; refine wpList_append_own _ rfl _ _ 29 rfl w1.heap.size 108 i0 _ 3 32 Tryz.underlying29 hi hz0 hz1 hz2 rfl (by omega) (.slice va9 at' vc9) at' (mlC N.n (x.way.take at')) rfl H9.out.1 ⟨wg, (at' + 1) * 3, none⟩ (wl - (at' + 1)) (wc - (at' + 1)) (mlC N.n ((x.way.drop (at' + 1)).take (wl - (at' + 1)))) rfl hl2 (ml_news H9.out.2.2 (at' + 1) (wl - (at' + 1)) (by omega)) (mlC_one _ _) (by unfold maxLen; omega) (by omega) (by have := H9.out.2.1.size; omega) ?_; intro v10 w10 hown10 hgrow10 hne10; obtain ⟨va10, vc10, hv10⟩ := own_shape hown10; subst hv10; have H10 : Hid (w10.ownsRow N.BN 108 3 (.slice va10 (at' + (wl - (at' + 1))) vc10) (wl - 1) (mlC N.n (x.way.take at' ++ (x.way.drop (at' + 1)).take (wl - (at' + 1)))) ∧ Fr [] w1 w10 ∧ ∀ k, (Value.slice va10 (at' + (wl - (at' + 1))) vc10).ownBlock = some k → w1.heap.size ≤ k) := ⟨own_rest hown10 hBN1 hws, H9.out.2.1.trans ((Fr.refl (Value.slice va9 at' vc9).ownBlock.toList _).grown hgrow10 (fun k hk => Or.inl (by simp [hk]))) (fun k hk => Or.inr (by simp at hk; exact (own_tag H9.out.1 hk).1)), fun k hk => (own_tag hown10 hk).1⟩; have y103 : w10.cell? ⟨N.nb, 3, none⟩ = some (.slice (some ⟨wg, 0, none⟩) wl wc) := H10.out.2.1.gb.cell y3 (by simp); have u103 : w10.frozen? ⟨N.nb, 3, none⟩ = false := froz_of (HS.out.2.1.same H10.out.2.1).blk _; have q101 : w10.cell? ⟨mb, 1, none⟩ = some (.bool true) := H10.out.2.1.gb.cell q1 (by simp); clear hown10 hgrow10 hne10)
          | (at_builtin; refine wpList_append_own _ rfl _ _ 29 rfl w1.heap.size 108 i0 _ 3 32 Tryz.underlying29 hi hz0 hz1 hz2 rfl (by omega) (.slice none 0 0) 0 [] rfl (World.ownsRow_nil _ _ _ _) ⟨wg, 0, none⟩ at' wc (mlC N.n (x.way.take at')) rfl hl1 HNW1.out (mlC_one _ _) (by unfold maxLen; omega) (by omega) (Nat.le_refl _) ?_; intro v9 w9 hown9 hgrow9 hne9; rw [Nat.zero_add] at hown9; obtain ⟨va9, vc9, hv9⟩ := own_shape hown9; subst hv9; have H9 : Hid (w9.ownsRow w1.heap.size 108 3 (.slice va9 at' vc9) at' (mlC N.n (x.way.take at')) ∧ Fr [] w1 w9 ∧ w9.ownsRow N.BN 108 3 (.slice (some ⟨wg, 0, none⟩) wl wc) wl (mlC N.n x.way)) := (by have f8 : Fr [] w1 w9 := (Fr.refl _ _).grown hgrow9 (fun k hk => by simp [Value.ownBlock] at hk); exact ⟨hown9, f8, own_fr' HO1.out f8⟩); have y93 : w9.cell? ⟨N.nb, 3, none⟩ = some (.slice (some ⟨wg, 0, none⟩) wl wc) := H9.out.2.1.gb.cell y3 (by simp); clear hown9 hgrow9 hne9))
        obtain ⟨W2, hW2⟩ : ∃ W2, w10.setCell ⟨N.nb, 3, none⟩ (.slice va10 (at' + (wl - (at' + 1))) vc10) = W2 := ⟨_, rfl⟩
        have HJ : Hid (Net w0 W2 N ⟨x.S, x.ti, x.ps, x.im, x.Rs, way1, x.q⟩ ∧ W2.heap[mb]? = some (.cells #[.int .i64 (i : Int), .bool true, .string Tx] 108 (0, 0)) ∧ ∃ rv2 wv2 iv2 vs2, NM N.nb N.BN N.n N.c N.rcs W2 x.S x.ti x.ps x.im x.Rs way1 rv2 wv2 iv2 vs2 ∧ wv2.ownBlock ≠ some mb) := by
          have e8 : x.way.take at' ++ (x.way.drop (at' + 1)).take (wl - (at' + 1)) = way1 := by
            rw [← HW1.out]
            show _ = x.way.eraseIdx at'
            rw [List.eraseIdx_eq_take_drop_succ, List.take_of_length_le (l := x.way.drop (at' + 1)) (by rw [List.length_drop, HS.out.2.2.2.2.1]; exact Nat.le_refl _)]
          have e9 : way1.length = wl - 1 := by
            rw [← e8, List.length_append, List.length_take, List.length_take, List.length_drop, HS.out.2.2.2.2.1]
            omega
          have J := HS.out.1.setWay (W9 := w10) HS.out.2.1 H10.out.2.1 (by simp) (wv' := .slice va10 (at' + (wl - (at' + 1))) vc10) (way' := way1) (q' := x.q) (by rw [e9, ← e8]; exact H10.out.1) (HS.out.1.I.sub (fun m hm => by
            rw [← HW1.out] at hm
            exact (List.eraseIdx_sublist _ _).subset hm) (by rw [e9, HS.out.2.2.2.2.1]; omega))
          have J2 := HS.out.2.1.setWay (W9 := w10) H10.out.2.1 (by simp) (wv' := .slice va10 (at' + (wl - (at' + 1))) vc10) (way' := way1) (by rw [e9, ← e8]; exact H10.out.1)
          rw [hW2] at J J2
          refine ⟨J, ?_, ⟨_, _, _, _, J2, fun e => ?_⟩⟩
          rotate_left
          · have h8 := H10.out.2.2 mb e
            have h9 := (Array.getElem?_eq_some_iff.1 HS.out.2.2.1).1
            omega
          rw [← hW2, heap_setCell_other _ _ _ _ hmn, H10.out.2.1.block mb (Array.getElem?_eq_some_iff.1 HS.out.2.2.1).1 (by simp)]
          exact HS.out.2.2.1
        rw [hW2]
        clear hW2 H9 H10 y93 y103 u103 q101
        obtain ⟨rv2, wv2, iv2, vs2, M2, hmw2⟩ := HJ.out.2.2
        have HMW : Hid (wv2.ownBlock ≠ some mb) := hmw2
        clear hmw2
        have n0 := M2.cells.1
        have m0 : W2.cell? ⟨mb, 0, none⟩ = some (.int .i64 (i : Int)) := by rw [cell_of HJ.out.2.1]; rfl
        have m2 : W2.cell? ⟨mb, 2, none⟩ = some (.string Tx) := by rw [cell_of HJ.out.2.1]; rfl
        have HST : Hid (∀ W, Fr [] W2 W → Calls Tryz.prog 39 #[.pointer (some ⟨N.c.xb, 0, none⟩), .int .i64 i, .string Tx] W fun e w' => ∃ v, e = .returned v ∧ StPost N.c W w' N.n x.S x.ps x.im x.Rs way1 x.ti (x.ti + N.c.mo) x.q i p l v) := fun W hW => by
          rw [← HT.out.1]
          exact stake N.c HJ.out.1.C HJ.out.1.I HP.out.1 HP.out.2.1 HP.out.2.2 (back_cases HT.out.2) (by show x.q ≤ 800000; omega) W (M2.same hW).sk
        have HM2 : Hid (NM N.nb N.BN N.n N.c N.rcs W2 x.S x.ti x.ps x.im x.Rs way1 rv2 wv2 iv2 vs2) := M2
        clear M2
        go_region_held3 (fun w' => w'.cell? ⟨N.nb, 0, none⟩ = some (.pointer (some ⟨N.c.xb, 0, none⟩)) ∧ w'.cell? ⟨mb, 0, none⟩ = some (.int .i64 (i : Int)) ∧ w'.cell? ⟨mb, 2, none⟩ = some (.string Tx))
          (first
            | exact ⟨n40, m40, m42⟩
            | exact ⟨n30, m30, m32⟩
            | go_keep)
          (first
            | (go_at_call 25; refine (G3.out).mono ?_; rintro e w4 ⟨rfl, wv4, M4, f4, o4⟩; have H4 : Hid (Net w0 w4 N ⟨S', x.ti, x.ps.set i p', x.im, x.Rs, way1 ++ out.map fun l => (i, l), x.q + 3⟩) := net_goes H3.out.1 H3.out.2.1 H3.out.2.2.1 M4 f4; have n40 := M4.cells.1; have b4 : w4.heap[mb]? = some (.cells #[.int .i64 (i : Int), .bool true, .string Tx] 108 (0, 0)) := (by rw [f4.block mb (Array.getElem?_eq_some_iff.1 H3.out.2.2.2.1).1 H3.out.2.2.2.2.1]; exact H3.out.2.2.2.1); have m40 : w4.cell? ⟨mb, 0, none⟩ = some (.int .i64 (i : Int)) := (by rw [cell_of b4]; rfl); have m42 : w4.cell? ⟨mb, 2, none⟩ = some (.string Tx) := (by rw [cell_of b4]; rfl); clear M4 f4 o4 b4)
            | (go_at_call 39; refine (HST.out _ (by first | exact Fr.refl _ _ | exact (Fr.refl _ _).drew)).mono ?_; rintro e w3 ⟨v3, rfl, S', p', out, ow3, ss3, I3, st3, ol3⟩; obtain ⟨va3, vc3, hv3⟩ := own_shape ow3; subst hv3; have H3 := gv_three (W2 := W2) (by first | exact Fr.refl _ _ | exact (Fr.refl _ _).drew) HJ.out.1 HM2.out HJ.out.2.1 HMW.out (by omega) ss3 I3; have G3 : Hid (Calls Tryz.prog 25 #[.pointer (some ⟨N.nb, 0, none⟩), .slice va3 out.length vc3] w3 fun e w' => e = .returned (.bool true) ∧ GoPost N.nb N.BN N.n N.c N.rcs w3 w' S' x.ti (x.ps.set i p') x.im x.Rs (way1 ++ out.map fun l => (i, l)) rv2 iv2 vs2 wv2) := gv_goes H3.out.1 ow3 st3 ol3 H3.out.2.2.2.2.2 HP.out.2.1; have ST3 : Hid (SStep p p' (nwG x.im.length) l out) := st3; have n30 := H3.out.1.cells.1; have m30 : w3.cell? ⟨mb, 0, none⟩ = some (.int .i64 (i : Int)) := (by rw [cell_of H3.out.2.2.2.1]; rfl); have m32 : w3.cell? ⟨mb, 2, none⟩ = some (.string Tx) := (by rw [cell_of H3.out.2.2.2.1]; rfl); clear ow3 ss3 I3 st3 ol3))
        all_goals
          go_wp2
          go_ret
          exact ⟨rfl, S', x.ps.set i p', x.Rs, _, H4.out, Or.inl ⟨HT.out.2, rfl, p, p', out, HP.out.1, rfl, ST3.out, rfl⟩⟩
  · cases bk
    · go_enter Tryz.func22, Tryz.ntmps22
      go_wp2
      obtain ⟨W2, hW2⟩ : ∃ W2, w1 = W2 := ⟨_, rfl⟩
      have HJ : Hid (Net w0 W2 N ⟨x.S, x.ti, x.ps, x.im, x.Rs, way1, x.q⟩ ∧ W2.heap[mb]? = some (.cells #[.int .i64 (i : Int), .bool false, .string Tx] 108 (0, 0)) ∧ ∃ rv2 wv2 iv2 vs2, NM N.nb N.BN N.n N.c N.rcs W2 x.S x.ti x.ps x.im x.Rs way1 rv2 wv2 iv2 vs2 ∧ wv2.ownBlock ≠ some mb) := by
        have e8 : x.way = way1 := HW1.out
        rw [← hW2, ← e8]
        refine ⟨HS.out.1, HS.out.2.2.1, ⟨_, _, _, _, HS.out.2.1, fun e => ?_⟩⟩
        have h8 : wg = mb := by simpa [Value.ownBlock] using e
        have h9 := World.block_lt_of_cell? _ _ d0
        have h10 : wg < w.heap.size := h9
        omega
      rw [hW2]
      clear hW2
      obtain ⟨rv2, wv2, iv2, vs2, M2, hmw2⟩ := HJ.out.2.2
      obtain ⟨ra2, rc2, hrv2⟩ := own_shape M2.ro
      subst hrv2
      obtain ⟨m, hm⟩ : ∃ m, N.rcs.length = m := ⟨_, rfl⟩
      have him : i < m := by rw [← hm, M2.rl]; exact (List.getElem?_eq_some_iff.1 HP.out.2.1).1
      obtain ⟨rg, hrg, hrcap, hrcl⟩ := own_addr M2.ro (by omega)
      subst hrg
      have him' : i < N.rcs.length := by omega
      obtain ⟨r, hr⟩ : ∃ r, N.rcs[i] = r := ⟨_, rfl⟩
      have hrr : N.rcs[i]? = some r := by rw [List.getElem?_eq_getElem him', hr]
      have r0 : W2.cell? ⟨rg, i, none⟩ = some (.pointer (some ⟨r.kb, 0, none⟩)) := by
        rw [hrcl i (by omega)]
        unfold rpC
        rw [List.getElem?_map, hrr]
        rfl
      have n1 := M2.cells.2.1
      rw [hm] at n1
      have hmz : (i : Int) < (m : Int) := by omega
      have hm0 : (0 : Int) ≤ (i : Int) := by omega
      have m0 : W2.cell? ⟨mb, 0, none⟩ = some (.int .i64 (i : Int)) := by rw [cell_of HJ.out.2.1]; rfl
      have m2 : W2.cell? ⟨mb, 2, none⟩ = some (.string Tx) := by rw [cell_of HJ.out.2.1]; rfl
      have HRT : Hid (∀ W, Fr [] W2 W → Calls Tryz.prog 21 #[.pointer (some ⟨r.kb, 0, none⟩), .string Tx] W fun e w' => ∃ v, e = .returned v ∧ RtPost r W w' N.n x.S x.ps x.im x.Rs way1 (x.ti + N.c.mo) x.q i R l v) := fun W hW => by
        rw [← HT.out.1]
        exact rtake HJ.out.1.I HP.out.1 HP.out.2.1 HP.out.2.2 HT.out.2 (by show x.q ≤ 800000; omega) W ((M2.same hW).rm i r R hrr HP.out.2.1)
      have HM2 : Hid (NM N.nb N.BN N.n N.c N.rcs W2 x.S x.ti x.ps x.im x.Rs way1 (.slice (some ⟨rg, 0, none⟩) m rc2) wv2 iv2 vs2 ∧ wv2.ownBlock ≠ some mb ∧ N.rcs[i]? = some r ∧ N.rcs.length = m) := ⟨by rw [hm] at M2; exact M2, hmw2, hrr, hm⟩
      clear M2 hmw2 hrcl hr hrr him' hrcap hm
      go_region_held3 (fun w' => w'.cell? ⟨N.nb, 1, none⟩ = some (.slice (some ⟨rg, 0, none⟩) m rc2) ∧ w'.cell? ⟨mb, 0, none⟩ = some (.int .i64 (i : Int)) ∧ w'.cell? ⟨mb, 2, none⟩ = some (.string Tx) ∧ w'.cell? ⟨rg, i, none⟩ = some (.pointer (some ⟨r.kb, 0, none⟩)))
        (first
          | exact ⟨n31, m30, m32, r30⟩
          | go_keep)
        (first
          | (go_at_call 21; refine (HRT.out _ (by first | exact Fr.refl _ _ | exact (Fr.refl _ _).drew)).mono ?_; rintro e w3 ⟨v3, rfl, R', l', rfl, bk3, rk3, f3, ft3, I3, st3⟩; have H3 := gr_three (W2 := W2) (by first | exact Fr.refl _ _ | exact (Fr.refl _ _).drew) HJ.out.1 HM2.out.1 HJ.out.2.1 HM2.out.2.1 HM2.out.2.2.1 HP.out.2.1 rk3 f3 ft3 I3; have ST3 : Hid (RStep R R' l l' ∧ l'.back = true) := ⟨st3, bk3⟩; have n31 := H3.out.1.cells.2.1; have m30 : w3.cell? ⟨mb, 0, none⟩ = some (.int .i64 (i : Int)) := (by rw [cell_of H3.out.2.2.2.1]; rfl); have m32 : w3.cell? ⟨mb, 2, none⟩ = some (.string Tx) := (by rw [cell_of H3.out.2.2.2.1]; rfl); have r30 : w3.cell? ⟨rg, i, none⟩ = some (.pointer (some ⟨r.kb, 0, none⟩)) := ro_cell H3.out.1 HM2.out.2.2.2 HM2.out.2.2.1; clear rk3 f3 ft3 I3 st3 bk3))
      all_goals
        obtain ⟨Ty, hTy⟩ : ∃ Ty, Lt.txt i N.n l' = Ty := ⟨_, rfl⟩
        have HTy : Hid (Lt.txt i N.n l' = Ty) := hTy
        rw [hTy]
        have hTn : Ty.toList.isEmpty = false := by rw [← hTy]; exact txt_ne _ _ _
        clear hTy
        obtain ⟨wa3, wc3, hwv3⟩ := own_shape H3.out.1.wo
        subst hwv3
        obtain ⟨wl3, hwl3⟩ : ∃ wl3, way1.length = wl3 := ⟨_, rfl⟩
        have H3' : Hid (NM N.nb N.BN N.n N.c N.rcs w3 x.S x.ti x.ps x.im (x.Rs.set i R') way1 (.slice (some ⟨rg, 0, none⟩) m rc2) (.slice wa3 way1.length wc3) iv2 vs2 ∧ way1.length = wl3 ∧ w3.ownsRow N.BN 108 3 (.slice wa3 wl3 wc3) wl3 (mlC N.n way1)) := ⟨H3.out.1, hwl3, by have h8 := H3.out.1.wo; rw [hwl3] at h8; exact h8⟩
        have hwl4 : wl3 ≤ 2800000 := by have := H3.out.2.2.2.2.2; omega
        have n33 : w3.cell? ⟨N.nb, 3, none⟩ = some (.slice wa3 wl3 wc3) := by have h8 := H3.out.1.cells.2.2.2.1; rw [hwl3] at h8; exact h8
        have u33 : w3.frozen? ⟨N.nb, 3, none⟩ = false := froz_of H3.out.1.blk _
        have lnb : N.nb < w3.heap.size := (Array.getElem?_eq_some_iff.1 H3.out.1.blk).1
        have hBn : N.BN ≤ w3.heap.size := by have h9 := H3.out.1.hnb; omega
        have HNE : Hid ((Value.slice wa3 wl3 wc3).ownBlock ≠ some N.nb) := fun e => by
          obtain ⟨_, cur, h4⟩ := own_tag H3'.out.2.2 e
          rw [H3.out.1.blk] at h4
          simp at h4
        clear hwl3
        go_wp2
        go_region_law
          ((refine step_append_lies _ (by rfl) _ _ _ (by rfl) N.BN 108 i0 _ 3 32 Tryz.underlying29 hi hz0 hz1 hz2 rfl (by omega) (.slice wa3 wl3 wc3) wl3 (mlC N.n way1) (by rfl) ((H3'.out.2.2.alloc _).drew) ⟨w3.heap.size, 0, none⟩ 1 1 [.int .i64 (i : Int), .bool true, .string Ty] (by rfl) (by rfl) (World.news_of_block (cs := #[.int .i64 (i : Int), .bool true, .string Ty]) (t := 108) (fr := (0, 0)) (heap_alloc_new w3 _)) (by simp [Value.oneCell']) (by omega) (by unfold maxLen; omega) (by omega) (by simp; omega) (w3.heap.size + 1) (by simp) ?_; intro g9 cap9 w9 hown9 hgrow hat9 hlt9; have f9 : w9.frozen? ⟨N.nb, 3, none⟩ = false := (hgrow.frozen_far ⟨N.nb, 3, none⟩ (by simp; omega) (Ne.symm HNE.out)).trans (froz_alloc lnb u33); have c9 : w9.cell? ⟨N.nb, 3, none⟩ = some (.slice wa3 wl3 wc3) := (hgrow.cell_far ⟨N.nb, 3, none⟩ (by simp; omega) (Ne.symm HNE.out)).trans ((World.cell?_of_block (Below.heap_alloc w3 _ N.nb lnb)).trans n33)))
        all_goals
          have H9 : Hid (Net w0 (w9.setCell ⟨N.nb, 3, none⟩ (.slice (some ⟨g9, 0, none⟩) (wl3 + 1) cap9)) N ⟨x.S, x.ti, x.ps, x.im, x.Rs.set i R', way1 ++ [(i, l')], x.q + 3⟩) := by
            have fa : Fr [] w3 (w3.alloc (.cells #[.int .i64 (i : Int), .bool true, .string Ty] 108)).drew := ((Fr.refl _ _).alloc _).drew
            have e5 : ml3 N.n (i, l') = [.int .i64 (i : Int), .bool true, .string Ty] := by
              unfold ml3
              rw [ST3.out.2, HTy.out]
            have M9 := (H3'.out.1.same fa).push (i, l') (W9 := w9) (wv' := .slice (some ⟨g9, 0, none⟩) (wl3 + 1) cap9) (by rw [H3'.out.2.1, e5]; exact hown9) (by rw [H3'.out.2.1]; exact hgrow)
            have F9 : Fr (N.nb :: (Value.slice wa3 way1.length wc3).ownBlock.toList) w3 (w9.setCell ⟨N.nb, 3, none⟩ (.slice (some ⟨g9, 0, none⟩) (wl3 + 1) cap9)) := ((((Fr.refl _ _).alloc _).drew).grown hgrow (fun k hk => Or.inl (by rw [H3'.out.2.1]; simp [hk]))).setCell _ (Or.inl (by simp))
            exact net_goes H3.out.1 (H3.out.2.1.le (show x.q + 1 ≤ x.q + 3 by omega) (Int.le_refl _)) H3.out.2.2.1 M9 F9
          clear hown9 hgrow hat9 hlt9 f9 c9
          go_wp2
          go_ret
          exact ⟨rfl, x.S, x.ps, x.Rs.set i R', _, H9.out, Or.inr ⟨HT.out.2, rfl, R, R', l', HP.out.2.1, rfl, ST3.out.1, rfl⟩⟩
    · go_enter Tryz.func22, Tryz.ntmps22
      go_wp2
      obtain ⟨W2, hW2⟩ : ∃ W2, w1 = W2 := ⟨_, rfl⟩
      have HJ : Hid (Net w0 W2 N ⟨x.S, x.ti, x.ps, x.im, x.Rs, way1, x.q⟩ ∧ W2.heap[mb]? = some (.cells #[.int .i64 (i : Int), .bool true, .string Tx] 108 (0, 0)) ∧ ∃ rv2 wv2 iv2 vs2, NM N.nb N.BN N.n N.c N.rcs W2 x.S x.ti x.ps x.im x.Rs way1 rv2 wv2 iv2 vs2 ∧ wv2.ownBlock ≠ some mb) := by
        have e8 : x.way = way1 := HW1.out
        rw [← hW2, ← e8]
        refine ⟨HS.out.1, HS.out.2.2.1, ⟨_, _, _, _, HS.out.2.1, fun e => ?_⟩⟩
        have h8 : wg = mb := by simpa [Value.ownBlock] using e
        have h9 := World.block_lt_of_cell? _ _ d0
        have h10 : wg < w.heap.size := h9
        omega
      rw [hW2]
      clear hW2
      obtain ⟨rv2, wv2, iv2, vs2, M2, hmw2⟩ := HJ.out.2.2
      have HMW : Hid (wv2.ownBlock ≠ some mb) := hmw2
      clear hmw2
      have n0 := M2.cells.1
      have m0 : W2.cell? ⟨mb, 0, none⟩ = some (.int .i64 (i : Int)) := by rw [cell_of HJ.out.2.1]; rfl
      have m2 : W2.cell? ⟨mb, 2, none⟩ = some (.string Tx) := by rw [cell_of HJ.out.2.1]; rfl
      have HST : Hid (∀ W, Fr [] W2 W → Calls Tryz.prog 39 #[.pointer (some ⟨N.c.xb, 0, none⟩), .int .i64 i, .string Tx] W fun e w' => ∃ v, e = .returned v ∧ StPost N.c W w' N.n x.S x.ps x.im x.Rs way1 x.ti (x.ti + N.c.mo) x.q i p l v) := fun W hW => by
        rw [← HT.out.1]
        exact stake N.c HJ.out.1.C HJ.out.1.I HP.out.1 HP.out.2.1 HP.out.2.2 (back_cases HT.out.2) (by show x.q ≤ 800000; omega) W (M2.same hW).sk
      have HM2 : Hid (NM N.nb N.BN N.n N.c N.rcs W2 x.S x.ti x.ps x.im x.Rs way1 rv2 wv2 iv2 vs2) := M2
      clear M2
      go_region_held3 (fun w' => w'.cell? ⟨N.nb, 0, none⟩ = some (.pointer (some ⟨N.c.xb, 0, none⟩)) ∧ w'.cell? ⟨mb, 0, none⟩ = some (.int .i64 (i : Int)) ∧ w'.cell? ⟨mb, 2, none⟩ = some (.string Tx))
        (first
          | exact ⟨n40, m40, m42⟩
          | exact ⟨n30, m30, m32⟩
          | go_keep)
        (first
          | (go_at_call 25; refine (G3.out).mono ?_; rintro e w4 ⟨rfl, wv4, M4, f4, o4⟩; have H4 : Hid (Net w0 w4 N ⟨S', x.ti, x.ps.set i p', x.im, x.Rs, way1 ++ out.map fun l => (i, l), x.q + 3⟩) := net_goes H3.out.1 H3.out.2.1 H3.out.2.2.1 M4 f4; have n40 := M4.cells.1; have b4 : w4.heap[mb]? = some (.cells #[.int .i64 (i : Int), .bool true, .string Tx] 108 (0, 0)) := (by rw [f4.block mb (Array.getElem?_eq_some_iff.1 H3.out.2.2.2.1).1 H3.out.2.2.2.2.1]; exact H3.out.2.2.2.1); have m40 : w4.cell? ⟨mb, 0, none⟩ = some (.int .i64 (i : Int)) := (by rw [cell_of b4]; rfl); have m42 : w4.cell? ⟨mb, 2, none⟩ = some (.string Tx) := (by rw [cell_of b4]; rfl); clear M4 f4 o4 b4)
          | (go_at_call 39; refine (HST.out _ (by first | exact Fr.refl _ _ | exact (Fr.refl _ _).drew)).mono ?_; rintro e w3 ⟨v3, rfl, S', p', out, ow3, ss3, I3, st3, ol3⟩; obtain ⟨va3, vc3, hv3⟩ := own_shape ow3; subst hv3; have H3 := gv_three (W2 := W2) (by first | exact Fr.refl _ _ | exact (Fr.refl _ _).drew) HJ.out.1 HM2.out HJ.out.2.1 HMW.out (by omega) ss3 I3; have G3 : Hid (Calls Tryz.prog 25 #[.pointer (some ⟨N.nb, 0, none⟩), .slice va3 out.length vc3] w3 fun e w' => e = .returned (.bool true) ∧ GoPost N.nb N.BN N.n N.c N.rcs w3 w' S' x.ti (x.ps.set i p') x.im x.Rs (way1 ++ out.map fun l => (i, l)) rv2 iv2 vs2 wv2) := gv_goes H3.out.1 ow3 st3 ol3 H3.out.2.2.2.2.2 HP.out.2.1; have ST3 : Hid (SStep p p' (nwG x.im.length) l out) := st3; have n30 := H3.out.1.cells.1; have m30 : w3.cell? ⟨mb, 0, none⟩ = some (.int .i64 (i : Int)) := (by rw [cell_of H3.out.2.2.2.1]; rfl); have m32 : w3.cell? ⟨mb, 2, none⟩ = some (.string Tx) := (by rw [cell_of H3.out.2.2.2.1]; rfl); clear ow3 ss3 I3 st3 ol3))
      all_goals
        go_wp2
        go_ret
        exact ⟨rfl, S', x.ps.set i p', x.Rs, _, H4.out, Or.inl ⟨HT.out.2, rfl, p, p', out, HP.out.1, rfl, ST3.out, rfl⟩⟩
end Go.Proofs.YthdhegmlknpllabGreatDoor
