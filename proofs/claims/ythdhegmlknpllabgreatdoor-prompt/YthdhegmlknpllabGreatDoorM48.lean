import Derived.Test.YthdhegmlknpllabGreatDoorM46
import Derived.Test.YthdhegmlknpllabGreatDoorM16
import Derived.Test.YthdhegmlknpllabGreatDoorM21
import Derived.Test.YthdhegmlknpllabGreatDoorM47
import Derived.Test.YthdhegmlknpllabGreatDoorM19
/-
  The walk of tetherkeep's ticks (8).
-/
namespace Go.Proofs.YthdhegmlknpllabGreatDoor
open Go.RowKit Go.Maps Go.MuLone

section
variable {nb BN n : Nat} {c : SCfg} {rcs : List RCfg} {W W' : World} {S S' : Sto} {ti ti' : Int} {ps ps' : List Pe} {im : List Img} {Rs : List Sto} {way way' : List (Nat × Lt)} {rv wv iv : Value} {vs : List Value}
theorem imCells_app (im : List Img) (vs : List Value) (y : Img) (v : Value) (h : vs.length = im.length) : imCells (im ++ [y]) (vs ++ [v]) = imCells im vs ++ [(1000001 + (im.length : Int), (y.time, v))] := by
  unfold imCells
  rw [List.length_append, List.length_singleton, List.range_succ, List.map_append]
  congr 1
  · apply List.map_congr_left
    intro j hj
    have hj' : j < im.length := by simpa using hj
    rw [List.getD_eq_getElem?_getD, List.getD_eq_getElem?_getD, List.getD_eq_getElem?_getD, List.getD_eq_getElem?_getD, List.getElem?_append_left hj', List.getElem?_append_left (by omega)]
  · simp [← h]
/-- An image is written down. -/
theorem NM.setImg (h : NM nb BN n c rcs W S ti ps im Rs way rv wv iv vs) {W9 : World} (hg : W.grownBy W9 iv.ownBlock) {iv' v : Value} {t : Int} {b : List B4} (ho : W9.ownsRow BN 60 3 iv' (im.length + 1) (imC (imCells im vs) ++ [.int .i64 (1000001 + (im.length : Int)), .int .i64 t, v])) (hv : W.ownsRow BN 9 1 v n (b4S b)) : NM nb BN n c rcs (W9.setCell ⟨nb, 4, none⟩ iv') S ti ps (im ++ [⟨t, b⟩]) Rs way rv wv iv' (vs ++ [v]) := by
  have ht : ∀ j, iv.ownBlock = some j → ∃ cur, W.heap[j]? = some (.cells cur 60 (0, 0)) := fun j hj => (own_tag h.io hj).2
  have hf : Fr iv.ownBlock.toList W W9 := (Fr.refl _ _).grown hg (fun k hk => Or.inl (by simp [hk]))
  have hnF : nb ∉ iv.ownBlock.toList := fun hm => by
    simp at hm
    obtain ⟨cur, e⟩ := ht nb hm
    rw [h.blk] at e
    simp at e
  have b9 : W9.heap[nb]? = some (.cells #[.pointer (some ⟨c.xb, 0, none⟩), rv, .int .i64 n, wv, iv] 32 (0, 0)) := by rw [hf.block nb (Array.getElem?_eq_some_iff.1 h.blk).1 hnF]; exact h.blk
  have hf2 : Fr (nb :: iv.ownBlock.toList) W (W9.setCell ⟨nb, 4, none⟩ iv') := (hf.mono (fun k hk => List.mem_cons_of_mem _ hk)).setCell _ (Or.inl (by simp))
  have hro : ∀ {base : Nat} {e : TypeId} {size : Nat} {v : Value} {k : Nat} {xs : List Value}, e ≠ 32 → W9.ownsRow base e size v k xs → (W9.setCell ⟨nb, 4, none⟩ iv').ownsRow base e size v k xs := fun {base e size v k xs} he ho' => by
    refine own_fr (F := [nb]) ho' ((Fr.refl _ _).setCell _ (Or.inl (by simp))) (fun j hj hm => ?_)
    simp at hm
    obtain ⟨_, cur, h4⟩ := own_tag ho' hj
    rw [hm, b9] at h4
    simp at h4
    exact he h4.2.symm
  have hold : ∀ {base : Nat} {e : TypeId} {size : Nat} {v : Value} {k : Nat} {xs : List Value}, e ≠ 32 → e ≠ 60 → W.ownsRow base e size v k xs → (W9.setCell ⟨nb, 4, none⟩ iv').ownsRow base e size v k xs := fun {base e size v k xs} he he2 ho' => hro he (own_tagged ho' hf (fun j hj cur e => by
    simp at hj
    obtain ⟨cur', e'⟩ := ht j hj
    rw [e'] at e
    simp at e
    exact he2 e.2.symm))
  refine h.net hf2 (fun j hj cur t e => ?_) (fun j hj => ?_) ?_ (hold (by decide) (by decide) h.wo) ?_ (fun j hj => ?_) (by simp [h.vl])
  · rcases List.mem_cons.1 hj with rfl | hj
    · rw [h.blk] at e
      simp at e
      exact Or.inl e.2.symm
    · simp at hj
      obtain ⟨cur', e'⟩ := ht j hj
      rw [e'] at e
      simp at e
      exact Or.inr (Or.inr e.2.symm)
  · rcases List.mem_cons.1 hj with rfl | hj
    · exact ⟨_, _, h.blk⟩
    · simp at hj
      obtain ⟨cur', e'⟩ := ht j hj
      exact ⟨_, _, e'⟩
  · rw [heap_setCell_same _ _ _ _ _ _ b9]
    rfl
  · rw [imCells_app im vs ⟨t, b⟩ v h.vl, List.length_append]
    have e1 : imC (imCells im vs ++ [(1000001 + (im.length : Int), (t, v))]) = imC (imCells im vs) ++ [.int .i64 (1000001 + (im.length : Int)), .int .i64 t, v] := by simp [imC, im3]
    rw [e1]
    exact hro (by decide) ho
  · rw [List.length_append, List.length_singleton] at hj
    by_cases hj2 : j < im.length
    · have e1 : (vs ++ [v]).getD j (.slice none 0 0) = vs.getD j (.slice none 0 0) := by rw [List.getD_eq_getElem?_getD, List.getD_eq_getElem?_getD, List.getElem?_append_left (by rw [h.vl]; exact hj2)]
      have e2 : (im ++ [(⟨t, b⟩ : Img)]).getD j ⟨0, []⟩ = im.getD j ⟨0, []⟩ := by rw [List.getD_eq_getElem?_getD, List.getD_eq_getElem?_getD, List.getElem?_append_left hj2]
      rw [e1, e2]
      exact hold (by decide) (by decide) (h.vo j hj2)
    · have hj3 : j = im.length := by omega
      subst hj3
      have e1 : (vs ++ [v]).getD im.length (.slice none 0 0) = v := by rw [← h.vl]; simp
      have e2 : (im ++ [(⟨t, b⟩ : Img)]).getD im.length ⟨0, []⟩ = ⟨t, b⟩ := by simp
      rw [e1, e2]
      exact hold (by decide) (by decide) hv
end

theorem lastG_get {l : List Sn} {k : Nat} (hk : l.length = k) (h0 : 0 < k) : lastG l = (l[k - 1]'(by omega)).guid := by
  subst hk
  unfold lastG
  rw [List.getLast?_eq_getElem?, List.getElem?_eq_getElem (by omega)]
  rfl
theorem b4S_vol (l : List Ct) : b4S (l.map Ct.x) = strs l := by
  unfold b4S strs
  rw [List.map_map]
  rfl
theorem info60 : (Tryz.prog.info? 60).map (fun i => (i.zero, i.size, i.bytes)) = some (some (.agg #[.int .i64 0, .int .i64 0, .slice none 0 0]), 3, 40) := by kernel_rfl

/-- The source's Snaps: what it tells lies apart. -/
theorem src_snaps {c : SCfg} {W : World} {S : Sto} {ti : Int} {ps : List Pe} (h : SKc c W S ti ps) (hl : S.ss.length ≤ 12) :
    Calls Tryz.prog 14 #[.pointer (some ⟨c.b, 0, none⟩)] W fun e w' => ∃ gg, e = .returned (.slice (some ⟨gg, 0, none⟩) S.ss.length S.ss.length) ∧ W.heap.size ≤ gg ∧ w'.heap[gg]? = some (.cells (tlC (S.ss.map t3)).toArray 55 (0, 0)) ∧ SS c W w' S S ti ps := by
  refine (snaps_any c.B c.b S W h.rep hl).mono ?_
  rintro e w' ⟨gg, rfl, h1, h2, r, f⟩
  exact ⟨gg, rfl, h1, h2, (SS.start h).step r f (fun k hk => Or.inl hk)⟩

/-- What of the source's snapshots the law looks at. -/
structure TcF (S S' : Sto) (im im' : List Img) (ti : Int) : Prop where
  len : S'.ss.length ≤ 12
  none : S.ss.length = 0 → im.length = 0
  old : 0 < S.ss.length → lastG S.ss = 1000000 + (im.length : Int) ∧ 0 < im.length
  new0 : im' = im → im.length = 0 → S'.ss.length = 0
  new1 : 0 < im'.length → 0 < S'.ss.length ∧ lastG S'.ss = 1000000 + (im'.length : Int)
  tm : ∀ x ∈ S'.ss, x.time = tI im' x.guid
theorem tcF {n : Nat} {S S' : Sto} {ps ps' : List Pe} {im im' : List Img} {ti : Int} (s : SrcOk S n im ps) (s' : SrcOk S' n im' ps') : TcF S S' im im' ti := by
  have hl : ∀ {S : Sto} {im : List Img} {ps : List Pe}, SrcOk S n im ps → 0 < im.length → 0 < S.ss.length ∧ lastG S.ss = 1000000 + (im.length : Int) := fun {S im ps} s h0 => by
    have h1 := s.lst
    unfold nwG at h1
    rw [if_neg (by omega)] at h1
    refine ⟨?_, h1⟩
    obtain ⟨x, hx, _⟩ := lastG_mem (l := S.ss) (by omega)
    exact List.length_pos_of_mem hx
  have h0 : ∀ {S : Sto} {im : List Img} {ps : List Pe}, SrcOk S n im ps → im.length = 0 → S.ss.length = 0 := fun {S im ps} s h0 => by
    apply Classical.byContradiction
    intro hn
    have hx : S.ss[0]'(by omega) ∈ S.ss := List.getElem_mem _
    have := (s.sn _ hx).1
    have a1 := this.1
    have a2 := this.2
    omega
  refine ⟨s'.len, fun e => ?_, fun e => ?_, fun e1 e2 => h0 s' (by rw [e1]; exact e2), fun e => hl s' e, fun x hx => (s'.sn x hx).2.2⟩
  · apply Classical.byContradiction
    intro hn
    have := hl s (by omega)
    omega
  · have hi : 0 < im.length := by
      apply Classical.byContradiction
      intro hn
      have := h0 s (by omega)
      omega
    exact ⟨(hl s hi).2, hi⟩

theorem ss_trans {c : SCfg} {w W W' : World} {S S1 S2 : Sto} {ti ti' : Int} {ps ps' : List Pe} (h : SS c w W S S1 ti ps) (h2 : SS c W W' S1 S2 ti' ps') : SS c w W' S S2 ti' ps' :=
  ⟨h2.sk, h.fr.trans h2.fr h.in, fun k hk => by
    rcases h2.ft k hk with h3 | h3
    · exact h.ft k h3
    · have := h.fr.size
      exact Or.inr (by omega)⟩
theorem src_no {c : SCfg} {W : World} {S : Sto} {ti : Int} {ps : List Pe} (t : TypeId) (ht : t ≠ 73 ∧ t ≠ 112 ∧ t ≠ 86 ∧ t ≠ 92 ∧ t ≠ 88 ∧ t ≠ 120 ∧ t ≠ 5) (h : SKc c W S ti ps) : ∀ j ∈ c.xb :: c.pb :: foot c.b S, ∀ cur, W.heap[j]? ≠ some (.cells cur t (0, 0)) := fun j hj cur e => by
  rcases src_tags h j hj cur t e with r | r | r | r | r | r | r
  · exact ht.1 r
  · exact ht.2.1 r
  · exact ht.2.2.1 r
  · exact ht.2.2.2.1 r
  · exact ht.2.2.2.2.1 r
  · exact ht.2.2.2.2.2.1 r
  · exact ht.2.2.2.2.2.2 r
theorem tc_b {im im' : List Img} {y : Img} {r : Int} (h : (r = 0 ∧ im' = im ++ [y]) ∨ (r ≠ 0 ∧ im' = im)) (hr : ¬ r = 0) : im' = im := by
  rcases h with h | h
  · exact absurd h.1 hr
  · exact h.2
theorem tc_a {im im' : List Img} {y : Img} {r : Int} (h : (r = 0 ∧ im' = im ++ [y]) ∨ (r ≠ 0 ∧ im' = im)) (hr : r = 0) : im' = im ++ [y] := by
  rcases h with h | h
  · exact h.2
  · exact absurd hr h.1
/-- Behind Tick. -/
theorem tc_two {w w1 w2 : World} {N : NC} {S S' : Sto} {ti T : Int} {ps ps' : List Pe} {im im' : List Img} {Rs : List Sto} {way L : List (Nat × Lt)} {q : Nat} {rv wv iv v : Value} {vs : List Value} (s1 : SS N.c w w1 S S ti ps) (M : NM N.nb N.BN N.n N.c N.rcs w1 S ti ps im Rs way rv wv iv vs) (I : NInv N.n S ps im Rs way T q) (ow : w2.ownsRow w1.heap.size 115 2 v L.length (ltC (lts N.n L))) (tk : TkS N.c w1 w2 S S' (ti + 1) ps' N.n im' Rs (way ++ L) T (q + 5)) (ak : Asked ps ps' L (ti + 1) (nwG im'.length) ps.length) (ll : L.length ≤ 3) :
    Hid (TkS N.c w1 w2 S S' (ti + 1) ps' N.n im' Rs (way ++ L) T (q + 5) ∧ w2.ownsRow w1.heap.size 115 2 v L.length (ltC (lts N.n L)) ∧ Asked ps ps' L (ti + 1) (nwG im'.length) ps.length ∧ L.length ≤ 3 ∧ TcF S S' im im' ti ∧ NM N.nb N.BN N.n N.c N.rcs w2 S' (ti + 1) ps' im Rs way rv wv iv vs ∧ SS N.c w w2 S S' (ti + 1) ps') :=
  ⟨tk, ow, ak, ll, tcF I.src tk.I.src, M.source tk.ss, ss_trans s1 tk.ss⟩

theorem tc_nine {w0 w5 w9 : World} {N : NC} {S' : Sto} {ti t : Int} {ps : List Pe} {im : List Img} {Rs : List Sto} {way L : List (Nat × Lt)} {B1 il ic : Nat} {ia : Option Addr} {rv wv iv iv' v v5 : Value} {vs : List Value} {b : List B4} {o : Obj} (M : NM N.nb N.BN N.n N.c N.rcs w5 S' ti ps im Rs way rv wv iv vs) (hiv : Value.slice ia im.length ic = iv) (hil : im.length = il) (ow : w5.ownsRow B1 115 2 v L.length (ltC (lts N.n L))) (o5 : w5.ownsRow N.BN 9 1 v5 N.n (b4S b)) (hg : (w5.alloc o).drew.grownBy w9 (Value.slice ia il ic).ownBlock) (h9 : w9.ownsRow N.BN 60 3 iv' (il + 1) (imC (imCells im vs) ++ [.int .i64 (1000001 + (im.length : Int)), .int .i64 t, v5])) (be : Below w0.heap.size w0 w5) (lo : w0.heap.size ≤ N.BN) :
    Hid (NM N.nb N.BN N.n N.c N.rcs (w9.setCell ⟨N.nb, 4, none⟩ iv') S' ti ps (im ++ [⟨t, b⟩]) Rs way rv wv iv' (vs ++ [v5]) ∧ (w9.setCell ⟨N.nb, 4, none⟩ iv').ownsRow B1 115 2 v L.length (ltC (lts N.n L)) ∧ Below w0.heap.size w0 (w9.setCell ⟨N.nb, 4, none⟩ iv')) := by
  subst hil
  rw [hiv] at hg
  have fa : Fr [] w5 (w5.alloc o).drew := ((Fr.refl _ _).alloc _).drew
  have F9 : Fr (N.nb :: iv.ownBlock.toList) w5 (w9.setCell ⟨N.nb, 4, none⟩ iv') := ((((Fr.refl _ _).alloc _).drew).grown hg (fun k hk => Or.inl (by simp [hk]))).setCell _ (Or.inl (by simp))
  have hno : ∀ j ∈ N.nb :: iv.ownBlock.toList, N.BN ≤ j ∧ ∀ cur, w5.heap[j]? ≠ some (.cells cur 115 (0, 0)) := fun j hj => by
    rcases List.mem_cons.1 hj with rfl | hj
    · exact ⟨M.hnb, fun cur e => by rw [M.blk] at e; simp at e⟩
    · simp at hj
      obtain ⟨h1, cur', h2⟩ := own_tag M.io hj
      exact ⟨h1, fun cur e => by rw [h2] at e; simp at e⟩
  exact ⟨(M.same fa).setImg hg h9 (own_fr' o5 fa), own_tagged ow F9 (fun j hj => (hno j hj).2), be.trans (F9.below be.size (fun k hk => by have := (hno k hk).1; omega))⟩
theorem cell_al {W : World} {a : Addr} {v : Value} (o : Obj) (h : W.cell? a = some v) : (W.alloc o).cell? a = some v := by
  have hl : a.block < W.heap.size := by
    apply Classical.byContradiction
    intro hn
    have e : W.heap[a.block]? = none := Array.getElem?_eq_none (by omega)
    unfold World.cell? at h
    rw [e] at h
    simp at h
  exact (World.cell?_of_block (a := a) (Below.heap_alloc W o a.block hl)).trans h
theorem tl_last {W : World} {S : Sto} {g k : Nat} (h : W.heap[g]? = some (.cells (tlC (S.ss.map t3)).toArray 55 (0, 0))) (hk : S.ss.length = k) (h0 : 0 < k) : ∃ y, y ∈ S.ss ∧ y.guid = lastG S.ss ∧ W.cell? ⟨g, (k - 1) * 3, none⟩ = some (.int .i64 y.guid) ∧ W.cell? ⟨g, (k - 1) * 3 + 1, none⟩ = some (.int .i64 y.time) ∧ W.cell? ⟨g, (k - 1) * 3 + 2, none⟩ = some (.int .i64 y.holds) := by
  have hl : k - 1 < S.ss.length := by omega
  have hl3 : k - 1 < (S.ss.map t3).length := by rw [List.length_map]; exact hl
  obtain ⟨g0, g1, g2⟩ := tlC_get (S.ss.map t3) (k - 1) hl3
  rw [List.getElem_map] at g0 g1 g2
  refine ⟨S.ss[k - 1], List.getElem_mem _, (lastG_get hk h0).symm, ?_, ?_, ?_⟩
  · rw [cell_of h, List.getElem?_toArray]; exact g0
  · rw [cell_of h, List.getElem?_toArray]; exact g1
  · rw [cell_of h, List.getElem?_toArray]; exact g2
theorem tl_keep {c : SCfg} {W W' : World} {S S' : Sto} {ti' : Int} {ps' : List Pe} {g : Nat} {o : Array Value} (h : W.heap[g]? = some (.cells o 55 (0, 0))) (s : SS c W W' S S' ti' ps') {ti : Int} {ps : List Pe} (sk : SKc c W S ti ps) : W'.heap[g]? = some (.cells o 55 (0, 0)) := by
  rw [s.fr.block g (Array.getElem?_eq_some_iff.1 h).1 (fun hm => src_no 55 (by decide) sk g hm _ h)]
  exact h
theorem tc_vol {c : SCfg} {W : World} {S S' : Sto} {ti : Int} {ps ps2 : List Pe} {n : Nat} {im : List Img} (h : SKc c W S' ti ps) (s : SrcOk S' n im ps2) (hv : S'.vol = S.vol) (hn : 1 ≤ n ∧ n ≤ 4) :
    Calls Tryz.prog 24 #[.pointer (some ⟨c.b, 0, none⟩), .int .i64 n] W fun e w' => ∃ v, e = .returned (.tuple #[v, .bool true]) ∧ w'.ownsRow W.heap.size 9 1 v n (b4S (S.vol.map Ct.x)) ∧ SS c W w' S' S' ti ps := by
  have h1 := volume_any c.B c.b S' W h.rep (by rw [s.vol]; omega)
  rw [s.vol] at h1
  refine h1.mono ?_
  rintro e w' ⟨v, rfl, o, r, f⟩
  exact ⟨v, rfl, by rw [b4S_vol, ← hv]; exact o, (SS.start h).step r f (fun k hk => Or.inl hk)⟩
/-- Behind volume. -/
theorem tc_five {w1 w3 W w5 : World} {N : NC} {S' : Sto} {ti : Int} {ps' : List Pe} {im : List Img} {Rs : List Sto} {way L : List (Nat × Lt)} {rv wv iv v v5 : Value} {vs : List Value} {b : List B4} {o : Array Value} (hf : Fr [] w3 W) (M : NM N.nb N.BN N.n N.c N.rcs w3 S' ti ps' im Rs way rv wv iv vs) (ow : w3.ownsRow w1.heap.size 115 2 v L.length (ltC (lts N.n L))) (hb : (w3.alloc (.cells o 55)).heap[w3.heap.size]? = some (.cells o 55 (0, 0))) (ow5 : w5.ownsRow W.heap.size 9 1 v5 N.n (b4S b)) (ss : SS N.c W w5 S' S' ti ps') (hW : Fr [] (w3.alloc (.cells o 55)) W) :
    Hid (NM N.nb N.BN N.n N.c N.rcs w5 S' ti ps' im Rs way rv wv iv vs ∧ w5.ownsRow w1.heap.size 115 2 v L.length (ltC (lts N.n L)) ∧ w5.ownsRow N.BN 9 1 v5 N.n (b4S b) ∧ w5.heap[w3.heap.size]? = some (.cells o 55 (0, 0)) ∧ SS N.c w3 w5 S' S' ti ps') := by
  have M1 := M.same hf
  have bw : W.heap[w3.heap.size]? = some (.cells o 55 (0, 0)) := by rw [hW.block _ (Array.getElem?_eq_some_iff.1 hb).1 (by simp)]; exact hb
  refine ⟨M1.source ss, own_tagged (own_fr' ow hf) ss.fr (src_no 115 (by decide) M1.sk), Kp.own_base ow5 ?_, tl_keep bw ss M1.sk, ss_trans (SS.same (SS.start M.sk) hf) ss⟩
  have h1 := M.hnb
  have h2 := (Array.getElem?_eq_some_iff.1 M1.blk).1
  omega
theorem tc_end {w0 w3 W w4 : World} {N : NC} {S' : Sto} {ti : Int} {ps : List Pe} {im : List Img} {Rs : List Sto} {way1 way2 : List (Nat × Lt)} {q : Nat} {rv wv wv4 iv : Value} {vs : List Value} (hf : Fr [] w3 W) (M : NM N.nb N.BN N.n N.c N.rcs w3 S' ti ps im Rs way1 rv wv iv vs) (I : NInv N.n S' ps im Rs way2 (ti + N.c.mo) q) (C : CfOk N.c ti (ti + N.c.mo)) (be : Below w0.heap.size w0 w3) (lo : (w0.heap.size ≤ N.c.B ∧ w0.heap.size ≤ N.c.xb ∧ w0.heap.size ≤ N.c.pb) ∧ (∀ r ∈ N.rcs, w0.heap.size ≤ r.B) ∧ w0.heap.size ≤ N.BN) (M4 : NM N.nb N.BN N.n N.c N.rcs w4 S' ti ps im Rs way2 rv wv4 iv vs) (f : Fr (N.nb :: wv.ownBlock.toList) W w4) : Net w0 w4 N ⟨S', ti, ps, im, Rs, way2, q⟩ :=
  net_goes (M.same hf) I ⟨C, be.trans (hf.below be.size (by simp)), lo⟩ M4 f
theorem tc_goes {w1 w3 : World} {N : NC} {S' : Sto} {ti T : Int} {ps ps' : List Pe} {im' imn : List Img} {Rs : List Sto} {way L : List (Nat × Lt)} {q : Nat} {rv wv iv v : Value} {vs : List Value} (M : NM N.nb N.BN N.n N.c N.rcs w3 S' ti ps' imn Rs way rv wv iv vs) (ow : w3.ownsRow w1.heap.size 115 2 v L.length (ltC (lts N.n L))) (I : NInv N.n S' ps' im' Rs (way ++ L) T q) (ak : Asked ps ps' L ti (nwG im'.length) ps.length) (ll : L.length ≤ 3) (hq : q ≤ 800000) :
    Hid (Calls Tryz.prog 25 #[.pointer (some ⟨N.nb, 0, none⟩), v] w3 fun e w' => e = .returned (.bool true) ∧ GoPost N.nb N.BN N.n N.c N.rcs w3 w' S' ti ps' imn Rs (way ++ L) rv iv vs wv) := by
  refine goes_any N.nb N.BN N.n N.c N.rcs w3 S' ti ps' imn Rs way L rv wv iv vs w1.heap.size v M ow ll (fun m hm => ?_) (by have := I.wl; rw [List.length_append] at this; omega)
  obtain ⟨p', R, h1, h2, _⟩ := I.wy m (List.mem_append.2 (Or.inr hm))
  refine ⟨?_, by rw [M.rl]; exact (List.getElem?_eq_some_iff.1 h2).1⟩
  have hi : m.1 < ps.length := by rw [← ak.1]; exact (List.getElem?_eq_some_iff.1 h1).1
  have hml : m.2 ∈ lettersOf L m.1 := by
    unfold lettersOf
    exact List.mem_map.2 ⟨m, List.mem_filter.2 ⟨hm, by simp⟩, rfl⟩
  rcases ak.2 m.1 ps[m.1] (List.getElem?_eq_getElem hi) with ⟨_, _, un, _, e⟩ | ⟨_, _, e⟩
  · rw [e] at hml
    simp at hml
    rw [hml]
    rfl
  · rw [e] at hml
    simp at hml

set_option maxRecDepth 100000 in
set_option maxHeartbeats 6400000 in
theorem ticks_any (w0 : World) (N : NC) (x : PS) (w : World) (h : Net w0 w N x) (hq : x.q ≤ 600000) (hti : x.ti ≤ 900000) :
    Calls Tryz.prog 8 #[.pointer (some ⟨N.nb, 0, none⟩)] w fun e w' => e = .returned (.bool true) ∧ ∃ S' ps' im' L, Net w0 w' N ⟨S', x.ti + 1, ps', im', x.Rs, x.way ++ L, x.q + 5⟩ ∧ Asked x.ps ps' L (x.ti + 1) (nwG im'.length) x.ps.length ∧ L.length ≤ 3 ∧ (((x.ti + 1) % N.c.ev = 0 ∧ im'.length = x.im.length + 1) ∨ ((x.ti + 1) % N.c.ev ≠ 0 ∧ im' = x.im)) := by
  obtain ⟨i0, hi, hz0, hz1, hz2⟩ := info_parts info60
  obtain ⟨rv, wv, iv, vs, M⟩ := h.m
  obtain ⟨x0, x1, x2, x3, x4, z3, z4⟩ := M.cells
  obtain ⟨ia, ic, hiv⟩ := own_shape M.io
  subst hiv
  obtain ⟨il, hil⟩ : ∃ il, x.im.length = il := ⟨_, rfl⟩
  have HIL : Hid (x.im.length = il) := hil
  have hilq : il ≤ 600000 := by have := h.I.nq; omega
  obtain ⟨iv, hiv⟩ : ∃ iv, Value.slice ia x.im.length ic = iv := ⟨_, rfl⟩
  have HIV : Hid (Value.slice ia x.im.length ic = iv) := hiv
  rw [hiv] at M x4
  clear hil hiv
  have HM : Hid (NM N.nb N.BN N.n N.c N.rcs w x.S x.ti x.ps x.im x.Rs x.way rv wv iv vs) := M
  have HN : Hid (Net w0 w N x) := h
  obtain ⟨k1, hk1⟩ : ∃ k1, x.S.ss.length = k1 := ⟨_, rfl⟩
  have HK1 : Hid (x.S.ss.length = k1) := hk1
  have hk12 : k1 ≤ 12 := by rw [← hk1]; exact h.I.src.len
  have HSt : Hid (∀ W, Fr [] w W → Calls Tryz.prog 13 #[.pointer (some ⟨N.c.xb, 0, none⟩)] W fun e w' => e = .returned (.pointer (some ⟨N.c.b, 0, none⟩)) ∧ w' = W) := fun W hW => store_s (M.same hW).sk.sc
  have hC := h.C
  have HC1 : Hid (CfOk N.c (x.ti + 1) (x.ti + 1 + N.c.mo)) := ⟨hC.wt, by have := hC.tm; omega, Int.le_refl _, hC.last, hC.ev, hC.rs⟩
  have HI1 : Hid (NInv N.n x.S x.ps x.im x.Rs x.way (x.ti + 1 + N.c.mo) x.q) := h.I.le (Nat.le_refl _) (by omega)
  have HT0 : Hid (0 ≤ x.ti) := hC.tm.1
  clear M h hk1 hC x1 x3 z3
  by_cases hev0 : (x.ti + 1) % N.c.ev = 0
  · by_cases hk0 : k1 = 0
    · go_enter Tryz.func8, Tryz.ntmps8
      go_wp2_with (first
        | (go_at_call 13; refine (HSt.out _ (by first | exact Fr.refl _ _ | exact (Fr.refl _ _).drew)).mono ?_; rintro e w' ⟨rfl, hw'⟩; have hw'' := hw'.symm; subst hw'')
        | (go_at_call 14; refine (src_snaps (W := w2) H2.out.1.ss.sk H2.out.2.2.2.2.1.len).mono ?_; rintro e w3 ⟨g3, rfl, l3, b3, ss3⟩; rw [HK2.out]; have H3 : Hid (NM N.nb N.BN N.n N.c N.rcs w3 S' (x.ti + 1) ps' x.im x.Rs x.way rv wv iv vs ∧ w3.heap[g3]? = some (.cells (tlC (S'.ss.map t3)).toArray 55 (0, 0)) ∧ SS N.c w w3 x.S S' (x.ti + 1) ps' ∧ w3.ownsRow w1.heap.size 115 2 (.slice va2 L.length vc2) L.length (ltC (lts N.n L))) := ⟨H2.out.2.2.2.2.2.1.source ss3, b3, ss_trans H2.out.2.2.2.2.2.2 ss3, own_tagged H2.out.2.1 ss3.fr (src_no 115 (by decide) H2.out.1.ss.sk)⟩; obtain ⟨y3, hy3, hyg, t30, t31, t32⟩ := tl_last b3 HK2.out k2p; have HY : Hid (y3 ∈ S'.ss ∧ y3.guid = lastG S'.ss) := ⟨hy3, hyg⟩; have HVo : Hid (∀ W, Fr [] w3 W → Calls Tryz.prog 24 #[.pointer (some ⟨N.c.b, 0, none⟩), .int .i64 N.n] W fun e w' => ∃ v, e = .returned (.tuple #[v, .bool true]) ∧ w'.ownsRow W.heap.size 9 1 v N.n (b4S (x.S.vol.map Ct.x)) ∧ SS N.c W w' S' S' (x.ti + 1) ps') := (fun W hW => tc_vol (H3.out.1.same hW).sk H2.out.1.I.src H2.out.1.vol H2.out.1.I.n1); have n32 : w3.cell? ⟨N.nb, 2, none⟩ = some (.int .i64 N.n) := H3.out.1.cells.2.2.1; have hyG : y3.guid = 1000001 + (x.im.length : Int) := (by rw [hyg, (H2.out.2.2.2.2.1.new1 (by rw [HIM.out]; simp)).2, HIM.out]; simp; omega); have hyT : y3.time = x.ti + 1 := (by rw [H2.out.2.2.2.2.1.tm y3 hy3, hyG, HIM.out]; unfold tI; rw [imOf_new]); rw [hyG] at t30; rw [hyT] at t31; clear hyT hyG; have n32a : (w3.alloc (.cells #[.int .i64 (1000001 + (x.im.length : Int)), .int .i64 (x.ti + 1), .int .i64 y3.holds] 55)).cell? ⟨N.nb, 2, none⟩ = some (.int .i64 N.n) := (H3.out.1.same ((Fr.refl _ _).alloc _)).cells.2.2.1; clear hy3 hyg; clear ss3 b3 l3)
        | (go_at_call 14; refine (src_snaps (W := w) HM.out.sk (by rw [HK1.out]; exact hk12)).mono ?_; rintro e w1 ⟨g1, rfl, l1, b1, ss1⟩; rw [HK1.out]; have H1 : Hid (SS N.c w w1 x.S x.S x.ti x.ps ∧ w1.heap[g1]? = some (.cells (tlC (x.S.ss.map t3)).toArray 55 (0, 0)) ∧ NM N.nb N.BN N.n N.c N.rcs w1 x.S x.ti x.ps x.im x.Rs x.way rv wv iv vs) := ⟨ss1, b1, HM.out.source ss1⟩; have n10 := H1.out.2.2.cells.1; clear ss1 b1 l1)
        | (go_at_call 23; refine (tick_any N.c w1 N.n x.S x.ps x.im x.Rs x.way x.ti (x.ti + 1 + N.c.mo) x.q HC1.out HT0.out HI1.out H1.out.1.sk (by omega)).mono ?_; rintro e w2 ⟨v2, rfl, S', ps', im', L, ow2, tk2, ak2, ll2, dj2⟩; obtain ⟨va2, vc2, hv2⟩ := own_shape ow2; subst hv2; have him : im' = x.im ++ [⟨x.ti + 1, x.S.vol.map Ct.x⟩] := tc_a dj2 hev0; have HIM : Hid (im' = x.im ++ [⟨x.ti + 1, x.S.vol.map Ct.x⟩]) := him; clear him; have H2 := tc_two H1.out.1 H1.out.2.2 HI1.out ow2 tk2 ak2 ll2; obtain ⟨k2, hk2⟩ : ∃ k2, S'.ss.length = k2 := ⟨_, rfl⟩; have HK2 : Hid (S'.ss.length = k2) := hk2; have k2p : 0 < k2 := (by rw [← hk2]; exact (H2.out.2.2.2.2.1.new1 (by rw [HIM.out]; simp)).1); have k2z : (0 : Int) < (k2 : Int) := (by omega); have k212 : k2 ≤ 12 := (by rw [← hk2]; exact H2.out.2.2.2.2.1.len); have k2y : (0 : Int) ≤ (k2 : Int) - 1 := (by omega); have k2w : ((k2 : Int) - 1).toNat = k2 - 1 := (by omega); have k2x : (k2 : Int) - 1 < (k2 : Int) := (by omega); clear hk2 ow2 tk2 ak2 ll2 dj2))
      go_quiet (fail)
      go_wp2_with (first
        | (go_at_call 24; refine (HVo.out _ (by first | exact Fr.refl _ _ | exact (Fr.refl _ _).alloc _ | exact ((Fr.refl _ _).alloc _).drewN _ | exact (((Fr.refl _ _).alloc _).drewN _).drew)).mono ?_; rintro e w5 ⟨v5, rfl, ow5, ss5⟩; obtain ⟨va5, vc5, hv5⟩ := own_shape ow5; subst hv5; have H5 := tc_five (by first | exact Fr.refl _ _ | exact (Fr.refl _ _).alloc _ | exact ((Fr.refl _ _).alloc _).drewN _ | exact (((Fr.refl _ _).alloc _).drewN _).drew) H3.out.1 H3.out.2.2.2 (heap_alloc_new w3 _) ow5 ss5 (by first | exact Fr.refl _ _ | exact (Fr.refl _ _).drewN _); have n54 : w5.cell? ⟨N.nb, 4, none⟩ = some (.slice ia il ic) := (by have h8 := H5.out.1.cells.2.2.2.2.1; rw [← HIV.out, HIL.out] at h8; exact h8); have u54 : w5.frozen? ⟨N.nb, 4, none⟩ = false := froz_of H5.out.1.blk _; have b50 : w5.cell? ⟨w3.heap.size, 0, none⟩ = some (.int .i64 (1000001 + (x.im.length : Int))) := (by rw [cell_of H5.out.2.2.2.1]; rfl); have b51 : w5.cell? ⟨w3.heap.size, 1, none⟩ = some (.int .i64 (x.ti + 1)) := (by rw [cell_of H5.out.2.2.2.1]; rfl); clear ow5 ss5))
      have lnb : N.nb < w5.heap.size := (Array.getElem?_eq_some_iff.1 H5.out.1.blk).1
      have hBn : N.BN ≤ w5.heap.size := by have := H5.out.1.hnb; omega
      have HO5 : Hid (w5.ownsRow N.BN 60 3 (.slice ia il ic) il (imC (imCells x.im vs))) := by have h8 := H5.out.1.io; rw [← HIV.out, HIL.out] at h8; exact h8
      have HNE : Hid ((Value.slice ia il ic).ownBlock ≠ some N.nb) := fun e => by obtain ⟨_, cur, h4⟩ := own_tag HO5.out e; rw [H5.out.1.blk] at h4; simp at h4
      go_region_law
        ((refine step_append_lies _ (by rfl) _ _ _ (by rfl) N.BN 60 i0 _ 3 40 Tryz.underlying30 hi hz0 hz1 hz2 rfl (by omega) (.slice ia il ic) il (imC (imCells x.im vs)) (by rfl) ((HO5.out.alloc _).drew) ⟨w5.heap.size, 0, none⟩ 1 1 [.int .i64 (1000001 + (x.im.length : Int)), .int .i64 (x.ti + 1), .slice va5 N.n vc5] (by rfl) (by rfl) (World.news_of_block (cs := #[.int .i64 (1000001 + (x.im.length : Int)), .int .i64 (x.ti + 1), .slice va5 N.n vc5]) (t := 60) (fr := (0, 0)) (heap_alloc_new w5 _)) (by simp [Value.oneCell']) (by omega) (by unfold maxLen; omega) (by omega) (by simp; omega) (w5.heap.size + 1) (by simp) ?_; intro g9 cap9 w9 hown9 hgrow hat9 hlt9; have f9 : w9.frozen? ⟨N.nb, 4, none⟩ = false := (hgrow.frozen_far ⟨N.nb, 4, none⟩ (by simp; omega) (Ne.symm HNE.out)).trans (froz_alloc lnb u54); have c9 : w9.cell? ⟨N.nb, 4, none⟩ = some (.slice ia il ic) := (hgrow.cell_far ⟨N.nb, 4, none⟩ (by simp; omega) (Ne.symm HNE.out)).trans ((World.cell?_of_block (Below.heap_alloc w5 _ N.nb lnb)).trans n54)))
      all_goals
        have H9 := tc_nine (t := x.ti + 1) H5.out.1 HIV.out HIL.out H5.out.2.1 H5.out.2.2.1 hgrow hown9 (HN.out.srcBelow (ss_trans H3.out.2.2.1 H5.out.2.2.2.2)) HN.out.lo.2.2
        rw [← HIM.out] at H9
        clear hown9 hgrow hat9 hlt9 f9 c9
        obtain ⟨W9, hW9⟩ : ∃ W9, w9.setCell ⟨N.nb, 4, none⟩ (.slice (some ⟨g9, 0, none⟩) (il + 1) cap9) = W9 := ⟨_, rfl⟩
        rw [hW9] at H9 ⊢
        clear hW9
        go_wp2_with (first
          | (go_at_call 25; refine (tc_goes (w1 := w1) (H9.out.1.same (by first | exact Fr.refl _ _ | exact (Fr.refl _ _).alloc _ | exact ((Fr.refl _ _).alloc _).drewN _ | exact (((Fr.refl _ _).alloc _).drewN _).drew)) (own_fr' H9.out.2.1 (by first | exact Fr.refl _ _ | exact (Fr.refl _ _).alloc _ | exact ((Fr.refl _ _).alloc _).drewN _ | exact (((Fr.refl _ _).alloc _).drewN _).drew)) H2.out.1.I H2.out.2.2.1 H2.out.2.2.2.1 (by omega)).out.mono ?_; rintro e w4 ⟨rfl, wv4, M4, f4, o4⟩; have H4 : Hid (Net w0 w4 N ⟨S', x.ti + 1, ps', im', x.Rs, x.way ++ L, x.q + 5⟩) := tc_end (by first | exact Fr.refl _ _ | exact (Fr.refl _ _).alloc _ | exact ((Fr.refl _ _).alloc _).drewN _ | exact (((Fr.refl _ _).alloc _).drewN _).drew) H9.out.1 H2.out.1.I HC1.out H9.out.2.2 HN.out.lo M4 f4; clear M4 f4 o4))
        go_ret
        exact ⟨rfl, S', ps', im', L, H4.out, H2.out.2.2.1, H2.out.2.2.2.1, Or.inl ⟨hev0, by rw [HIM.out]; simp⟩⟩
    · have k1v : IntKind.i64.wrap ((k1 : Int) - 1) = (k1 : Int) - 1 := wrap_fit ⟨by omega, by omega⟩
      have k1e : ((k1 : Int) == 0) = false := by simp; omega
      have k1z : (0 : Int) < (k1 : Int) := by omega
      have k1u : (1 : Int) ≤ (k1 : Int) := by omega
      have k1y : (0 : Int) ≤ (k1 : Int) - 1 := by omega
      have k1w : ((k1 : Int) - 1).toNat = k1 - 1 := by omega
      have k1x : (k1 : Int) - 1 < (k1 : Int) := by omega
      go_enter Tryz.func8, Tryz.ntmps8
      go_wp2_with (first
        | (go_at_call 13; refine (HSt.out _ (by first | exact Fr.refl _ _ | exact (Fr.refl _ _).drew)).mono ?_; rintro e w' ⟨rfl, hw'⟩; have hw'' := hw'.symm; subst hw'')
        | (go_at_call 14; refine (src_snaps (W := w2) H2.out.1.ss.sk H2.out.2.2.2.2.1.len).mono ?_; rintro e w3 ⟨g3, rfl, l3, b3, ss3⟩; rw [HK2.out]; have H3 : Hid (NM N.nb N.BN N.n N.c N.rcs w3 S' (x.ti + 1) ps' x.im x.Rs x.way rv wv iv vs ∧ w3.heap[g3]? = some (.cells (tlC (S'.ss.map t3)).toArray 55 (0, 0)) ∧ SS N.c w w3 x.S S' (x.ti + 1) ps' ∧ w3.ownsRow w1.heap.size 115 2 (.slice va2 L.length vc2) L.length (ltC (lts N.n L))) := ⟨H2.out.2.2.2.2.2.1.source ss3, b3, ss_trans H2.out.2.2.2.2.2.2 ss3, own_tagged H2.out.2.1 ss3.fr (src_no 115 (by decide) H2.out.1.ss.sk)⟩; obtain ⟨y3, hy3, hyg, t30, t31, t32⟩ := tl_last b3 HK2.out k2p; have HY : Hid (y3 ∈ S'.ss ∧ y3.guid = lastG S'.ss) := ⟨hy3, hyg⟩; have HVo : Hid (∀ W, Fr [] w3 W → Calls Tryz.prog 24 #[.pointer (some ⟨N.c.b, 0, none⟩), .int .i64 N.n] W fun e w' => ∃ v, e = .returned (.tuple #[v, .bool true]) ∧ w'.ownsRow W.heap.size 9 1 v N.n (b4S (x.S.vol.map Ct.x)) ∧ SS N.c W w' S' S' (x.ti + 1) ps') := (fun W hW => tc_vol (H3.out.1.same hW).sk H2.out.1.I.src H2.out.1.vol H2.out.1.I.n1); have n32 : w3.cell? ⟨N.nb, 2, none⟩ = some (.int .i64 N.n) := H3.out.1.cells.2.2.1; have hyG : y3.guid = 1000001 + (x.im.length : Int) := (by rw [hyg, (H2.out.2.2.2.2.1.new1 (by rw [HIM.out]; simp)).2, HIM.out]; simp; omega); have hyT : y3.time = x.ti + 1 := (by rw [H2.out.2.2.2.2.1.tm y3 hy3, hyG, HIM.out]; unfold tI; rw [imOf_new]); rw [hyG] at t30; rw [hyT] at t31; clear hyT hyG; have n32a : (w3.alloc (.cells #[.int .i64 (1000001 + (x.im.length : Int)), .int .i64 (x.ti + 1), .int .i64 y3.holds] 55)).cell? ⟨N.nb, 2, none⟩ = some (.int .i64 N.n) := (H3.out.1.same ((Fr.refl _ _).alloc _)).cells.2.2.1; obtain ⟨y1, hy1, hyg1, t10, t11, t12⟩ := tl_last (tl_keep (tl_keep H1.out.2.1 H2.out.1.ss H1.out.1.sk) ss3 H2.out.1.ss.sk) HK1.out (by omega); have hyG1 : y1.guid = 1000000 + (x.im.length : Int) := (by rw [hyg1]; exact (H2.out.2.2.2.2.1.old (by rw [HK1.out]; omega)).1); rw [hyG1] at t10; clear hyG1 hy1 hyg1; have t10a : (w3.alloc (.cells #[(.int .i64 (1000001 + (x.im.length : Int))), .int .i64 (x.ti + 1), .int .i64 y3.holds] 55)).cell? ⟨g1, (k1 - 1) * 3, none⟩ = some (.int .i64 (1000000 + (x.im.length : Int))) := cell_al _ t10; clear hy3 hyg; clear ss3 b3 l3)
        | (go_at_call 14; refine (src_snaps (W := w) HM.out.sk (by rw [HK1.out]; exact hk12)).mono ?_; rintro e w1 ⟨g1, rfl, l1, b1, ss1⟩; rw [HK1.out]; have H1 : Hid (SS N.c w w1 x.S x.S x.ti x.ps ∧ w1.heap[g1]? = some (.cells (tlC (x.S.ss.map t3)).toArray 55 (0, 0)) ∧ NM N.nb N.BN N.n N.c N.rcs w1 x.S x.ti x.ps x.im x.Rs x.way rv wv iv vs) := ⟨ss1, b1, HM.out.source ss1⟩; have n10 := H1.out.2.2.cells.1; clear ss1 b1 l1)
        | (go_at_call 23; refine (tick_any N.c w1 N.n x.S x.ps x.im x.Rs x.way x.ti (x.ti + 1 + N.c.mo) x.q HC1.out HT0.out HI1.out H1.out.1.sk (by omega)).mono ?_; rintro e w2 ⟨v2, rfl, S', ps', im', L, ow2, tk2, ak2, ll2, dj2⟩; obtain ⟨va2, vc2, hv2⟩ := own_shape ow2; subst hv2; have him : im' = x.im ++ [⟨x.ti + 1, x.S.vol.map Ct.x⟩] := tc_a dj2 hev0; have HIM : Hid (im' = x.im ++ [⟨x.ti + 1, x.S.vol.map Ct.x⟩]) := him; clear him; have H2 := tc_two H1.out.1 H1.out.2.2 HI1.out ow2 tk2 ak2 ll2; obtain ⟨k2, hk2⟩ : ∃ k2, S'.ss.length = k2 := ⟨_, rfl⟩; have HK2 : Hid (S'.ss.length = k2) := hk2; have k2p : 0 < k2 := (by rw [← hk2]; exact (H2.out.2.2.2.2.1.new1 (by rw [HIM.out]; simp)).1); have k2z : (0 : Int) < (k2 : Int) := (by omega); have k212 : k2 ≤ 12 := (by rw [← hk2]; exact H2.out.2.2.2.2.1.len); have k2y : (0 : Int) ≤ (k2 : Int) - 1 := (by omega); have k2w : ((k2 : Int) - 1).toNat = k2 - 1 := (by omega); have k2x : (k2 : Int) - 1 < (k2 : Int) := (by omega); clear hk2 ow2 tk2 ak2 ll2 dj2))
      go_quiet (fail)
      go_wp2_with (first
        | (go_at_call 24; refine (HVo.out _ (by first | exact Fr.refl _ _ | exact (Fr.refl _ _).alloc _ | exact ((Fr.refl _ _).alloc _).drewN _ | exact (((Fr.refl _ _).alloc _).drewN _).drew)).mono ?_; rintro e w5 ⟨v5, rfl, ow5, ss5⟩; obtain ⟨va5, vc5, hv5⟩ := own_shape ow5; subst hv5; have H5 := tc_five (by first | exact Fr.refl _ _ | exact (Fr.refl _ _).alloc _ | exact ((Fr.refl _ _).alloc _).drewN _ | exact (((Fr.refl _ _).alloc _).drewN _).drew) H3.out.1 H3.out.2.2.2 (heap_alloc_new w3 _) ow5 ss5 (by first | exact Fr.refl _ _ | exact (Fr.refl _ _).drewN _); have n54 : w5.cell? ⟨N.nb, 4, none⟩ = some (.slice ia il ic) := (by have h8 := H5.out.1.cells.2.2.2.2.1; rw [← HIV.out, HIL.out] at h8; exact h8); have u54 : w5.frozen? ⟨N.nb, 4, none⟩ = false := froz_of H5.out.1.blk _; have b50 : w5.cell? ⟨w3.heap.size, 0, none⟩ = some (.int .i64 (1000001 + (x.im.length : Int))) := (by rw [cell_of H5.out.2.2.2.1]; rfl); have b51 : w5.cell? ⟨w3.heap.size, 1, none⟩ = some (.int .i64 (x.ti + 1)) := (by rw [cell_of H5.out.2.2.2.1]; rfl); clear ow5 ss5))
      have lnb : N.nb < w5.heap.size := (Array.getElem?_eq_some_iff.1 H5.out.1.blk).1
      have hBn : N.BN ≤ w5.heap.size := by have := H5.out.1.hnb; omega
      have HO5 : Hid (w5.ownsRow N.BN 60 3 (.slice ia il ic) il (imC (imCells x.im vs))) := by have h8 := H5.out.1.io; rw [← HIV.out, HIL.out] at h8; exact h8
      have HNE : Hid ((Value.slice ia il ic).ownBlock ≠ some N.nb) := fun e => by obtain ⟨_, cur, h4⟩ := own_tag HO5.out e; rw [H5.out.1.blk] at h4; simp at h4
      go_region_law
        ((refine step_append_lies _ (by rfl) _ _ _ (by rfl) N.BN 60 i0 _ 3 40 Tryz.underlying30 hi hz0 hz1 hz2 rfl (by omega) (.slice ia il ic) il (imC (imCells x.im vs)) (by rfl) ((HO5.out.alloc _).drew) ⟨w5.heap.size, 0, none⟩ 1 1 [.int .i64 (1000001 + (x.im.length : Int)), .int .i64 (x.ti + 1), .slice va5 N.n vc5] (by rfl) (by rfl) (World.news_of_block (cs := #[.int .i64 (1000001 + (x.im.length : Int)), .int .i64 (x.ti + 1), .slice va5 N.n vc5]) (t := 60) (fr := (0, 0)) (heap_alloc_new w5 _)) (by simp [Value.oneCell']) (by omega) (by unfold maxLen; omega) (by omega) (by simp; omega) (w5.heap.size + 1) (by simp) ?_; intro g9 cap9 w9 hown9 hgrow hat9 hlt9; have f9 : w9.frozen? ⟨N.nb, 4, none⟩ = false := (hgrow.frozen_far ⟨N.nb, 4, none⟩ (by simp; omega) (Ne.symm HNE.out)).trans (froz_alloc lnb u54); have c9 : w9.cell? ⟨N.nb, 4, none⟩ = some (.slice ia il ic) := (hgrow.cell_far ⟨N.nb, 4, none⟩ (by simp; omega) (Ne.symm HNE.out)).trans ((World.cell?_of_block (Below.heap_alloc w5 _ N.nb lnb)).trans n54)))
      all_goals
        have H9 := tc_nine (t := x.ti + 1) H5.out.1 HIV.out HIL.out H5.out.2.1 H5.out.2.2.1 hgrow hown9 (HN.out.srcBelow (ss_trans H3.out.2.2.1 H5.out.2.2.2.2)) HN.out.lo.2.2
        rw [← HIM.out] at H9
        clear hown9 hgrow hat9 hlt9 f9 c9
        obtain ⟨W9, hW9⟩ : ∃ W9, w9.setCell ⟨N.nb, 4, none⟩ (.slice (some ⟨g9, 0, none⟩) (il + 1) cap9) = W9 := ⟨_, rfl⟩
        rw [hW9] at H9 ⊢
        clear hW9
        go_wp2_with (first
          | (go_at_call 25; refine (tc_goes (w1 := w1) (H9.out.1.same (by first | exact Fr.refl _ _ | exact (Fr.refl _ _).alloc _ | exact ((Fr.refl _ _).alloc _).drewN _ | exact (((Fr.refl _ _).alloc _).drewN _).drew)) (own_fr' H9.out.2.1 (by first | exact Fr.refl _ _ | exact (Fr.refl _ _).alloc _ | exact ((Fr.refl _ _).alloc _).drewN _ | exact (((Fr.refl _ _).alloc _).drewN _).drew)) H2.out.1.I H2.out.2.2.1 H2.out.2.2.2.1 (by omega)).out.mono ?_; rintro e w4 ⟨rfl, wv4, M4, f4, o4⟩; have H4 : Hid (Net w0 w4 N ⟨S', x.ti + 1, ps', im', x.Rs, x.way ++ L, x.q + 5⟩) := tc_end (by first | exact Fr.refl _ _ | exact (Fr.refl _ _).alloc _ | exact ((Fr.refl _ _).alloc _).drewN _ | exact (((Fr.refl _ _).alloc _).drewN _).drew) H9.out.1 H2.out.1.I HC1.out H9.out.2.2 HN.out.lo M4 f4; clear M4 f4 o4))
        go_ret
        exact ⟨rfl, S', ps', im', L, H4.out, H2.out.2.2.1, H2.out.2.2.2.1, Or.inl ⟨hev0, by rw [HIM.out]; simp⟩⟩
  · by_cases hk0 : k1 = 0
    · go_enter Tryz.func8, Tryz.ntmps8
      go_wp2_with (first
        | (go_at_call 25; refine (G3.out _ (by first | exact Fr.refl _ _ | exact (Fr.refl _ _).alloc _ | exact ((Fr.refl _ _).alloc _).drewN _ | exact (((Fr.refl _ _).alloc _).drewN _).drew)).out.mono ?_; rintro e w4 ⟨rfl, wv4, M4, f4, o4⟩; have H4 : Hid (Net w0 w4 N ⟨S', x.ti + 1, ps', x.im, x.Rs, x.way ++ L, x.q + 5⟩) := tc_end (by first | exact Fr.refl _ _ | exact (Fr.refl _ _).alloc _ | exact ((Fr.refl _ _).alloc _).drewN _ | exact (((Fr.refl _ _).alloc _).drewN _).drew) H3.out.1 H2.out.1.I HC1.out (HN.out.srcBelow H3.out.2.2.1) HN.out.lo M4 f4; clear M4 f4 o4)
        | (go_at_call 13; refine (HSt.out _ (by first | exact Fr.refl _ _ | exact (Fr.refl _ _).drew)).mono ?_; rintro e w' ⟨rfl, hw'⟩; have hw'' := hw'.symm; subst hw'')
        | (go_at_call 14; refine (src_snaps (W := w2) H2.out.1.ss.sk H2.out.2.2.2.2.1.len).mono ?_; rintro e w3 ⟨g3, rfl, l3, b3, ss3⟩; rw [HK2.out]; have H3 : Hid (NM N.nb N.BN N.n N.c N.rcs w3 S' (x.ti + 1) ps' x.im x.Rs x.way rv wv iv vs ∧ w3.heap[g3]? = some (.cells (tlC (S'.ss.map t3)).toArray 55 (0, 0)) ∧ SS N.c w w3 x.S S' (x.ti + 1) ps' ∧ w3.ownsRow w1.heap.size 115 2 (.slice va2 L.length vc2) L.length (ltC (lts N.n L))) := ⟨H2.out.2.2.2.2.2.1.source ss3, b3, ss_trans H2.out.2.2.2.2.2.2 ss3, own_tagged H2.out.2.1 ss3.fr (src_no 115 (by decide) H2.out.1.ss.sk)⟩; have G3 : Hid (∀ W, Fr [] w3 W → Hid (Calls Tryz.prog 25 #[.pointer (some ⟨N.nb, 0, none⟩), .slice va2 L.length vc2] W fun e w' => e = .returned (.bool true) ∧ GoPost N.nb N.BN N.n N.c N.rcs W w' S' (x.ti + 1) ps' x.im x.Rs (x.way ++ L) rv iv vs wv)) := (fun W hW => tc_goes (w1 := w1) (H3.out.1.same hW) (own_fr' H3.out.2.2.2 hW) H2.out.1.I H2.out.2.2.1 H2.out.2.2.2.1 (by omega)); clear ss3 b3 l3)
        | (go_at_call 14; refine (src_snaps (W := w) HM.out.sk (by rw [HK1.out]; exact hk12)).mono ?_; rintro e w1 ⟨g1, rfl, l1, b1, ss1⟩; rw [HK1.out]; have H1 : Hid (SS N.c w w1 x.S x.S x.ti x.ps ∧ w1.heap[g1]? = some (.cells (tlC (x.S.ss.map t3)).toArray 55 (0, 0)) ∧ NM N.nb N.BN N.n N.c N.rcs w1 x.S x.ti x.ps x.im x.Rs x.way rv wv iv vs) := ⟨ss1, b1, HM.out.source ss1⟩; have n10 := H1.out.2.2.cells.1; clear ss1 b1 l1)
        | (go_at_call 23; refine (tick_any N.c w1 N.n x.S x.ps x.im x.Rs x.way x.ti (x.ti + 1 + N.c.mo) x.q HC1.out HT0.out HI1.out H1.out.1.sk (by omega)).mono ?_; rintro e w2 ⟨v2, rfl, S', ps', im', L, ow2, tk2, ak2, ll2, dj2⟩; obtain ⟨va2, vc2, hv2⟩ := own_shape ow2; subst hv2; have him : im' = x.im := tc_b dj2 hev0; subst him; have H2 := tc_two H1.out.1 H1.out.2.2 HI1.out ow2 tk2 ak2 ll2; obtain ⟨k2, hk2⟩ : ∃ k2, S'.ss.length = k2 := ⟨_, rfl⟩; have HK2 : Hid (S'.ss.length = k2) := hk2; have k20 : k2 = 0 := (by rw [← hk2]; exact H2.out.2.2.2.2.1.new0 rfl (H2.out.2.2.2.2.1.none (by rw [HK1.out]; exact hk0))); subst k20; clear hk2 ow2 tk2 ak2 ll2 dj2))
      go_ret
      exact ⟨rfl, S', ps', x.im, L, H4.out, H2.out.2.2.1, H2.out.2.2.2.1, Or.inr ⟨hev0, rfl⟩⟩
    · have k1v : IntKind.i64.wrap ((k1 : Int) - 1) = (k1 : Int) - 1 := wrap_fit ⟨by omega, by omega⟩
      have k1e : ((k1 : Int) == 0) = false := by simp; omega
      have k1z : (0 : Int) < (k1 : Int) := by omega
      have k1u : (1 : Int) ≤ (k1 : Int) := by omega
      have k1y : (0 : Int) ≤ (k1 : Int) - 1 := by omega
      have k1w : ((k1 : Int) - 1).toNat = k1 - 1 := by omega
      have k1x : (k1 : Int) - 1 < (k1 : Int) := by omega
      go_enter Tryz.func8, Tryz.ntmps8
      go_wp2_with (first
        | (go_at_call 25; refine (G3.out _ (by first | exact Fr.refl _ _ | exact (Fr.refl _ _).alloc _ | exact ((Fr.refl _ _).alloc _).drewN _ | exact (((Fr.refl _ _).alloc _).drewN _).drew)).out.mono ?_; rintro e w4 ⟨rfl, wv4, M4, f4, o4⟩; have H4 : Hid (Net w0 w4 N ⟨S', x.ti + 1, ps', x.im, x.Rs, x.way ++ L, x.q + 5⟩) := tc_end (by first | exact Fr.refl _ _ | exact (Fr.refl _ _).alloc _ | exact ((Fr.refl _ _).alloc _).drewN _ | exact (((Fr.refl _ _).alloc _).drewN _).drew) H3.out.1 H2.out.1.I HC1.out (HN.out.srcBelow H3.out.2.2.1) HN.out.lo M4 f4; clear M4 f4 o4)
        | (go_at_call 13; refine (HSt.out _ (by first | exact Fr.refl _ _ | exact (Fr.refl _ _).drew)).mono ?_; rintro e w' ⟨rfl, hw'⟩; have hw'' := hw'.symm; subst hw'')
        | (go_at_call 14; refine (src_snaps (W := w2) H2.out.1.ss.sk H2.out.2.2.2.2.1.len).mono ?_; rintro e w3 ⟨g3, rfl, l3, b3, ss3⟩; rw [HK2.out]; have H3 : Hid (NM N.nb N.BN N.n N.c N.rcs w3 S' (x.ti + 1) ps' x.im x.Rs x.way rv wv iv vs ∧ w3.heap[g3]? = some (.cells (tlC (S'.ss.map t3)).toArray 55 (0, 0)) ∧ SS N.c w w3 x.S S' (x.ti + 1) ps' ∧ w3.ownsRow w1.heap.size 115 2 (.slice va2 L.length vc2) L.length (ltC (lts N.n L))) := ⟨H2.out.2.2.2.2.2.1.source ss3, b3, ss_trans H2.out.2.2.2.2.2.2 ss3, own_tagged H2.out.2.1 ss3.fr (src_no 115 (by decide) H2.out.1.ss.sk)⟩; have G3 : Hid (∀ W, Fr [] w3 W → Hid (Calls Tryz.prog 25 #[.pointer (some ⟨N.nb, 0, none⟩), .slice va2 L.length vc2] W fun e w' => e = .returned (.bool true) ∧ GoPost N.nb N.BN N.n N.c N.rcs W w' S' (x.ti + 1) ps' x.im x.Rs (x.way ++ L) rv iv vs wv)) := (fun W hW => tc_goes (w1 := w1) (H3.out.1.same hW) (own_fr' H3.out.2.2.2 hW) H2.out.1.I H2.out.2.2.1 H2.out.2.2.2.1 (by omega)); obtain ⟨y3, hy3, hyg, t30, t31, t32⟩ := tl_last b3 HK2.out k2p; have HY : Hid (y3 ∈ S'.ss ∧ y3.guid = lastG S'.ss) := ⟨hy3, hyg⟩; have hyG : y3.guid = 1000000 + (x.im.length : Int) := (by rw [hyg, (H2.out.2.2.2.2.1.new1 (H2.out.2.2.2.2.1.old (by rw [HK1.out]; omega)).2).2]); rw [hyG] at t30; clear hyG; obtain ⟨y1, hy1, hyg1, t10, t11, t12⟩ := tl_last (tl_keep (tl_keep H1.out.2.1 H2.out.1.ss H1.out.1.sk) ss3 H2.out.1.ss.sk) HK1.out (by omega); have hyG1 : y1.guid = 1000000 + (x.im.length : Int) := (by rw [hyg1]; exact (H2.out.2.2.2.2.1.old (by rw [HK1.out]; omega)).1); rw [hyG1] at t10; clear hyG1 hy1 hyg1; have t10a : (w3.alloc (.cells #[(.int .i64 (1000000 + (x.im.length : Int))), .int .i64 y3.time, .int .i64 y3.holds] 55)).cell? ⟨g1, (k1 - 1) * 3, none⟩ = some (.int .i64 (1000000 + (x.im.length : Int))) := cell_al _ t10; clear hy3 hyg; clear ss3 b3 l3)
        | (go_at_call 14; refine (src_snaps (W := w) HM.out.sk (by rw [HK1.out]; exact hk12)).mono ?_; rintro e w1 ⟨g1, rfl, l1, b1, ss1⟩; rw [HK1.out]; have H1 : Hid (SS N.c w w1 x.S x.S x.ti x.ps ∧ w1.heap[g1]? = some (.cells (tlC (x.S.ss.map t3)).toArray 55 (0, 0)) ∧ NM N.nb N.BN N.n N.c N.rcs w1 x.S x.ti x.ps x.im x.Rs x.way rv wv iv vs) := ⟨ss1, b1, HM.out.source ss1⟩; have n10 := H1.out.2.2.cells.1; clear ss1 b1 l1)
        | (go_at_call 23; refine (tick_any N.c w1 N.n x.S x.ps x.im x.Rs x.way x.ti (x.ti + 1 + N.c.mo) x.q HC1.out HT0.out HI1.out H1.out.1.sk (by omega)).mono ?_; rintro e w2 ⟨v2, rfl, S', ps', im', L, ow2, tk2, ak2, ll2, dj2⟩; obtain ⟨va2, vc2, hv2⟩ := own_shape ow2; subst hv2; have him : im' = x.im := tc_b dj2 hev0; subst him; have H2 := tc_two H1.out.1 H1.out.2.2 HI1.out ow2 tk2 ak2 ll2; obtain ⟨k2, hk2⟩ : ∃ k2, S'.ss.length = k2 := ⟨_, rfl⟩; have HK2 : Hid (S'.ss.length = k2) := hk2; have k2p : 0 < k2 := (by rw [← hk2]; exact (H2.out.2.2.2.2.1.new1 (H2.out.2.2.2.2.1.old (by rw [HK1.out]; omega)).2).1); have k2z : (0 : Int) < (k2 : Int) := (by omega); have k212 : k2 ≤ 12 := (by rw [← hk2]; exact H2.out.2.2.2.2.1.len); have k2y : (0 : Int) ≤ (k2 : Int) - 1 := (by omega); have k2w : ((k2 : Int) - 1).toNat = k2 - 1 := (by omega); have k2x : (k2 : Int) - 1 < (k2 : Int) := (by omega); clear hk2 ow2 tk2 ak2 ll2 dj2))
      go_quiet (fail)
      go_wp2_with (first
        | (go_at_call 25; refine (G3.out _ (by first | exact Fr.refl _ _ | exact (Fr.refl _ _).alloc _ | exact ((Fr.refl _ _).alloc _).drewN _ | exact (((Fr.refl _ _).alloc _).drewN _).drew)).out.mono ?_; rintro e w4 ⟨rfl, wv4, M4, f4, o4⟩; have H4 : Hid (Net w0 w4 N ⟨S', x.ti + 1, ps', x.im, x.Rs, x.way ++ L, x.q + 5⟩) := tc_end (by first | exact Fr.refl _ _ | exact (Fr.refl _ _).alloc _ | exact ((Fr.refl _ _).alloc _).drewN _ | exact (((Fr.refl _ _).alloc _).drewN _).drew) H3.out.1 H2.out.1.I HC1.out (HN.out.srcBelow H3.out.2.2.1) HN.out.lo M4 f4; clear M4 f4 o4))
      go_ret
      exact ⟨rfl, S', ps', x.im, L, H4.out, H2.out.2.2.1, H2.out.2.2.2.1, Or.inr ⟨hev0, rfl⟩⟩
end Go.Proofs.YthdhegmlknpllabGreatDoor

/-
  The net is asked: what its stores tell; the walk of tetherkeep's same (10).
-/
namespace Go.Proofs.YthdhegmlknpllabGreatDoor
open Go.RowKit Go.Maps Go.MuLone

/-- The net is as it was, and rows that were handed out are kept. -/
def NQ (w0 : World) (N : NC) (x : PS) (rv wv iv : Value) (vs : List Value) (W W' : World) : Prop :=
  NM N.nb N.BN N.n N.c N.rcs W' x.S x.ti x.ps x.im x.Rs x.way rv wv iv vs ∧ Net w0 W' N x ∧ W.heap.size ≤ W'.heap.size ∧
  ∀ (g : Nat) (o : Array Value) (t : TypeId), (t = 55 ∨ t = 3 ∨ t = 60) → W.heap[g]? = some (.cells o t (0, 0)) → W'.heap[g]? = some (.cells o t (0, 0))
section
variable {w0 W W' W2 : World} {N : NC} {x : PS} {rv wv iv : Value} {vs : List Value}
theorem NQ.start (h : Net w0 W N x) (M : NM N.nb N.BN N.n N.c N.rcs W x.S x.ti x.ps x.im x.Rs x.way rv wv iv vs) : NQ w0 N x rv wv iv vs W W := ⟨M, h, Nat.le_refl _, fun _ _ _ _ e => e⟩
theorem NQ.trans (h : NQ w0 N x rv wv iv vs W W') (h2 : NQ w0 N x rv wv iv vs W' W2) : NQ w0 N x rv wv iv vs W W2 := ⟨h2.1, h2.2.1, Nat.le_trans h.2.2.1 h2.2.2.1, fun g o t ht e => h2.2.2.2 g o t ht (h.2.2.2 g o t ht e)⟩
theorem NQ.same (h : NQ w0 N x rv wv iv vs W W') (hf : Fr [] W' W2) : NQ w0 N x rv wv iv vs W W2 := ⟨h.1.same hf, h.2.1.same hf, Nat.le_trans h.2.2.1 hf.size, fun g o t ht e => by
  have e' := h.2.2.2 g o t ht e
  rw [hf.block g (Array.getElem?_eq_some_iff.1 e').1 (by simp)]
  exact e'⟩
theorem NQ.source (h : NQ w0 N x rv wv iv vs W W') (s : SS N.c W' W2 x.S x.S x.ti x.ps) : NQ w0 N x rv wv iv vs W W2 :=
  ⟨h.1.source s, ⟨⟨rv, wv, iv, vs, h.1.source s⟩, h.2.1.I, h.2.1.C, h.2.1.srcBelow s, h.2.1.lo⟩, Nat.le_trans h.2.2.1 s.fr.size, fun g o t ht e => by
    have e' := h.2.2.2 g o t ht e
    rw [s.fr.block g (Array.getElem?_eq_some_iff.1 e').1 (fun hm => src_no t (by rcases ht with rfl | rfl | rfl <;> decide) h.1.sk g hm _ e')]
    exact e'⟩
theorem NQ.replica (h : NQ w0 N x rv wv iv vs W W') {i : Nat} {r : RCfg} {R : Sto} (hr : N.rcs[i]? = some r) (hR : x.Rs[i]? = some R) (rp : Rep r.B W2 r.b 0 R) (f : Fr (foot r.b R) W' W2) : NQ w0 N x rv wv iv vs W W2 := by
  have m := h.1.rm i r R hr hR
  have M := h.1.replica hr hR (m.rk.step rp f (fun k hk => Or.inl hk)) f (fun k hk => Or.inl hk)
  have e : x.Rs.set i R = x.Rs := by
    obtain ⟨hi, e⟩ := List.getElem?_eq_some_iff.1 hR
    rw [← e, List.set_getElem_self]
  rw [e] at M
  refine ⟨M, ⟨⟨rv, wv, iv, vs, M⟩, h.2.1.I, h.2.1.C, h.2.1.repBelow hr hR f, h.2.1.lo⟩, Nat.le_trans h.2.2.1 f.size, fun g o t ht e => ?_⟩
  have e' := h.2.2.2 g o t ht e
  rw [f.block g (Array.getElem?_eq_some_iff.1 e').1 (tag_foot m.rk.rep e' (by rcases ht with rfl | rfl | rfl <;> decide))]
  exact e'

theorem nq_store (h : NQ w0 N x rv wv iv vs W W') : Calls Tryz.prog 13 #[.pointer (some ⟨N.c.xb, 0, none⟩)] W' fun e w' => e = .returned (.pointer (some ⟨N.c.b, 0, none⟩)) ∧ w' = W' := store_s h.1.sk.sc
theorem nq_snaps (h : NQ w0 N x rv wv iv vs W W') : Calls Tryz.prog 14 #[.pointer (some ⟨N.c.b, 0, none⟩)] W' fun e w' => ∃ g, e = .returned (.slice (some ⟨g, 0, none⟩) x.S.ss.length x.S.ss.length) ∧ w'.heap[g]? = some (.cells (tlC (x.S.ss.map t3)).toArray 55 (0, 0)) ∧ NQ w0 N x rv wv iv vs W w' := by
  refine (src_snaps h.1.sk h.2.1.I.src.len).mono ?_
  rintro e w' ⟨g, rfl, _, b, s⟩
  exact ⟨g, rfl, b, h.source s⟩
theorem nq_marks (h : NQ w0 N x rv wv iv vs W W') : Calls Tryz.prog 27 #[.pointer (some ⟨N.c.b, 0, none⟩)] W' fun e w' => ∃ g, e = .returned (.slice (some ⟨g, 0, none⟩) x.S.ms.length x.S.ms.length) ∧ w'.heap[g]? = some (.cells (i1C (x.S.ms.map Prod.fst)).toArray 3 (0, 0)) ∧ NQ w0 N x rv wv iv vs W w' := by
  refine (marks_any N.c.B N.c.b x.S W' h.1.sk.rep (by have := h.2.1.I.marks; omega)).mono ?_
  rintro e w' ⟨g, rfl, _, b, r, f⟩
  exact ⟨g, rfl, b, h.source ((SS.start h.1.sk).step r f (fun k hk => Or.inl hk))⟩
theorem nq_rstore (h : NQ w0 N x rv wv iv vs W W') {i : Nat} {r : RCfg} {R : Sto} (hr : N.rcs[i]? = some r) (hR : x.Rs[i]? = some R) : Calls Tryz.prog 20 #[.pointer (some ⟨r.kb, 0, none⟩)] W' fun e w' => e = .returned (.pointer (some ⟨r.b, 0, none⟩)) ∧ w' = W' := store_r (h.1.rm i r R hr hR).rk.kp
theorem nq_rsnaps (h : NQ w0 N x rv wv iv vs W W') {i : Nat} {r : RCfg} {R : Sto} (hr : N.rcs[i]? = some r) (hR : x.Rs[i]? = some R) : Calls Tryz.prog 14 #[.pointer (some ⟨r.b, 0, none⟩)] W' fun e w' => ∃ g, e = .returned (.slice (some ⟨g, 0, none⟩) R.ss.length R.ss.length) ∧ w'.heap[g]? = some (.cells (tlC (R.ss.map t3)).toArray 55 (0, 0)) ∧ NQ w0 N x rv wv iv vs W w' := by
  have hm : R ∈ x.Rs := List.mem_of_getElem? hR
  refine (snaps_any r.B r.b R W' (h.1.rm i r R hr hR).rk.rep (by have := (h.2.1.I.re R hm).rp.len; omega)).mono ?_
  rintro e w' ⟨g, rfl, _, b, rp, f⟩
  exact ⟨g, rfl, b, h.replica hr hR rp f⟩
theorem nq_known (h : NQ w0 N x rv wv iv vs W W') {i : Nat} {p : Pe} (hp : x.ps[i]? = some p) : Calls Tryz.prog 26 #[.pointer (some ⟨N.c.xb, 0, none⟩), .int .i64 i] W' fun e w' => e = .returned (.tuple #[.int .i64 p.k, .int .i64 0]) ∧ NQ w0 N x rv wv iv vs W w' := by
  obtain ⟨hi, e⟩ := List.getElem?_eq_some_iff.1 hp
  have h1 := h.1.sk.pc i hi
  rw [e] at h1
  refine (known_s h.1.sk.sc i hi p h1).mono ?_
  rintro e w' ⟨rfl, f⟩
  exact ⟨rfl, h.same f⟩
/-- A replica, its peer. -/
theorem Net.at (h : Net w0 W N x) {i : Nat} (hi : i < N.rcs.length) : ∃ r R p, N.rcs[i]? = some r ∧ x.Rs[i]? = some R ∧ x.ps[i]? = some p := by
  obtain ⟨rv, wv, iv, vs, M⟩ := h.m
  have h1 := M.rl
  have h2 := h.I.rl
  exact ⟨_, _, _, List.getElem?_eq_getElem hi, List.getElem?_eq_getElem (by omega), List.getElem?_eq_getElem (by omega)⟩
end

set_option maxRecDepth 100000 in
set_option maxHeartbeats 1600000 in
theorem same_any (w0 : World) (N : NC) (x : PS) (w : World) (h : Net w0 w N x) (hs : ∀ (i : Nat) (p : Pe) (R : Sto), x.ps[i]? = some p → x.Rs[i]? = some R → p.k = lastG x.S.ss ∧ lastG R.ss = lastG x.S.ss) :
    Calls Tryz.prog 10 #[.pointer (some ⟨N.nb, 0, none⟩)] w fun e w' => e = .returned (.bool true) ∧ Net w0 w' N x := by
  obtain ⟨rv, wv, iv, vs, M⟩ := h.m
  obtain ⟨ra, rc, hrv⟩ := own_shape M.ro
  subst hrv
  obtain ⟨m, hm⟩ : ∃ m, N.rcs.length = m := ⟨_, rfl⟩
  have HM : Hid (N.rcs.length = m) := hm
  obtain ⟨k, hk⟩ : ∃ k, x.S.ss.length = k := ⟨_, rfl⟩
  have HK : Hid (x.S.ss.length = k) := hk
  have HS : Hid (∀ (i : Nat) (p : Pe) (R : Sto), x.ps[i]? = some p → x.Rs[i]? = some R → p.k = lastG x.S.ss ∧ lastG R.ss = lastG x.S.ss) := hs
  have H0 : Hid (NQ w0 N x (.slice ra N.rcs.length rc) wv iv vs w w) := NQ.start h M
  have hk12 : k ≤ 12 := by rw [← hk]; exact h.I.src.len
  have hm3 : m ≤ 3 := by have h1 := M.rl; have h2 := h.I.rl; have h3 := h.I.pl; omega
  have n0 := M.cells.1
  clear h M hm hk hs
  by_cases hk0 : k = 0
  · subst hk0
    go_enter Tryz.func10, Tryz.ntmps10
    go_wp2_with (first
      | (go_at_call 13; refine (nq_store (W' := w) H0.out).mono ?_; rintro e w' ⟨rfl, hw'⟩; have hw'' := hw'.symm; subst hw'')
      | (go_at_call 14; refine (nq_snaps (W' := w) H0.out).mono ?_; rintro e w1 ⟨g1, rfl, b1, q1⟩; rw [HK.out]; have H1 : Hid (NQ w0 N x (.slice ra N.rcs.length rc) wv iv vs w w1) := q1; clear q1 b1))
    go_ret
    exact ⟨rfl, H1.out.2.1⟩
  · have kp : 0 < k := by omega
    have kz : (0 : Int) < (k : Int) := by omega
    have ky : (0 : Int) ≤ (k : Int) - 1 := by omega
    have kw : ((k : Int) - 1).toNat = k - 1 := by omega
    have kx : (k : Int) - 1 < (k : Int) := by omega
    have ke : ((k : Int) == 0) = false := by simp; omega
    obtain ⟨G, hG⟩ : ∃ G, lastG x.S.ss = G := ⟨_, rfl⟩
    have hG0 : G ≠ 0 := by
      rw [← hG, lastG_get HK.out kp]
      have := (H0.out.2.1.I.src.sn _ (List.getElem_mem (by rw [HK.out]; omega : k - 1 < x.S.ss.length))).1.1
      omega
    rw [hG] at HS
    have HG : Hid (lastG x.S.ss = G) := hG
    clear hG
    go_enter Tryz.func10, Tryz.ntmps10
    go_wp2_with (first
      | (go_at_call 13; refine (nq_store (W' := w) H0.out).mono ?_; rintro e w' ⟨rfl, hw'⟩; have hw'' := hw'.symm; subst hw'')
      | (go_at_call 14; refine (nq_snaps (W' := w) H0.out).mono ?_; rintro e w1 ⟨g1, rfl, b1, q1⟩; rw [HK.out]; obtain ⟨y, _, hyg, t0, _, _⟩ := tl_last b1 HK.out kp; rw [hyg, HG.out] at t0; clear hyg; have H1 : Hid (NQ w0 N x (.slice ra N.rcs.length rc) wv iv vs w w1) := q1; clear q1 b1))
    go_loopw [5] (fun i wr => ∃ j : Nat, j ≤ m ∧ i = .int .i64 j ∧ Hid (NQ w0 N x (.slice ra N.rcs.length rc) wv iv vs w wr)) (fun i _ => m - (intOf i).toNat)
    case atStart => exact ⟨0, Nat.zero_le _, rfl, H1⟩
    case round =>
      obtain ⟨j, hj, rfl, HJ⟩ := hrel
      obtain ⟨W3, hW3⟩ : ∃ W3, W3 = wr := ⟨_, rfl⟩
      subst hW3
      clear n0 t0
      obtain ⟨x0, x1, x2, x3, x4, z3, z4⟩ := HJ.out.1.cells
      rw [HM.out] at x1
      clear x2 x3 x4 z3 z4
      by_cases hlt : j < m
      · have hltz : (j : Int) < (m : Int) := by omega
        have j0 : (0 : Int) ≤ (j : Int) := by omega
        obtain ⟨r, R, p, hr, hR, hp⟩ := HJ.out.2.1.at (i := j) (by rw [HM.out]; exact hlt)
        obtain ⟨rg, hrg, _, _⟩ := own_addr HJ.out.1.ro (by have := HM.out; omega)
        subst hrg
        have xr : W3.cell? ⟨rg, j, none⟩ = some (.pointer (some ⟨r.kb, 0, none⟩)) := by
          have M3 := HJ.out.1
          rw [HM.out] at M3
          exact ro_cell M3 HM.out hr
        obtain ⟨hpk, hlr⟩ := HS.out j p R hp hR
        obtain ⟨kr, hkr⟩ : ∃ kr, R.ss.length = kr := ⟨_, rfl⟩
        have krp : 0 < kr := by
          rw [← hkr]
          rcases Nat.eq_zero_or_pos R.ss.length with e | e
          · exfalso
            rw [List.length_eq_zero_iff.1 e] at hlr
            exact hG0 (by rw [← hlr]; rfl)
          · exact e
        have kr12 : kr ≤ 12 := by have := (HJ.out.2.1.I.re R (List.mem_of_getElem? hR)).rp.len; omega
        have krz : (0 : Int) < (kr : Int) := by omega
        have kru : (1 : Int) ≤ (kr : Int) := by omega
        have krv : IntKind.i64.wrap ((kr : Int) - 1) = (kr : Int) - 1 := wrap_fit ⟨by omega, by omega⟩
        have kry : (0 : Int) ≤ (kr : Int) - 1 := by omega
        have krw : ((kr : Int) - 1).toNat = kr - 1 := by omega
        have krx : (kr : Int) - 1 < (kr : Int) := by omega
        have kre : ((kr : Int) == 0) = false := by simp; omega
        have HKR : Hid (R.ss.length = kr ∧ lastG R.ss = G) := ⟨hkr, hlr⟩
        have HR : Hid (N.rcs[j]? = some r ∧ x.Rs[j]? = some R ∧ x.ps[j]? = some p) := ⟨hr, hR, hp⟩
        obtain ⟨rb, hrb⟩ : ∃ rb, r.b = rb := ⟨_, rfl⟩
        have HRb : Hid (r.b = rb) := hrb
        obtain ⟨pk, hpk'⟩ : ∃ pk, p.k = pk := ⟨_, rfl⟩
        have HPk : Hid (p.k = pk) := hpk'
        have hpG : pk = G := by rw [← hpk', hpk]
        subst hpG
        clear hkr hlr hr hR hp hrb hpk hpk'
        go_wp2_with (first
          | (go_at_call 20; refine (nq_rstore (W' := W3) HJ.out HR.out.1 HR.out.2.1).mono ?_; rintro e w' ⟨rfl, hw'⟩; rw [HRb.out]; have hw'' := hw'.symm; subst hw'')
          | (go_at_call 14; rw [← HRb.out]; refine (nq_rsnaps (W' := W3) HJ.out HR.out.1 HR.out.2.1).mono ?_; rintro e w4 ⟨g4, rfl, b4, q4⟩; rw [HKR.out.1]; have HB4 : Hid (w4.heap[g4]? = some (.cells (tlC (R.ss.map t3)).toArray 55 (0, 0))) := b4; have H4 : Hid (NQ w0 N x (.slice (some ⟨rg, 0, none⟩) N.rcs.length rc) wv iv vs w w4) := q4; have y0 := q4.1.cells.1; clear q4 b4)
          | (go_at_call 26; refine (nq_known (W' := w4) ((NQ.start H4.out.2.1 H4.out.1)) HR.out.2.2).mono ?_; rintro e w5 ⟨rfl, q5⟩; rw [HPk.out]; obtain ⟨y5, _, hyg5, t5, _, _⟩ := tl_last (q5.2.2.2 g4 _ 55 (Or.inl rfl) HB4.out) HKR.out.1 krp; rw [hyg5, HKR.out.2] at t5; clear hyg5; have H5 : Hid (NQ w0 N x (.slice (some ⟨rg, 0, none⟩) N.rcs.length rc) wv iv vs w w5) := H4.out.trans q5; clear q5))
        go_roundw
        case rel => exact ⟨j + 1, by omega, by go_num, H5⟩
        case measure => simp [intOf]; omega
      · have hjj : j = m := by omega
        subst hjj
        go_wp2
        go_ret
        exact ⟨rfl, HJ.out.2.1⟩
end Go.Proofs.YthdhegmlknpllabGreatDoor
