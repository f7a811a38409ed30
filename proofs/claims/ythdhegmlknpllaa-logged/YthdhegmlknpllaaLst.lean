/-
  Logged: what holds while the snapshots are taken.
-/
import Derived.Test.YthdhegmlknpllaaLpu
import Derived.Test.YthdhegmlknpllaaCpu
import Derived.Test.YthdhegmlknpllaaMks
namespace Go.Proofs.Ythdhegmlknpllaa
open Go.RowKit Go.Maps Go.MuLone

def iC (M : List Nat) : List Value := M.map fun x : Nat => .int .i64 (x : Int)

theorem own_other {W : World} {b1 b2 : Nat} {e1 e2 : TypeId} {z1 z2 : Nat} {v1 v2 : Value} {n1 n2 : Nat} {x1 x2 : List Value} (h1 : W.ownsRow b1 e1 z1 v1 n1 x1) (h2 : W.ownsRow b2 e2 z2 v2 n2 x2) (he : e1 ≠ e2) : ∀ k, v1.ownBlock = some k → k ∉ v2.ownBlock.toList := by
  intro k hk hm
  obtain ⟨_, c1, t1⟩ := own_tag h1 hk
  obtain ⟨_, c2, t2⟩ := own_tag h2 (by simpa using hm)
  rw [t1] at t2
  simp at t2
  exact he t2.2

theorem Cuts.ext {d : Int} {n : Nat} {L R : List Lo} {M : List Nat} (h : Cuts d n L M) : Cuts d n (L ++ R) M := by
  intro i hi
  obtain ⟨p, hp, h1, h2, h3⟩ := h i hi
  have e : ∀ q : Nat, q ≤ L.length → (L ++ R).take q = L.take q := fun q hq => List.take_append_of_le_length hq
  exact ⟨p, by simp; omega, by rw [e _ (by omega)]; exact h1, by rw [e _ (by omega)]; exact h2, by rw [e _ (by omega)]; exact h3⟩

structure LF (B b : Nat) (w W : World) (s : Sto) (d : Int) (n : Nat) (L : List Lo) (l : List (Int × Int × Value)) (vg : Value) (M : List Nat) (vl : Value) : Prop where
  rep : Rep B W b 0 s
  eqv : Eqv s (st d n L)
  ok : ∀ o ∈ L, o.ok n
  fr : Fr [] w W
  im : Im B W s d n l vg
  cuts : Cuts d n L M
  row : W.ownsRow B 3 1 vl M.length (iC M)

theorem LF.same {B b : Nat} {w W W' : World} {s : Sto} {d : Int} {n : Nat} {L : List Lo} {l : List (Int × Int × Value)} {vg : Value} {M : List Nat} {vl : Value} (h : LF B b w W s d n L l vg M vl) (hf : Fr [] W W') : LF B b w W' s d n L l vg M vl :=
  ⟨h.rep.kept0 hf, h.eqv, h.ok, h.fr.tr hf, h.im.kept0 hf, h.cuts, own_fr' h.row hf⟩

theorem LF.step {B b : Nat} {w W W' : World} {s : Sto} {d : Int} {n : Nat} {L : List Lo} {l : List (Int × Int × Value)} {vg : Value} {M : List Nat} {vl : Value} (h : LF B b w W s d n L l vg M vl) (hB : B = w.heap.size) (hr : Rep B W' b 0 s) (hf : Fr (foot b s) W W') : LF B b w W' s d n L l vg M vl :=
  ⟨hr, h.eqv, h.ok, h.fr.trans hf (fun k hk => Or.inr (by rw [← hB]; exact (h.rep.lt k hk).1)), h.im.kept h.rep hf (fun _ hk => hk) (fun _ _ _ => rfl), h.cuts, own_fr h.row hf (own_foot h.rep h.row (by decide))⟩

theorem LF.inv {B b : Nat} {w W : World} {s : Sto} {d : Int} {n k : Nat} {L : List Lo} {l : List (Int × Int × Value)} {vg : Value} {M : List Nat} {vl : Value} (h : LF B b w W s d n L l vg M vl) (hn : n ≤ 16) (hk : ns L = k) (hL : L.length ≤ 21 * k) : InvI s d n k := by
  have I := h.eqv.inv (st_inv d n hn L h.ok)
  rw [hk] at I
  exact ⟨I.id, I.vol, I.ss, I.tk, I.cm, I.ms, I.cnt, I.gd, I.cd, by have := I.lg; omega, I.mv⟩

/-- A snapshot more. -/
theorem LF.takes {B b : Nat} {w W w4 : World} {s : Sto} {d : Int} {n k : Nat} {L : List Lo} {l : List (Int × Int × Value)} {vg v : Value} {M : List Nat} {vl : Value} {t : Int} (h : LF B b w W s d n L l vg M vl) (hB : B = w.heap.size) (hn : n ≤ 16) (ht : 0 ≤ t ∧ t ≤ 1073741824) (hk : ns L = k) (hL : L.length ≤ 21 * k) (hl : l.length = k) (hM : M.length = k) (hT : TakesAll B b s d n k t W w4 v) :
    ∃ S L', LF B b w w4 S d n L' l vg M vl ∧ ns L' = k + 1 ∧ L'.length ≤ 21 * (k + 1) ∧ w4.ownsRow B 9 1 v n (thS S (gd d k) n) ∧ Cuts d n L' (M ++ [S.log.length]) := by
  have I := h.inv hn hk hL
  obtain ⟨ops, s1, sv, lv, hW, hle, r4, i4, f4, ft, o4⟩ := hT
  have hE := taken_eqv h.eqv hW t sv lv
  have hlog : ((s1.snap t sv).noted 83 (n4 t).ba lv).log.length = (lgT d n (L ++ opsW ops ++ [Lo.s t])).length := by rw [hE.lg, st_log]
  obtain ⟨_, T2⟩ := taken_th I hW t sv lv
  refine ⟨_, L ++ opsW ops ++ [Lo.s t], ⟨r4, hE, ?_, h.fr.trans f4 (fun j hj => Or.inr (by rw [← hB]; exact (h.rep.lt j hj).1)), h.im.kept h.rep f4 (fun _ hj => hj) (fun j hj i => T2 j i (by omega)), ?_, own_fr h.row f4 (own_foot h.rep h.row (by decide))⟩, ?_, ?_, ?_, ?_⟩
  · intro o ho
    rcases List.mem_append.1 ho with h1 | h1
    · rcases List.mem_append.1 h1 with h2 | h2
      · exact h.ok o h2
      · unfold opsW at h2
        obtain ⟨q, hq, rfl⟩ := List.mem_map.1 h2
        exact hW.lt q hq
    · simp at h1
      subst h1
      exact ht
  · rw [List.append_assoc]
    exact h.cuts.ext
  · rw [ns_snoc, ns_append, ns_opsW, hk]
    rfl
  · have : (opsW ops).length = ops.length := by simp [opsW]
    simp only [List.length_append, List.length_cons, List.length_nil]
    omega
  · have e : thS ((s1.snap t sv).noted 83 (n4 t).ba lv) (gd d k) n = strs s1.vol := by
      unfold thS
      congr 1
      have hvl : s1.vol.length = n := by
        obtain ⟨l0, rfl⟩ := hW.eq
        show (wvol s.came s.vol ops).length = n
        rw [wvol_len, I.vol]
      apply List.ext_getElem
      · simp [hvl]
      · intro j h1 h2
        rw [List.getElem_map, List.getElem_range, (taken_th I hW t sv lv).1 j (by omega), List.getD_eq_getElem?_getD, List.getElem?_eq_getElem h2]
        rfl
    rw [e]
    refine ⟨o4.1, ?_⟩
    rcases o4.2 with h0 | ⟨g, cap, cur, h1, h2, r⟩
    · exact .inl h0
    · exact .inr ⟨g, cap, cur, h1, Nat.le_trans (by rw [hB]; exact h.fr.size) h2, r⟩
  · rw [hlog]
    exact h.cuts.push hM hk ops t

theorem LF.image {B b : Nat} {w W W1 w9 : World} {s : Sto} {d : Int} {n k : Nat} {L : List Lo} {l : List (Int × Int × Value)} {vg v v9 : Value} {M : List Nat} {vl : Value} {t : Int} (h : LF B b w W s d n L l vg M vl) (hB : B = w.heap.size) (hl : l.length = k) (hf : Fr [] W W1) (ho : w9.ownsRow B 46 3 v9 (k + 1) (imC l ++ [.int .i64 (gd d k), .int .i64 t, v])) (hg : W1.grownBy w9 vg.ownBlock) (hv : W.ownsRow B 9 1 v n (thS s (gd d k) n)) :
    LF B b w w9 s d n L (l ++ [(gd d k, t, v)]) v9 M vl := by
  subst hl
  have f9 : Fr vg.ownBlock.toList W w9 := (hf.mono (by simp)).grown hg (fun x hx => Or.inl (by simp [hx]))
  refine ⟨h.rep.kept f9 (fun x hx hm => own_foot h.rep h.im.row (by decide) x (by simpa using hm) hx), h.eqv, h.ok, h.fr.trans f9 (fun x hx => Or.inr (by rw [← hB]; exact (h.im.row.lt x (by simpa using hx)).1)), (h.im.kept0 hf).push ho hg (own_fr' hv hf), h.cuts, own_fr h.row f9 (own_other h.row h.im.row (by decide))⟩

theorem LF.long {B b : Nat} {w W W1 w9 : World} {s : Sto} {d : Int} {n : Nat} {L : List Lo} {l : List (Int × Int × Value)} {vg v9 : Value} {M : List Nat} {vl : Value} {z : Nat} (h : LF B b w W s d n L l vg M vl) (hB : B = w.heap.size) (hf : Fr [] W W1) (ho : w9.ownsRow B 3 1 v9 (M.length + 1) (iC M ++ [.int .i64 (z : Int)])) (hg : W1.grownBy w9 vl.ownBlock) (hc : Cuts d n L (M ++ [z])) :
    LF B b w w9 s d n L l vg (M ++ [z]) v9 := by
  have f9 : Fr vl.ownBlock.toList W w9 := (hf.mono (by simp)).grown hg (fun x hx => Or.inl (by simp [hx]))
  refine ⟨h.rep.kept f9 (fun x hx hm => own_foot h.rep h.row (by decide) x (by simpa using hm) hx), h.eqv, h.ok, h.fr.trans f9 (fun x hx => Or.inr (by rw [← hB]; exact (h.row.lt x (by simpa using hx)).1)), ?_, hc, ?_⟩
  · exact ⟨own_fr h.im.row f9 (own_other h.im.row h.row (by decide)), fun j hj => ⟨(h.im.one j hj).1, own_fr (h.im.one j hj).2 f9 (own_other (h.im.one j hj).2 h.row (by decide))⟩⟩
  · rw [List.length_append]
    have e : iC (M ++ [z]) = iC M ++ [.int .i64 (z : Int)] := by simp [iC]
    rw [e]
    exact ho

/-- The look at an image in a store that was opened. -/
theorem is_opened {B b By by' : Nat} {w W Wy : World} {s y : Sto} {d : Int} {n k : Nat} {L R : List Lo} {l : List (Int × Int × Value)} {vg : Value} {M : List Nat} {vl : Value} (h : LF B b w W s d n L l vg M vl) (hd : 1 ≤ d ∧ d ≤ 999) (hn : 1 ≤ n ∧ n ≤ 16) (hk : ns L = k) (hk12 : k ≤ 12) (hl : l.length = k) (P : List Lo) (hP : L = P ++ R) (hf : Fr [] W Wy) (hy : Rep By Wy by' 0 y) (hBy : W.heap.size ≤ By) (hE : Eqv y (st d n P)) (i : Nat) (hi : i < l.length) :
    Calls Try.prog 21 #[.agg #[.int .i64 (gd d i), .int .i64 l[i].2.1, l[i].2.2], .pointer (some ⟨by', 0, none⟩)] Wy fun e w' => e = .returned (.bool (decide (i < ns P))) ∧ Rep By w' by' 0 y ∧ Fr [] W w' := by
  have hokP : ∀ o ∈ P, o.ok n := fun o ho => h.ok o (by rw [hP]; exact List.mem_append.2 (Or.inl ho))
  have IP := hE.inv (st_inv d n hn.2 P hokP)
  have hnsP : ns P ≤ ns L := by rw [hP, ns_append]; omega
  have hrow := own_fr' (h.im.one i hi).2 hf
  have hnot : ∀ k', l[i].2.2.ownBlock = some k' → k' ∉ foot by' y := own_foot hy hrow (by decide)
  have tail : ∀ w', Fr (foot by' y) Wy w' → Fr [] W w' := fun w' f => hf.trans f (fun j hj => Or.inr (Nat.le_trans hBy (hy.lt j hj).1))
  by_cases hlt : i < ns P
  · have e : strs ((List.range y.vol.length).map fun j : Nat => y.th (gd d i) (j : Int)) = thS s (gd d i) n := by
      unfold thS
      rw [IP.vol]
      congr 1
      refine List.map_congr_left (fun j _ => ?_)
      have hs : s.th (gd d i) (j : Int) = (st d n L).th (gd d i) (j : Int) := by rw [h.eqv.th]
      have hy' : y.th (gd d i) (j : Int) = (st d n P).th (gd d i) (j : Int) := by rw [hE.th]
      have ht := st_th d n hn.2 P R (by rw [← hP]; exact h.ok) i hlt (j : Int)
      rw [hs, hy', hP, ht]
    have hss := IP.ss
    have := is_any By by' y (gd d i) l[i].2.1 l[i].2.2 B Wy hy (by omega) (gd64 hd (by omega)) ⟨y.ss[i], List.getElem_mem (by omega), by rw [IP.gd i (by omega)]; simp [gd]⟩ (by rw [IP.vol]; exact hn.2) (by rw [e, IP.vol]; exact hrow) hnot
    refine this.mono ?_
    rintro e w' ⟨rfl, r, f⟩
    exact ⟨by rw [show decide (i < ns P) = true by simpa using hlt], r, tail _ f⟩
  · have hss := IP.ss
    have := is_none By by' y (gd d i) l[i].2.1 l[i].2.2 B n _ Wy hy (by omega) (fi_none _ _ (fun x hx => by
      obtain ⟨q, hq, rfl⟩ := List.getElem_of_mem hx
      have := IP.gd q hq
      simp only [beq_eq_false_iff_ne, ne_eq]
      unfold gd
      omega)) hn.1 hrow
    refine this.mono ?_
    rintro e w' ⟨rfl, r, f⟩
    exact ⟨by rw [show decide (i < ns P) = false by simpa using hlt], r, tail _ f⟩
end Go.Proofs.Ythdhegmlknpllaa
