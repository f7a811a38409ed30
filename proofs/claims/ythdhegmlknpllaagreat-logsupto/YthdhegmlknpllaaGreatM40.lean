import Derived.Test.YthdhegmlknpllaaGreatM39
import Derived.ArgAppend
import Derived.Maps.AppendAt
namespace Go.Proofs.YthdhegmlknpllaaGreat
open Go.RowKit Go.Maps Go.MuLone
def kC (l : List (Nat × Nat × Nat)) : List Value := l.map fun x => .slice (some ⟨x.1, 0, none⟩) x.2.1 x.2.2
def KR (tag : TypeId) (w : World) (g n : Nat) (m : List Value) : Prop :=
 ∃ cur, w.heap[g]? = some (.cells cur tag (0, 0)) ∧ n * m.length ≤ cur.size ∧ ∀ j, j < n → ∀ i, i < m.length → cur[j * m.length + i]? = m[i]?
def zOf (i : Nat) : Int := -1 - 4 * ((i / 4 : Nat) : Int)
def m3 (z : Int) : List Value := [.int .i64 z, .int .i64 0, .int .i64 0]
def m1 (z : Int) : List Value := [.int .i64 z]
structure WM (B : Nat) (w : World) (wb : Nat) (sv tv : Value) (T : List ByteArray) (kv mv : Value) (D : List Nat) (K M : List (Nat × Nat × Nat)) : Prop where
 blk : w.heap[wb]? = some (.cells #[sv, tv, kv, mv] 34 (0, 0))
 so : w.ownsRow B 35 1 sv D.length (D.map fun d => .pointer (some ⟨d, 0, none⟩))
 ko : w.ownsRow B 62 1 kv K.length (kC K)
 mo : w.ownsRow B 39 1 mv M.length (kC M)
 kk : ∀ (i : Nat) (x : Nat × Nat × Nat), K[i]? = some x → B ≤ x.1 ∧ KR 61 w x.1 x.2.1 (m3 (zOf i))
 mi : ∀ (i : Nat) (x : Nat × Nat × Nat), M[i]? = some x → B ≤ x.1 ∧ KR 3 w x.1 x.2.1 (m1 (zOf i))
 hw : B ≤ wb
 to : w.ownsRow B 9 1 tv T.length (T.map Value.string)
section
variable {B : Nat} {w w' : World} {wb : Nat} {sv tv : Value} {T : List ByteArray} {kv mv : Value} {D : List Nat} {K M : List (Nat × Nat × Nat)}
theorem KR.lt {tag : TypeId} {g n : Nat} {m : List Value} (h : KR tag w g n m) : g < w.heap.size := by
 obtain ⟨cur, h1, _⟩ := h
 exact (Array.getElem?_eq_some_iff.1 h1).1
theorem KR.of {tag : TypeId} {g n : Nat} {m : List Value} (h : KR tag w g n m) (e : w'.heap[g]? = w.heap[g]?) : KR tag w' g n m := by
 obtain ⟨cur, h1, h2⟩ := h
 exact ⟨cur, by rw [e]; exact h1, h2⟩
theorem KR.fr {tag : TypeId} {g n : Nat} {m : List Value} {F : List Nat} (h : KR tag w g n m) (hf : Fr F w w') (hn : ∀ j ∈ F, ∀ cur, w.heap[j]? ≠ some (.cells cur tag (0, 0))) : KR tag w' g n m := by
 have hl := h.lt
 refine h.of (hf.block g hl (fun hm => ?_))
 obtain ⟨cur, h1, _⟩ := h
 exact hn g hm cur h1
theorem own_tagged {F : List Nat} {base : Nat} {e : TypeId} {size : Nat} {v : Value} {k : Nat} {xs : List Value} (h : w.ownsRow base e size v k xs) (hf : Fr F w w') (ht : ∀ j ∈ F, ∀ cur, w.heap[j]? ≠ some (.cells cur e (0, 0))) : w'.ownsRow base e size v k xs :=
 own_of_block h (fun j hj => by
  obtain ⟨_, cur, h4⟩ := own_tag h hj
  exact hf.block j (Array.getElem?_eq_some_iff.1 h4).1 (fun hm => ht j hm cur h4))
theorem WM.fr (h : WM B w wb sv tv T kv mv D K M) {F : List Nat} (hf : Fr F w w') (ht : ∀ j ∈ F, ∀ cur t, w.heap[j]? = some (.cells cur t (0, 0)) → t ≠ 34 ∧ t ≠ 35 ∧ t ≠ 62 ∧ t ≠ 39 ∧ t ≠ 61 ∧ t ≠ 3 ∧ t ≠ 9) : WM B w' wb sv tv T kv mv D K M :=
 ⟨by rw [hf.block wb (Array.getElem?_eq_some_iff.1 h.blk).1 (fun hm => (ht wb hm _ _ h.blk).1 rfl)]; exact h.blk, own_tagged h.so hf (fun j hj cur e => (ht j hj cur _ e).2.1 rfl), own_tagged h.ko hf (fun j hj cur e => (ht j hj cur _ e).2.2.1 rfl), own_tagged h.mo hf (fun j hj cur e => (ht j hj cur _ e).2.2.2.1 rfl), fun i x hx => ⟨(h.kk i x hx).1, (h.kk i x hx).2.fr hf (fun j hj cur e => (ht j hj cur _ e).2.2.2.2.1 rfl)⟩, fun i x hx => ⟨(h.mi i x hx).1, (h.mi i x hx).2.fr hf (fun j hj cur e => (ht j hj cur _ e).2.2.2.2.2.1 rfl)⟩, h.hw, own_tagged h.to hf (fun j hj cur e => (ht j hj cur _ e).2.2.2.2.2.2 rfl)⟩
theorem WM.same (h : WM B w wb sv tv T kv mv D K M) (hf : Fr [] w w') : WM B w' wb sv tv T kv mv D K M := h.fr hf (by simp)
theorem WM.cells (h : WM B w wb sv tv T kv mv D K M) : w.cell? ⟨wb, 0, none⟩ = some sv ∧ w.cell? ⟨wb, 2, none⟩ = some kv ∧ w.cell? ⟨wb, 3, none⟩ = some mv ∧ w.frozen? ⟨wb, 2, none⟩ = false ∧ w.frozen? ⟨wb, 3, none⟩ = false := by
 refine ⟨?_, ?_, ?_, froz_of h.blk _, froz_of h.blk _⟩ <;> rw [cell_of h.blk] <;> rfl
theorem WM.int (h : WM B w wb sv tv T kv mv D K M) {g : Nat} {cur : Array Value} (hg : w.heap[g]? = some (.cells cur 3 (0, 0))) (hf : Fr [g] w w') (hm : ∀ (i : Nat) (x : Nat × Nat × Nat), M[i]? = some x → x.1 = g → KR 3 w' g x.2.1 (m1 (zOf i))) : WM B w' wb sv tv T kv mv D K M := by
 have ht : ∀ t : TypeId, t ≠ 3 → ∀ j ∈ [g], ∀ cur', w.heap[j]? ≠ some (.cells cur' t (0, 0)) := fun t ht j hj cur' e => by
  have hj' : j = g := by simpa using hj
  rw [hj', hg] at e
  simp at e
  exact ht e.2.symm
 refine ⟨by rw [hf.block wb (Array.getElem?_eq_some_iff.1 h.blk).1 (fun hm => ht 34 (by decide) wb hm _ h.blk)]; exact h.blk, own_tagged h.so hf (ht 35 (by decide)), own_tagged h.ko hf (ht 62 (by decide)), own_tagged h.mo hf (ht 39 (by decide)), fun i x hx => ⟨(h.kk i x hx).1, (h.kk i x hx).2.fr hf (ht 61 (by decide))⟩, fun i x hx => ⟨(h.mi i x hx).1, ?_⟩, h.hw, own_tagged h.to hf (ht 9 (by decide))⟩
 by_cases e : x.1 = g
 · rw [e]; exact hm i x hx e
 · have hk := (h.mi i x hx).2
   exact hk.of (hf.block _ hk.lt (by simpa using e))
theorem WM.snp (h : WM B w wb sv tv T kv mv D K M) {g : Nat} {cur : Array Value} (hg : w.heap[g]? = some (.cells cur 61 (0, 0))) (hf : Fr [g] w w') (hm : ∀ (i : Nat) (x : Nat × Nat × Nat), K[i]? = some x → x.1 = g → KR 61 w' g x.2.1 (m3 (zOf i))) : WM B w' wb sv tv T kv mv D K M := by
 have ht : ∀ t : TypeId, t ≠ 61 → ∀ j ∈ [g], ∀ cur', w.heap[j]? ≠ some (.cells cur' t (0, 0)) := fun t ht j hj cur' e => by
  have hj' : j = g := by simpa using hj
  rw [hj', hg] at e
  simp at e
  exact ht e.2.symm
 refine ⟨by rw [hf.block wb (Array.getElem?_eq_some_iff.1 h.blk).1 (fun hm => ht 34 (by decide) wb hm _ h.blk)]; exact h.blk, own_tagged h.so hf (ht 35 (by decide)), own_tagged h.ko hf (ht 62 (by decide)), own_tagged h.mo hf (ht 39 (by decide)), fun i x hx => ⟨(h.kk i x hx).1, ?_⟩, fun i x hx => ⟨(h.mi i x hx).1, (h.mi i x hx).2.fr hf (ht 3 (by decide))⟩, h.hw, own_tagged h.to hf (ht 9 (by decide))⟩
 by_cases e : x.1 = g
 · rw [e]; exact hm i x hx e
 · have hk := (h.kk i x hx).2
   exact hk.of (hf.block _ hk.lt (by simpa using e))
theorem WM.addM (h : WM B w wb sv tv T kv mv D K M) {w9 : World} (hg : w.grownBy w9 mv.ownBlock) {x : Nat × Nat × Nat} {mv' : Value} (ho : w9.ownsRow B 39 1 mv' (M.length + 1) (kC M ++ [.slice (some ⟨x.1, 0, none⟩) x.2.1 x.2.2])) (hx : B ≤ x.1 ∧ KR 3 w x.1 x.2.1 (m1 (zOf M.length))) : WM B (w9.setCell ⟨wb, 3, none⟩ mv') wb sv tv T kv mv' D K (M ++ [x]) := by
 have ht : ∀ j, mv.ownBlock = some j → ∃ cur, w.heap[j]? = some (.cells cur 39 (0, 0)) := fun j hj => (own_tag h.mo hj).2
 have hf : Fr mv.ownBlock.toList w w9 := (Fr.refl _ _).grown hg (fun k hk => Or.inl (by simp [hk]))
 have hnF : wb ∉ mv.ownBlock.toList := fun hm => by
  simp at hm
  obtain ⟨cur, e⟩ := ht wb hm
  rw [h.blk] at e
  simp at e
 have b9 : w9.heap[wb]? = some (.cells #[sv, tv, kv, mv] 34 (0, 0)) := by rw [hf.block wb (Array.getElem?_eq_some_iff.1 h.blk).1 hnF]; exact h.blk
 have hf2 : Fr (wb :: mv.ownBlock.toList) w (w9.setCell ⟨wb, 3, none⟩ mv') := (hf.mono (fun k hk => List.mem_cons_of_mem _ hk)).setCell _ (Or.inl (by simp))
 have hno : ∀ t : TypeId, t ≠ 34 → t ≠ 39 → ∀ j ∈ wb :: mv.ownBlock.toList, ∀ cur, w.heap[j]? ≠ some (.cells cur t (0, 0)) := fun t h1 h2 j hj cur e => by
  rcases List.mem_cons.1 hj with rfl | hj
  · rw [h.blk] at e
    simp at e
    exact h1 e.2.symm
  · simp at hj
    obtain ⟨cur', e'⟩ := ht j hj
    rw [e'] at e
    simp at e
    exact h2 e.2.symm
 refine ⟨by rw [heap_setCell_same _ _ _ _ _ _ b9]; rfl, own_tagged h.so hf2 (hno 35 (by decide) (by decide)), own_tagged h.ko hf2 (hno 62 (by decide) (by decide)), ?_, fun i y hy => ⟨(h.kk i y hy).1, (h.kk i y hy).2.fr hf2 (hno 61 (by decide) (by decide))⟩, fun i y hy => ?_, h.hw, own_tagged h.to hf2 (hno 9 (by decide) (by decide))⟩
 · rw [List.length_append, List.length_singleton]
   have e5 : kC (M ++ [x]) = kC M ++ [.slice (some ⟨x.1, 0, none⟩) x.2.1 x.2.2] := by simp [kC]
   rw [e5]
   refine own_of_block ho (fun j hj => heap_setCell_other _ _ _ _ (fun e => ?_))
   obtain ⟨_, cur, h4⟩ := own_tag ho hj
   rw [e, b9] at h4
   simp at h4
 · rcases Nat.lt_or_ge i M.length with hi | hi
   · rw [List.getElem?_append_left hi] at hy
     exact ⟨(h.mi i y hy).1, (h.mi i y hy).2.fr hf2 (hno 3 (by decide) (by decide))⟩
   · have hi2 : i < (M ++ [x]).length := (List.getElem?_eq_some_iff.1 hy).1
     rw [List.length_append, List.length_singleton] at hi2
     have hi3 : i = M.length := by omega
     subst hi3
     rw [List.getElem?_append_right (Nat.le_refl _)] at hy
     have hyx : y = x := by simpa using hy.symm
     subst hyx
     exact ⟨hx.1, hx.2.fr hf2 (hno 3 (by decide) (by decide))⟩
theorem WM.addK (h : WM B w wb sv tv T kv mv D K M) {w9 : World} (hg : w.grownBy w9 kv.ownBlock) {x : Nat × Nat × Nat} {kv' : Value} (ho : w9.ownsRow B 62 1 kv' (K.length + 1) (kC K ++ [.slice (some ⟨x.1, 0, none⟩) x.2.1 x.2.2])) (hx : B ≤ x.1 ∧ KR 61 w x.1 x.2.1 (m3 (zOf K.length))) : WM B (w9.setCell ⟨wb, 2, none⟩ kv') wb sv tv T kv' mv D (K ++ [x]) M := by
 have ht : ∀ j, kv.ownBlock = some j → ∃ cur, w.heap[j]? = some (.cells cur 62 (0, 0)) := fun j hj => (own_tag h.ko hj).2
 have hf : Fr kv.ownBlock.toList w w9 := (Fr.refl _ _).grown hg (fun k hk => Or.inl (by simp [hk]))
 have hnF : wb ∉ kv.ownBlock.toList := fun hm => by
  simp at hm
  obtain ⟨cur, e⟩ := ht wb hm
  rw [h.blk] at e
  simp at e
 have b9 : w9.heap[wb]? = some (.cells #[sv, tv, kv, mv] 34 (0, 0)) := by rw [hf.block wb (Array.getElem?_eq_some_iff.1 h.blk).1 hnF]; exact h.blk
 have hf2 : Fr (wb :: kv.ownBlock.toList) w (w9.setCell ⟨wb, 2, none⟩ kv') := (hf.mono (fun k hk => List.mem_cons_of_mem _ hk)).setCell _ (Or.inl (by simp))
 have hno : ∀ t : TypeId, t ≠ 34 → t ≠ 62 → ∀ j ∈ wb :: kv.ownBlock.toList, ∀ cur, w.heap[j]? ≠ some (.cells cur t (0, 0)) := fun t h1 h2 j hj cur e => by
  rcases List.mem_cons.1 hj with rfl | hj
  · rw [h.blk] at e
    simp at e
    exact h1 e.2.symm
  · simp at hj
    obtain ⟨cur', e'⟩ := ht j hj
    rw [e'] at e
    simp at e
    exact h2 e.2.symm
 refine ⟨by rw [heap_setCell_same _ _ _ _ _ _ b9]; rfl, own_tagged h.so hf2 (hno 35 (by decide) (by decide)), ?_, own_tagged h.mo hf2 (hno 39 (by decide) (by decide)), fun i y hy => ?_, fun i y hy => ⟨(h.mi i y hy).1, (h.mi i y hy).2.fr hf2 (hno 3 (by decide) (by decide))⟩, h.hw, own_tagged h.to hf2 (hno 9 (by decide) (by decide))⟩
 · rw [List.length_append, List.length_singleton]
   have e5 : kC (K ++ [x]) = kC K ++ [.slice (some ⟨x.1, 0, none⟩) x.2.1 x.2.2] := by simp [kC]
   rw [e5]
   refine own_of_block ho (fun j hj => heap_setCell_other _ _ _ _ (fun e => ?_))
   obtain ⟨_, cur, h4⟩ := own_tag ho hj
   rw [e, b9] at h4
   simp at h4
 · rcases Nat.lt_or_ge i K.length with hi | hi
   · rw [List.getElem?_append_left hi] at hy
     exact ⟨(h.kk i y hy).1, (h.kk i y hy).2.fr hf2 (hno 61 (by decide) (by decide))⟩
   · have hi2 : i < (K ++ [x]).length := (List.getElem?_eq_some_iff.1 hy).1
     rw [List.length_append, List.length_singleton] at hi2
     have hi3 : i = K.length := by omega
     subst hi3
     rw [List.getElem?_append_right (Nat.le_refl _)] at hy
     have hyx : y = x := by simpa using hy.symm
     subst hyx
     exact ⟨hx.1, hx.2.fr hf2 (hno 61 (by decide) (by decide))⟩
end
theorem info39 : (Tryz.prog.info? 39).map (fun i => (i.zero, i.size, i.bytes)) = some (some (.slice none 0 0), 1, 24) := by kernel_rfl
def GI (w : World) (g c ct : Nat) (z : Int) : Prop := ∃ cur, w.heap[g]? = some (.cells cur 3 (0, 0)) ∧ cur.size = ct ∧ c ≤ ct ∧ ∀ j, j < c → cur[j]? = some (.int .i64 z)
theorem GI.kr {w : World} {g c ct : Nat} {z : Int} (h : GI w g c ct z) {n : Nat} (hn : n ≤ c) : KR 3 w g n (m1 z) := by
 obtain ⟨cur, h1, h2, h3, h4⟩ := h
 refine ⟨cur, h1, by simp [m1]; omega, fun j hj i hi => ?_⟩
 have hi0 : i = 0 := by simpa [m1] using hi
 subst hi0
 simp only [m1, List.length_singleton, Nat.mul_one, Nat.add_zero]
 rw [h4 j (by omega)]
 rfl
structure KJ (B : Nat) (w wr : World) (wb gg : Nat) (sv tv : Value) (T : List ByteArray) (kv mv : Value) (D : List Nat) (K M : List (Nat × Nat × Nat)) (z : Int) (a c gt ct : Nat) (mv' : Value) (N : List (Nat × Nat × Nat)) : Prop where
 nl : N.length = a
 wm : WM B wr wb sv tv T kv mv' D K (M ++ N)
 nn : ∀ x ∈ N, (x.1 = gg ∨ w.heap.size ≤ x.1) ∧ x.2.1 ≤ c
 fr : Fr (wb :: gg :: mv.ownBlock.toList) w wr
 ob : ∀ k, mv'.ownBlock = some k → mv.ownBlock = some k ∨ w.heap.size ≤ k
 go : gt = gg ∨ w.heap.size ≤ gt
 gi : GI wr gt c ct z
 bg : B ≤ gt
section
variable {B : Nat} {w wr : World} {wb gg : Nat} {sv tv : Value} {T : List ByteArray} {kv mv mv' : Value} {D : List Nat} {K M N : List (Nat × Nat × Nat)} {z : Int} {a c gt ct : Nat}
theorem KJ.same (h : KJ B w wr wb gg sv tv T kv mv D K M z a c gt ct mv' N) {w2 : World} (hf : Fr [] wr w2) : KJ B w w2 wb gg sv tv T kv mv D K M z a c gt ct mv' N :=
 ⟨h.nl, h.wm.same hf, h.nn, h.fr.trans hf (by simp), h.ob, h.go, by
  obtain ⟨cur, h1, h2⟩ := h.gi
  exact ⟨cur, by rw [hf.block _ (Array.getElem?_eq_some_iff.1 h1).1 (by simp)]; exact h1, h2⟩, h.bg⟩
theorem KJ.keep (h : KJ B w wr wb gg sv tv T kv mv D K M z a c gt ct mv' N) (hz : zOf (M.length + a) = z) {w9 : World} {mv9 : Value} (hg : wr.grownBy w9 mv'.ownBlock) (ho : w9.ownsRow B 39 1 mv9 (M.length + a + 1) (kC (M ++ N) ++ [.slice (some ⟨gt, 0, none⟩) c ct])) (hat : mv9.ownBlock = mv'.ownBlock ∨ mv9.ownBlock = some wr.heap.size) :
  KJ B w (w9.setCell ⟨wb, 3, none⟩ mv9) wb gg sv tv T kv mv D K M z (a + 1) c gt ct mv9 (N ++ [(gt, c, ct)]) := by
 have hlen : (M ++ N).length = M.length + a := by rw [List.length_append, h.nl]
 have hf : Fr (wb :: mv'.ownBlock.toList) wr (w9.setCell ⟨wb, 3, none⟩ mv9) := ((Fr.refl _ _).grown hg (fun k hk => Or.inl (by simp [hk]))).setCell _ (Or.inl (by simp))
 have hmt : ∀ j, mv'.ownBlock = some j → ∃ cur, wr.heap[j]? = some (.cells cur 39 (0, 0)) := fun j hj => (own_tag h.wm.mo hj).2
 obtain ⟨cur, g1, g2⟩ := h.gi
 refine ⟨by simp [h.nl], ?_, fun x hx => ?_, ?_, fun k hk => ?_, h.go, ?_, h.bg⟩
 · have W9 := h.wm.addM (x := (gt, c, ct)) hg (by rw [hlen]; exact ho) ⟨h.bg, by rw [hlen, hz]; exact h.gi.kr (Nat.le_refl _)⟩
   rw [List.append_assoc] at W9
   exact W9
 · rcases List.mem_append.1 hx with hx | hx
   · exact h.nn x hx
   · have e : x = (gt, c, ct) := by simpa using hx
     subst e
     exact ⟨h.go, Nat.le_refl _⟩
 · refine h.fr.trans hf (fun k hk => ?_)
   rcases List.mem_cons.1 hk with rfl | hk
   · exact Or.inl (by simp)
   · simp at hk
     rcases h.ob k hk with h1 | h1
     · exact Or.inl (by simp [h1])
     · exact Or.inr h1
 · rcases hat with e | e
   · exact h.ob k (by rw [← e]; exact hk)
   · right
     rw [e] at hk
     have := h.fr.size
     simp at hk
     omega
 · refine ⟨cur, ?_, g2⟩
   rw [hf.block _ (Array.getElem?_eq_some_iff.1 g1).1 (fun hm => ?_)]
   · exact g1
   · rcases List.mem_cons.1 hm with e | hm
     · rw [e, h.wm.blk] at g1
       simp at g1
     · simp at hm
       obtain ⟨cur', e'⟩ := hmt gt hm
       rw [e'] at g1
       simp at g1
theorem KJ.room (h : KJ B w wr wb gg sv tv T kv mv D K M z a c gt ct mv' N) (hz : ∀ u, u < 4 → zOf (M.length + u) = z) (ha : a ≤ 4) (hM : ∀ x ∈ M, x.1 ≠ gg ∧ x.1 < w.heap.size) (hc : c + 1 ≤ ct) : KJ B w (wr.setCells gt c [.int .i64 z]) wb gg sv tv T kv mv D K M z a (c + 1) gt ct mv' N := by
 obtain ⟨cur, g1, g2, g3, g4⟩ := h.gi
 obtain ⟨cur', k1, k2, k3⟩ := setCells_heap [.int .i64 z] c wr cur g1
 have G : GI (wr.setCells gt c [.int .i64 z]) gt (c + 1) ct z := ⟨cur', k1, by omega, hc, fun j hj => by
  rw [k3 j (by omega)]
  by_cases e : j = c
  · subst e
    rw [if_pos (by simp)]
    simp
  · rw [if_neg (by simp; omega)]
    exact g4 j (by omega)⟩
 have hf : Fr [gt] wr (wr.setCells gt c [.int .i64 z]) := (Fr.refl _ _).setCell _ (Or.inl (by simp))
 refine ⟨h.nl, h.wm.int g1 hf (fun i x hx e => ?_), fun x hx => ⟨(h.nn x hx).1, by have := (h.nn x hx).2; omega⟩, h.fr.trans hf (fun k hk => ?_), h.ob, h.go, G, h.bg⟩
 · rcases Nat.lt_or_ge i M.length with hi | hi
   · exfalso
     rw [List.getElem?_append_left hi] at hx
     have := hM x (List.mem_of_getElem? hx)
     rcases h.go with e2 | e2
     · exact this.1 (e.trans e2)
     · omega
   · rw [List.getElem?_append_right hi] at hx
     have hn := (List.getElem?_eq_some_iff.1 hx).1
     have hz' := hz (i - M.length) (by have := h.nl; omega)
     rw [show M.length + (i - M.length) = i by omega] at hz'
     rw [hz']
     exact G.kr (by have := (h.nn x (List.mem_of_getElem? hx)).2; omega)
 · have : k = gt := by simpa using hk
   subst this
   rcases h.go with e2 | e2
   · exact Or.inl (by simp [e2])
   · exact Or.inr e2
theorem own_gi {base g c cap : Nat} {xs : List Value} (h : wr.ownsRow base 3 1 (.slice (some ⟨g, 0, none⟩) c cap) c xs) (hx : ∀ j, j < c → xs[j]? = some (.int .i64 z)) : base ≤ g ∧ GI wr g c cap z := by
 rcases h.2 with ⟨h1, _⟩ | ⟨g', cap', cur, h1, hb, hg, hc, hm, hs, ht⟩
 · simp at h1
 · simp only [Value.slice.injEq, Option.some.injEq, Addr.mk.injEq, and_true, true_and] at h1
   obtain ⟨rfl, rfl⟩ := h1
   refine ⟨hb, cur, hg, by omega, hc, fun j hj => ?_⟩
   rw [← hx j hj, ← ht, List.getElem?_take_of_lt (by omega), Array.getElem?_toList]
theorem KJ.olds (h : KJ B w wr wb gg sv tv T kv mv D K M z a c gt ct mv' N) : ∀ (j : Nat) (u : Value), (List.replicate c (Value.int .i64 z))[j]? = some u → wr.cell? ⟨gt, 0 + j, none⟩ = some u := fun j u hu => by
 obtain ⟨cur, g1, g2, g3, g4⟩ := h.gi
 rw [List.getElem?_replicate] at hu
 by_cases e : j < c
 · rw [if_pos e] at hu
   rw [Nat.zero_add, cell_of g1, g4 j e]
   exact hu
 · rw [if_neg e] at hu
   simp at hu
theorem KJ.spare (h : KJ B w wr wb gg sv tv T kv mv D K M z a c gt ct mv' N) (hr : c + 1 ≤ ct) : ∀ j, j < [Value.int .i64 z].length → (wr.cell? ⟨gt, 0 + c * 1 + j, none⟩).isSome = true ∧ wr.frozen? ⟨gt, 0 + c * 1 + j, none⟩ = false := fun j hj => by
 obtain ⟨cur, g1, g2, g3, g4⟩ := h.gi
 have hj0 : j = 0 := by simpa using hj
 subst hj0
 refine ⟨?_, froz_of g1 _⟩
 rw [cell_of g1, Array.getElem?_eq_getElem (by omega)]
 rfl
theorem KJ.new (h : KJ B w wr wb gg sv tv T kv mv D K M z a c gt ct mv' N) {w' : World} {g' cap' : Nat} {xs : List Value} (hB : B ≤ wr.heap.size) (hg : wr.grownBy w' none) (ho : w'.ownsRow wr.heap.size 3 1 (.slice (some ⟨g', 0, none⟩) (c + 1) cap') (c + 1) xs) (hx : ∀ j, j < c + 1 → xs[j]? = some (.int .i64 z)) : KJ B w w' wb gg sv tv T kv mv D K M z a (c + 1) g' cap' mv' N := by
 have hf : Fr [] wr w' := (Fr.refl _ _).grown hg (fun k hk => by simp at hk)
 have h2 := h.same hf
 obtain ⟨hb, G⟩ := own_gi ho hx
 have := h.fr.size
 exact ⟨h2.nl, h2.wm, fun x hx => ⟨(h2.nn x hx).1, by have := (h2.nn x hx).2; omega⟩, h2.fr, h2.ob, Or.inr (by omega), G, by omega⟩
end
def KmPost (B : Nat) (w w' : World) (wb gg : Nat) (sv tv : Value) (T : List ByteArray) (kv mv : Value) (D : List Nat) (K M : List (Nat × Nat × Nat)) : Prop := ∃ mv' M', M'.length = M.length + 4 ∧ WM B w' wb sv tv T kv mv' D K M' ∧ Fr (wb :: gg :: mv.ownBlock.toList) w w' ∧ ∀ x ∈ M', x ∈ M ∨ x.2.1 ≤ 16
set_option maxRecDepth 100000 in
set_option maxHeartbeats 3200000 in
theorem keepMarks_any (B wb : Nat) (sv tv : Value) (T : List ByteArray) (kv mv : Value) (D : List Nat) (K M : List (Nat × Nat × Nat)) (gg n : Nat) (w : World) (h : WM B w wb sv tv T kv mv D K M) (cur0 : Array Value) (hg : w.heap[gg]? = some (.cells cur0 3 (0, 0))) (hs : cur0.size = n) (hn : n ≤ 12) (hM : ∀ x ∈ M, x.1 ≠ gg) (hM4 : M.length % 4 = 0) (hMl : M.length ≤ 8000000) (hBg : B ≤ gg) :
  Calls Tryz.prog 49 #[.pointer (some ⟨wb, 0, none⟩), .slice (some ⟨gg, 0, none⟩) n n] w fun e w' => e = .returned (.tuple #[]) ∧ KmPost B w w' wb gg sv tv T kv mv D K M := by
 obtain ⟨i0, hi, hz0, hz1, hz2⟩ := info_parts info39
 obtain ⟨i1, hi1, hy0, hy1, hy2⟩ := info_parts info3
 obtain ⟨L, hL⟩ : ∃ L, M.length = L := ⟨_, rfl⟩
 obtain ⟨z, hz⟩ : ∃ z : Int, -1 - (L : Int) = z := ⟨_, rfl⟩
 have hzw : IntKind.i64.wrap (-1 - (L : Int)) = z := by rw [hz.symm]; exact wrap_fit ⟨by omega, by omega⟩
 have HZ : Hid (∀ u, u < 4 → zOf (M.length + u) = z) := fun u hu => by unfold zOf; omega
 have HM : Hid (∀ x ∈ M, x.1 ≠ gg ∧ x.1 < w.heap.size) := fun x hx => by
  obtain ⟨i, hi, e⟩ := List.getElem_of_mem hx
  exact ⟨hM x hx, (h.mi i x (by rw [List.getElem?_eq_getElem hi, e])).2.lt⟩
 have HW : Hid (WM B w wb sv tv T kv mv D K M ∧ w.heap[gg]? = some (.cells cur0 3 (0, 0)) ∧ cur0.size = n ∧ M.length = L) := ⟨h, hg, hs, hL⟩
 have HBw : Hid (B ≤ w.heap.size) := by
  have h1 := h.hw
  have h2 := (Array.getElem?_eq_some_iff.1 h.blk).1
  exact (by omega : B ≤ w.heap.size)
 obtain ⟨ma0, mc0, hmv0⟩ := own_shape h.mo
 have c3 : w.cell? ⟨wb, 3, none⟩ = some (.slice ma0 L mc0) := by rw [← hL, ← hmv0]; exact h.cells.2.2.1
 have hLz : (L : Int) ≤ 8000000 := by omega
 clear h hg hs hM hM4 hMl hmv0 hL hz
 go_enter Tryz.func49, Tryz.ntmps49
 go_wp2
 go_loopw [5] (fun i wr => ∃ k : Nat, k ≤ n ∧ i = .int .i64 k ∧ Hid (∃ cur : Array Value, wr.heap[gg]? = some (.cells cur 3 (0, 0)) ∧ cur.size = n ∧ (∀ j, j < k → cur[j]? = some (.int .i64 z)) ∧ Fr [gg] w wr)) (fun i _ => n - (intOf i).toNat)
 case atStart => exact ⟨0, Nat.zero_le _, rfl, cur0, HW.out.2.1, HW.out.2.2.1, fun j hj => by omega, Fr.refl _ _⟩
 case round =>
  obtain ⟨k, hk, rfl, HK⟩ := hrel
  obtain ⟨W3, hW3⟩ : ∃ W3, W3 = wr := ⟨_, rfl⟩
  subst hW3
  obtain ⟨cur, k1, k2, k3, k4⟩ := HK.out
  by_cases hlt : k < n
  · have hltz : (k : Int) < (n : Int) := by omega
    have k0 : (0 : Int) ≤ (k : Int) := by omega
    obtain ⟨v0, d1⟩ : ∃ v0, W3.cell? ⟨gg, k, none⟩ = some v0 := ⟨cur[k], by rw [cell_of k1, Array.getElem?_eq_getElem (by omega)]⟩
    have d2 : W3.frozen? ⟨gg, k, none⟩ = false := froz_of k1 _
    have HN : Hid (∃ cur' : Array Value, (W3.setCell ⟨gg, k, none⟩ (.int .i64 z)).heap[gg]? = some (.cells cur' 3 (0, 0)) ∧ cur'.size = n ∧ (∀ j, j < k + 1 → cur'[j]? = some (.int .i64 z)) ∧ Fr [gg] w (W3.setCell ⟨gg, k, none⟩ (.int .i64 z))) := by
     refine ⟨_, heap_setCell_same W3 gg k _ _ _ k1, by simpa using k2, fun j hj => ?_, k4.setCell _ (Or.inl (by simp))⟩
     by_cases e : j = k
     · subst e
       simp [k2, hlt]
     · rw [Array.getElem?_setIfInBounds_ne (by omega)]
       exact k3 j (by omega)
    clear k1 k2 k3 k4 HK c3
    go_wp2
    go_roundw
    case rel => exact ⟨k + 1, by omega, by go_num, HN⟩
    case measure => simp [intOf]; omega
  · have hkk : k = n := by omega
    subst hkk
    have HJ0 : Hid (KJ B w W3 wb gg sv tv T kv mv D K M z 0 k gg k mv []) := by
     refine ⟨rfl, ?_, by simp, k4.mono (by simp), fun j hj => Or.inl hj, Or.inl rfl, ⟨cur, k1, k2, Nat.le_refl _, k3⟩, hBg⟩
     rw [List.append_nil]
     exact HW.out.1.int HW.out.2.1 k4 (fun i x hx e => absurd e (HM.out x (List.mem_of_getElem? hx)).1)
    clear k1 k2 k3 k4 HK c3
    go_wp2
    go_loopw [6, 7] (fun g i wr => ∃ (t gt ct : Nat) (mv' : Value) (N : List (Nat × Nat × Nat)), t ≤ 4 ∧ i = .int .i64 t ∧ g = .slice (some ⟨gt, 0, none⟩) (k + t) ct ∧ Hid (KJ B w wr wb gg sv tv T kv mv D K M z t (k + t) gt ct mv' N)) (fun _ i _ => 4 - (intOf i).toNat)
    case atStart => exact ⟨0, gg, k, mv, [], by omega, rfl, rfl, HJ0⟩
    case round =>
     obtain ⟨t, gt, ct, mv', N, ht, rfl, rfl, HT⟩ := hrel
     obtain ⟨W4, hW4⟩ : ∃ W4, W4 = wr := ⟨_, rfl⟩
     subst hW4
     clear HJ0
     obtain ⟨n, hnk⟩ : ∃ n, k = n := ⟨_, rfl⟩
     subst hnk
     by_cases hlt4 : t < 4
     · have hltz : (t : Int) < 4 := by omega
       obtain ⟨ma, mc, hmv⟩ := own_shape HT.out.wm.mo
       have hlen : (M ++ N).length = L + t := by rw [List.length_append, HT.out.nl, HW.out.2.2.2]
       rw [hlen] at hmv
       have HRo : Hid (W4.ownsRow B 39 1 (.slice ma (L + t) mc) (L + t) (kC (M ++ N))) := by have h8 := HT.out.wm.mo; rw [hlen, hmv] at h8; exact h8
       have e3 : W4.cell? ⟨wb, 3, none⟩ = some (.slice ma (L + t) mc) := by rw [← hmv]; exact HT.out.wm.cells.2.2.1
       have lB : B ≤ W4.heap.size := by have h8 := HBw.out; have h9 := HT.out.fr.size; omega
       have HC9 : Hid (∀ w9, (W4.alloc (.cells #[.slice (some ⟨gt, 0, none⟩) (k + t) ct] 39)).grownBy w9 (Value.slice ma (L + t) mc).ownBlock → w9.cell? ⟨wb, 3, none⟩ = some (.slice ma (L + t) mc) ∧ w9.frozen? ⟨wb, 3, none⟩ = false) := fun w9 hg9 => by
        have W5 := HT.out.wm.same ((Fr.refl [] W4).alloc (.cells #[.slice (some ⟨gt, 0, none⟩) (k + t) ct] 39))
        have lwb := (Array.getElem?_eq_some_iff.1 W5.blk).1
        have hne : (Value.slice ma (L + t) mc).ownBlock ≠ some wb := fun e => by
         obtain ⟨_, cur, h4⟩ := own_tag HRo.out e
         rw [HT.out.wm.blk] at h4
         simp at h4
        have h8 := W5.cells
        rw [hmv] at h8
        exact ⟨(hg9.cell_far ⟨wb, 3, none⟩ lwb (Ne.symm hne)).trans h8.2.2.1, (hg9.frozen_far ⟨wb, 3, none⟩ lwb (Ne.symm hne)).trans h8.2.2.2.2⟩
       have HKeep : Hid (∀ w9 v9, (W4.alloc (.cells #[.slice (some ⟨gt, 0, none⟩) (k + t) ct] 39)).grownBy w9 (Value.slice ma (L + t) mc).ownBlock → w9.ownsRow B 39 1 v9 (L + t + 1) (kC (M ++ N) ++ [.slice (some ⟨gt, 0, none⟩) (k + t) ct]) → (v9.ownBlock = (Value.slice ma (L + t) mc).ownBlock ∨ v9.ownBlock = some (W4.alloc (.cells #[.slice (some ⟨gt, 0, none⟩) (k + t) ct] 39)).heap.size) → KJ B w (w9.setCell ⟨wb, 3, none⟩ v9) wb gg sv tv T kv mv D K M z (t + 1) (k + t) gt ct v9 (N ++ [(gt, k + t, ct)])) := fun w9 v9 h1 h2 h3 => by
        have h8 := HT.out.same ((Fr.refl [] W4).alloc (.cells #[.slice (some ⟨gt, 0, none⟩) (k + t) ct] 39))
        rw [hmv] at h8
        exact h8.keep (HZ.out t hlt4) h1 (by rw [HW.out.2.2.2]; exact h2) h3
       clear hmv hlen
       by_cases hroom : k + t + 1 ≤ ct
       · go_wp2_with (first
           | (at_builtin; refine wpList_append_own_at _ rfl _ _ 30 rfl B 39 i0 _ 1 24 Tryz.underlying30 hi hz0 hz1 hz2 rfl (by omega) (.slice ma (L + t) mc) (L + t) (kC (M ++ N)) rfl (HRo.out.alloc _) ⟨W4.heap.size, 0, none⟩ 1 1 [.slice (some ⟨gt, 0, none⟩) (k + t) ct] rfl rfl (World.news_of_block (cs := #[.slice (some ⟨gt, 0, none⟩) (k + t) ct]) (t := 39) (fr := (0, 0)) (heap_alloc_new W4 _)) (by simp [Value.oneCell']) (by unfold maxLen; omega) (by omega) (by simp; omega) ?_; intro v9 w9 hown9 hgrow9 _ hat9; obtain ⟨va9, vc9, hv9⟩ := own_shape hown9; subst hv9; obtain ⟨c93, z93⟩ := HC9.out w9 hgrow9; have H9 : Hid (KJ B w ((w9.setCell ⟨wb, 3, none⟩ (.slice va9 (L + t + 1) vc9)).alloc (.cells #[.int .i64 z] 3)) wb gg sv tv T kv mv D K M z (t + 1) (k + t) gt ct (.slice va9 (L + t + 1) vc9) (N ++ [(gt, k + t, ct)])) := (HKeep.out w9 _ hgrow9 hown9 hat9).same ((Fr.refl _ _).alloc _); clear hown9 hgrow9 hat9)
           | (at_builtin; refine wpList_append_arg ((w9.setCell ⟨wb, 3, none⟩ (.slice va9 (L + t + 1) vc9)).alloc (.cells #[.int .i64 z] 3)) rfl _ _ 39 rfl 3 i1 _ 1 8 Tryz.underlying39 hi1 hy0 hy1 hy2 rfl (by omega) gt 0 (k + t) ct (List.replicate (k + t) (.int .i64 z)) rfl (by simp) H9.out.olds ⟨w9.heap.size, 0, none⟩ 1 1 [.int .i64 z] rfl rfl (World.news_of_block (cs := #[.int .i64 z]) (t := 3) (fr := (0, 0)) (by have h8 := heap_alloc_new (w9.setCell ⟨wb, 3, none⟩ (.slice va9 (L + t + 1) vc9)) (.cells #[.int .i64 z] 3); rw [World.size_setCell] at h8; exact h8)) (by simp [Value.oneCell']) (fun hr => H9.out.spare hr) (by unfold maxLen; omega) (by omega) (fun _ => ?_) (fun hr => absurd hr (by omega))))
         have H10 : Hid (KJ B w (((w9.setCell ⟨wb, 3, none⟩ (.slice va9 (L + t + 1) vc9)).alloc (.cells #[.int .i64 z] 3)).setCells gt (k + t) [.int .i64 z]) wb gg sv tv T kv mv D K M z (t + 1) (k + t + 1) gt ct (.slice va9 (L + t + 1) vc9) (N ++ [(gt, k + t, ct)])) := H9.out.room HZ.out (by omega) HM.out hroom
         go_roundw
         case rel => exact ⟨t + 1, gt, ct, _, _, by omega, by go_num, rfl, H10⟩
         case measure => simp [intOf]; omega
       · go_wp2_with (first
           | (at_builtin; refine wpList_append_own_at _ rfl _ _ 30 rfl B 39 i0 _ 1 24 Tryz.underlying30 hi hz0 hz1 hz2 rfl (by omega) (.slice ma (L + t) mc) (L + t) (kC (M ++ N)) rfl (HRo.out.alloc _) ⟨W4.heap.size, 0, none⟩ 1 1 [.slice (some ⟨gt, 0, none⟩) (k + t) ct] rfl rfl (World.news_of_block (cs := #[.slice (some ⟨gt, 0, none⟩) (k + t) ct]) (t := 39) (fr := (0, 0)) (heap_alloc_new W4 _)) (by simp [Value.oneCell']) (by unfold maxLen; omega) (by omega) (by simp; omega) ?_; intro v9 w9 hown9 hgrow9 _ hat9; obtain ⟨va9, vc9, hv9⟩ := own_shape hown9; subst hv9; obtain ⟨c93, z93⟩ := HC9.out w9 hgrow9; have H9 : Hid (KJ B w ((w9.setCell ⟨wb, 3, none⟩ (.slice va9 (L + t + 1) vc9)).alloc (.cells #[.int .i64 z] 3)) wb gg sv tv T kv mv D K M z (t + 1) (k + t) gt ct (.slice va9 (L + t + 1) vc9) (N ++ [(gt, k + t, ct)])) := (HKeep.out w9 _ hgrow9 hown9 hat9).same ((Fr.refl _ _).alloc _); clear hown9 hgrow9 hat9)
           | (at_builtin; refine wpList_append_arg ((w9.setCell ⟨wb, 3, none⟩ (.slice va9 (L + t + 1) vc9)).alloc (.cells #[.int .i64 z] 3)) rfl _ _ 39 rfl 3 i1 _ 1 8 Tryz.underlying39 hi1 hy0 hy1 hy2 rfl (by omega) gt 0 (k + t) ct (List.replicate (k + t) (.int .i64 z)) rfl (by simp) H9.out.olds ⟨w9.heap.size, 0, none⟩ 1 1 [.int .i64 z] rfl rfl (World.news_of_block (cs := #[.int .i64 z]) (t := 3) (fr := (0, 0)) (by have h8 := heap_alloc_new (w9.setCell ⟨wb, 3, none⟩ (.slice va9 (L + t + 1) vc9)) (.cells #[.int .i64 z] 3); rw [World.size_setCell] at h8; exact h8)) (by simp [Value.oneCell']) (fun hr => H9.out.spare hr) (by unfold maxLen; omega) (by omega) (fun hr => absurd hr (by omega)) (fun _ => ?_); intro vA wA hownA hgrowA; obtain ⟨gA, cA, hvA⟩ : ∃ gA cA, vA = .slice (some ⟨gA, 0, none⟩) (k + t + 1) cA := (by rcases hownA.2 with ⟨_, h0⟩ | ⟨gA, cA, _, h0, _⟩; (· omega); (· exact ⟨gA, cA, h0⟩)); subst hvA; have H10 : Hid (KJ B w wA wb gg sv tv T kv mv D K M z (t + 1) (k + t + 1) gA cA (.slice va9 (L + t + 1) vc9) (N ++ [(gt, k + t, ct)])) := H9.out.new (by have h8 := HBw.out; have h9 := H9.out.fr.size; omega) hgrowA hownA (fun j hj => by rw [← List.replicate_succ', List.getElem?_replicate, if_pos hj]); clear hownA hgrowA))
         go_roundw
         case rel => exact ⟨t + 1, gA, cA, _, _, by omega, by go_num, rfl, H10⟩
         case measure => simp [intOf]; omega
     · have htt : t = 4 := by omega
       subst htt
       go_wp2
       go_end0
       exact ⟨rfl, mv', M ++ N, by rw [List.length_append, HT.out.nl], HT.out.wm, HT.out.fr, fun x hx => by
        rcases List.mem_append.1 hx with h | h
        · exact Or.inl h
        · exact Or.inr (by have := (HT.out.nn x h).2; omega)⟩
theorem info62 : (Tryz.prog.info? 62).map (fun i => (i.zero, i.size, i.bytes)) = some (some (.slice none 0 0), 1, 24) := by kernel_rfl
def GS (w : World) (g c ct : Nat) (z : Int) : Prop := ∃ cur, w.heap[g]? = some (.cells cur 61 (0, 0)) ∧ cur.size = ct * 3 ∧ c ≤ ct ∧ ∀ j, j < c → ∀ i, i < 3 → cur[j * 3 + i]? = (m3 z)[i]?
theorem GS.kr {w : World} {g c ct : Nat} {z : Int} (h : GS w g c ct z) {n : Nat} (hn : n ≤ c) : KR 61 w g n (m3 z) := by
 obtain ⟨cur, h1, h2, h3, h4⟩ := h
 exact ⟨cur, h1, by simp [m3]; omega, fun j hj i hi => h4 j (by omega) i hi⟩
def r3s (z : Int) (c : Nat) : List Value := (List.replicate c (m3 z)).flatten
theorem r3s_len (z : Int) (c : Nat) : (r3s z c).length = c * 3 := by
 induction c with
 | zero => rfl
 | succ c ih => simp only [r3s, List.replicate_succ, List.flatten_cons, List.length_append] at ih ⊢; rw [ih]; simp [m3]; omega
theorem r3s_succ (z : Int) (c : Nat) : r3s z c ++ m3 z = r3s z (c + 1) := by simp [r3s, List.replicate_succ', List.flatten_append]
theorem r3s_get (z : Int) : ∀ (c j i : Nat), j < c → i < 3 → (r3s z c)[j * 3 + i]? = (m3 z)[i]?
 | 0, _, _, h, _ => by omega
 | c + 1, 0, i, _, hi => by
  simp only [r3s, List.replicate_succ, List.flatten_cons, Nat.zero_mul, Nat.zero_add]
  rw [List.getElem?_append_left (by simp [m3]; exact hi)]
 | c + 1, j + 1, i, h, hi => by
  have ih := r3s_get z c j i (by omega) hi
  simp only [r3s, List.replicate_succ, List.flatten_cons] at ih ⊢
  rw [List.getElem?_append_right (by simp [m3]; omega), show (j + 1) * 3 + i - (m3 z).length = j * 3 + i by simp [m3]; omega]
  exact ih
theorem gs_flat {w : World} {g c ct : Nat} {z : Int} (h : GS w g c ct z) (t : Nat) (ht : t < c * 3) : w.cell? ⟨g, t, none⟩ = (r3s z c)[t]? := by
 obtain ⟨cur, h1, h2, h3, h4⟩ := h
 have e : t = t / 3 * 3 + t % 3 := by omega
 rw [cell_of h1, e, h4 (t / 3) (by omega) (t % 3) (by omega), r3s_get z c (t / 3) (t % 3) (by omega) (by omega)]
structure KJs (B : Nat) (w wr : World) (wb gg : Nat) (sv tv : Value) (T : List ByteArray) (mv kv : Value) (D : List Nat) (M K : List (Nat × Nat × Nat)) (z : Int) (a c gt ct : Nat) (kv' : Value) (N : List (Nat × Nat × Nat)) : Prop where
 nl : N.length = a
 wm : WM B wr wb sv tv T kv' mv D (K ++ N) M
 nn : ∀ x ∈ N, (x.1 = gg ∨ w.heap.size ≤ x.1) ∧ x.2.1 ≤ c
 fr : Fr (wb :: gg :: kv.ownBlock.toList) w wr
 ob : ∀ k, kv'.ownBlock = some k → kv.ownBlock = some k ∨ w.heap.size ≤ k
 go : gt = gg ∨ w.heap.size ≤ gt
 gi : GS wr gt c ct z
 bg : B ≤ gt
section
variable {B : Nat} {w wr : World} {wb gg : Nat} {sv tv : Value} {T : List ByteArray} {mv kv kv' : Value} {D : List Nat} {M K N : List (Nat × Nat × Nat)} {z : Int} {a c gt ct : Nat}
theorem KJs.same (h : KJs B w wr wb gg sv tv T mv kv D M K z a c gt ct kv' N) {w2 : World} (hf : Fr [] wr w2) : KJs B w w2 wb gg sv tv T mv kv D M K z a c gt ct kv' N :=
 ⟨h.nl, h.wm.same hf, h.nn, h.fr.trans hf (by simp), h.ob, h.go, by
  obtain ⟨cur, h1, h2⟩ := h.gi
  exact ⟨cur, by rw [hf.block _ (Array.getElem?_eq_some_iff.1 h1).1 (by simp)]; exact h1, h2⟩, h.bg⟩
theorem KJs.keep (h : KJs B w wr wb gg sv tv T mv kv D M K z a c gt ct kv' N) (hz : zOf (K.length + a) = z) {w9 : World} {kv9 : Value} (hg : wr.grownBy w9 kv'.ownBlock) (ho : w9.ownsRow B 62 1 kv9 (K.length + a + 1) (kC (K ++ N) ++ [.slice (some ⟨gt, 0, none⟩) c ct])) (hat : kv9.ownBlock = kv'.ownBlock ∨ kv9.ownBlock = some wr.heap.size) :
  KJs B w (w9.setCell ⟨wb, 2, none⟩ kv9) wb gg sv tv T mv kv D M K z (a + 1) c gt ct kv9 (N ++ [(gt, c, ct)]) := by
 have hlen : (K ++ N).length = K.length + a := by rw [List.length_append, h.nl]
 have hf : Fr (wb :: kv'.ownBlock.toList) wr (w9.setCell ⟨wb, 2, none⟩ kv9) := ((Fr.refl _ _).grown hg (fun k hk => Or.inl (by simp [hk]))).setCell _ (Or.inl (by simp))
 have hmt : ∀ j, kv'.ownBlock = some j → ∃ cur, wr.heap[j]? = some (.cells cur 62 (0, 0)) := fun j hj => (own_tag h.wm.ko hj).2
 obtain ⟨cur, g1, g2⟩ := h.gi
 refine ⟨by simp [h.nl], ?_, fun x hx => ?_, ?_, fun k hk => ?_, h.go, ?_, h.bg⟩
 · have W9 := h.wm.addK (x := (gt, c, ct)) hg (by rw [hlen]; exact ho) ⟨h.bg, by rw [hlen, hz]; exact h.gi.kr (Nat.le_refl _)⟩
   rw [List.append_assoc] at W9
   exact W9
 · rcases List.mem_append.1 hx with hx | hx
   · exact h.nn x hx
   · have e : x = (gt, c, ct) := by simpa using hx
     subst e
     exact ⟨h.go, Nat.le_refl _⟩
 · refine h.fr.trans hf (fun k hk => ?_)
   rcases List.mem_cons.1 hk with rfl | hk
   · exact Or.inl (by simp)
   · simp at hk
     rcases h.ob k hk with h1 | h1
     · exact Or.inl (by simp [h1])
     · exact Or.inr h1
 · rcases hat with e | e
   · exact h.ob k (by rw [← e]; exact hk)
   · right
     rw [e] at hk
     have := h.fr.size
     simp at hk
     omega
 · refine ⟨cur, ?_, g2⟩
   rw [hf.block _ (Array.getElem?_eq_some_iff.1 g1).1 (fun hm => ?_)]
   · exact g1
   · rcases List.mem_cons.1 hm with e | hm
     · rw [e, h.wm.blk] at g1
       simp at g1
     · simp at hm
       obtain ⟨cur', e'⟩ := hmt gt hm
       rw [e'] at g1
       simp at g1
theorem KJs.room (h : KJs B w wr wb gg sv tv T mv kv D M K z a c gt ct kv' N) (hz : ∀ u, u < 4 → zOf (K.length + u) = z) (ha : a ≤ 4) (hM : ∀ x ∈ K, x.1 ≠ gg ∧ x.1 < w.heap.size) (hc : c + 1 ≤ ct) : KJs B w (wr.setCells gt (c * 3) (m3 z)) wb gg sv tv T mv kv D M K z a (c + 1) gt ct kv' N := by
 obtain ⟨cur, g1, g2, g3, g4⟩ := h.gi
 obtain ⟨cur', k1, k2, k3⟩ := setCells_heap (m3 z) (c * 3) wr cur g1
 have hml : (m3 z).length = 3 := rfl
 have G : GS (wr.setCells gt (c * 3) (m3 z)) gt (c + 1) ct z := ⟨cur', k1, by omega, hc, fun j hj i hi => by
  rw [k3 (j * 3 + i) (by omega)]
  by_cases e : j = c
  · subst e
    rw [if_pos (by rw [hml]; omega), Nat.add_sub_cancel_left]
  · rw [if_neg (by omega)]
    exact g4 j (by omega) i hi⟩
 have hf : Fr [gt] wr (wr.setCells gt (c * 3) (m3 z)) := (((Fr.refl _ _).setCell _ (Or.inl (by simp))).setCell _ (Or.inl (by simp))).setCell _ (Or.inl (by simp))
 refine ⟨h.nl, h.wm.snp g1 hf (fun i x hx e => ?_), fun x hx => ⟨(h.nn x hx).1, by have := (h.nn x hx).2; omega⟩, h.fr.trans hf (fun k hk => ?_), h.ob, h.go, G, h.bg⟩
 · rcases Nat.lt_or_ge i K.length with hi | hi
   · exfalso
     rw [List.getElem?_append_left hi] at hx
     have := hM x (List.mem_of_getElem? hx)
     rcases h.go with e2 | e2
     · exact this.1 (e.trans e2)
     · omega
   · rw [List.getElem?_append_right hi] at hx
     have hn := (List.getElem?_eq_some_iff.1 hx).1
     have hz' := hz (i - K.length) (by have := h.nl; omega)
     rw [show K.length + (i - K.length) = i by omega] at hz'
     rw [hz']
     exact G.kr (by have := (h.nn x (List.mem_of_getElem? hx)).2; omega)
 · have : k = gt := by simpa using hk
   subst this
   rcases h.go with e2 | e2
   · exact Or.inl (by simp [e2])
   · exact Or.inr e2
theorem own_gs {base g c cap : Nat} {xs : List Value} (h : wr.ownsRow base 61 3 (.slice (some ⟨g, 0, none⟩) c cap) c xs) (hx : xs = r3s z c) : base ≤ g ∧ GS wr g c cap z := by
 rcases h.2 with ⟨h1, _⟩ | ⟨g', cap', cur, h1, hb, hg, hc, hm, hs, ht⟩
 · simp at h1
 · simp only [Value.slice.injEq, Option.some.injEq, Addr.mk.injEq, and_true, true_and] at h1
   obtain ⟨rfl, rfl⟩ := h1
   refine ⟨hb, cur, hg, by omega, hc, fun j hj i hi => ?_⟩
   rw [← r3s_get z c j i hj hi, ← hx, ← ht, List.getElem?_take_of_lt (by omega), Array.getElem?_toList]
theorem KJs.olds (h : KJs B w wr wb gg sv tv T mv kv D M K z a c gt ct kv' N) : ∀ (j : Nat) (u : Value), (r3s z c)[j]? = some u → wr.cell? ⟨gt, 0 + j, none⟩ = some u := fun j u hu => by
 have hj := (List.getElem?_eq_some_iff.1 hu).1
 rw [r3s_len] at hj
 rw [Nat.zero_add, gs_flat h.gi j hj]
 exact hu
theorem KJs.spare (h : KJs B w wr wb gg sv tv T mv kv D M K z a c gt ct kv' N) (hr : c + 1 ≤ ct) : ∀ j, j < (m3 z).length → (wr.cell? ⟨gt, 0 + c * 3 + j, none⟩).isSome = true ∧ wr.frozen? ⟨gt, 0 + c * 3 + j, none⟩ = false := fun j hj => by
 obtain ⟨cur, g1, g2, g3, g4⟩ := h.gi
 have hj0 : j < 3 := by simpa [m3] using hj
 refine ⟨?_, froz_of g1 _⟩
 rw [cell_of g1, Array.getElem?_eq_getElem (by omega)]
 rfl
theorem KJs.new (h : KJs B w wr wb gg sv tv T mv kv D M K z a c gt ct kv' N) {w' : World} {g' cap' : Nat} {xs : List Value} (hB : B ≤ wr.heap.size) (hg : wr.grownBy w' none) (ho : w'.ownsRow wr.heap.size 61 3 (.slice (some ⟨g', 0, none⟩) (c + 1) cap') (c + 1) xs) (hx : xs = r3s z (c + 1)) : KJs B w w' wb gg sv tv T mv kv D M K z a (c + 1) g' cap' kv' N := by
 have hf : Fr [] wr w' := (Fr.refl _ _).grown hg (fun k hk => by simp at hk)
 have h2 := h.same hf
 obtain ⟨hb, G⟩ := own_gs ho hx
 have := h.fr.size
 exact ⟨h2.nl, h2.wm, fun x hx => ⟨(h2.nn x hx).1, by have := (h2.nn x hx).2; omega⟩, h2.fr, h2.ob, Or.inr (by omega), G, by omega⟩
end
def KsPost (B : Nat) (w w' : World) (wb gg : Nat) (sv tv : Value) (T : List ByteArray) (mv kv : Value) (D : List Nat) (M K : List (Nat × Nat × Nat)) : Prop := ∃ kv' K', K'.length = K.length + 4 ∧ WM B w' wb sv tv T kv' mv D K' M ∧ Fr (wb :: gg :: kv.ownBlock.toList) w w' ∧ ∀ x ∈ K', x ∈ K ∨ x.2.1 ≤ 16
set_option maxRecDepth 100000 in
set_option maxHeartbeats 3200000 in
theorem keepSnaps_any (B wb : Nat) (sv tv : Value) (T : List ByteArray) (mv kv : Value) (D : List Nat) (M K : List (Nat × Nat × Nat)) (gg n : Nat) (w : World) (h : WM B w wb sv tv T kv mv D K M) (cur0 : Array Value) (hg : w.heap[gg]? = some (.cells cur0 61 (0, 0))) (hs : cur0.size = n * 3) (hn : n ≤ 12) (hM : ∀ x ∈ K, x.1 ≠ gg) (hM4 : K.length % 4 = 0) (hMl : K.length ≤ 8000000) (hBg : B ≤ gg) :
  Calls Tryz.prog 34 #[.pointer (some ⟨wb, 0, none⟩), .slice (some ⟨gg, 0, none⟩) n n] w fun e w' => e = .returned (.tuple #[]) ∧ KsPost B w w' wb gg sv tv T mv kv D M K := by
 obtain ⟨i0, hi, hz0, hz1, hz2⟩ := info_parts info62
 obtain ⟨i1, hi1, hy0, hy1, hy2⟩ := info_parts info100
 obtain ⟨L, hL⟩ : ∃ L, K.length = L := ⟨_, rfl⟩
 obtain ⟨z, hz⟩ : ∃ z : Int, -1 - (L : Int) = z := ⟨_, rfl⟩
 have hzw : IntKind.i64.wrap (-1 - (L : Int)) = z := by rw [hz.symm]; exact wrap_fit ⟨by omega, by omega⟩
 have HZ : Hid (∀ u, u < 4 → zOf (K.length + u) = z) := fun u hu => by unfold zOf; omega
 have HM : Hid (∀ x ∈ K, x.1 ≠ gg ∧ x.1 < w.heap.size) := fun x hx => by
  obtain ⟨i, hi, e⟩ := List.getElem_of_mem hx
  exact ⟨hM x hx, (h.kk i x (by rw [List.getElem?_eq_getElem hi, e])).2.lt⟩
 have HW : Hid (WM B w wb sv tv T kv mv D K M ∧ w.heap[gg]? = some (.cells cur0 61 (0, 0)) ∧ cur0.size = n * 3 ∧ K.length = L) := ⟨h, hg, hs, hL⟩
 have HBw : Hid (B ≤ w.heap.size) := by
  have h1 := h.hw
  have h2 := (Array.getElem?_eq_some_iff.1 h.blk).1
  exact (by omega : B ≤ w.heap.size)
 obtain ⟨ma0, mc0, hkv0⟩ := own_shape h.ko
 have c3 : w.cell? ⟨wb, 2, none⟩ = some (.slice ma0 L mc0) := by rw [← hL, ← hkv0]; exact h.cells.2.1
 have hLz : (L : Int) ≤ 8000000 := by omega
 clear h hg hs hM hM4 hMl hkv0 hL hz
 go_enter Tryz.func34, Tryz.ntmps34
 go_wp2
 obtain ⟨W1, hW1⟩ : ∃ W1, w.alloc (.cells #[.int .i64 z, .int .i64 0, .int .i64 0] 61) = W1 := ⟨_, rfl⟩
 obtain ⟨mb, hmb⟩ : ∃ mb, w.heap.size = mb := ⟨_, rfl⟩
 have f1 : Fr [] w W1 := by rw [← hW1]; exact (Fr.refl _ _).alloc _
 have b1 : W1.heap[mb]? = some (.cells #[.int .i64 z, .int .i64 0, .int .i64 0] 61 (0, 0)) := by rw [← hW1, ← hmb]; exact heap_alloc_new w _
 have hgl : gg < w.heap.size := (Array.getElem?_eq_some_iff.1 HW.out.2.1).1
 have HF1 : Hid (Fr [] w W1) := f1
 have HV : Hid (WM B W1 wb sv tv T kv mv D K M ∧ W1.heap[gg]? = some (.cells cur0 61 (0, 0)) ∧ cur0.size = n * 3 ∧ K.length = L ∧ (∀ x ∈ K, x.1 ≠ gg ∧ x.1 < W1.heap.size) ∧ B ≤ W1.heap.size) := ⟨HW.out.1.same f1, by rw [f1.block gg hgl (by simp)]; exact HW.out.2.1, HW.out.2.2.1, HW.out.2.2.2, fun x hx => ⟨(HM.out x hx).1, Nat.lt_of_lt_of_le (HM.out x hx).2 f1.size⟩, Nat.le_trans HBw.out f1.size⟩
 have HMb : Hid (∀ wr, Fr (wb :: gg :: kv.ownBlock.toList) W1 wr → wr.cell? ⟨mb, 0, none⟩ = some (.int .i64 z) ∧ wr.cell? ⟨mb, 1, none⟩ = some (.int .i64 0) ∧ wr.cell? ⟨mb, 2, none⟩ = some (.int .i64 0)) := fun wr hf => by
  have hb : wr.heap[mb]? = some (.cells #[.int .i64 z, .int .i64 0, .int .i64 0] 61 (0, 0)) := by
   rw [hf.block mb (Array.getElem?_eq_some_iff.1 b1).1 (fun hm => ?_)]
   · exact b1
   · rcases List.mem_cons.1 hm with e | hm
     · have h8 := HV.out.1.blk
       rw [← e, b1] at h8
       simp at h8
     · rcases List.mem_cons.1 hm with e | hm
       · omega
       · simp at hm
         obtain ⟨_, cur, h8⟩ := own_tag HV.out.1.ko hm
         rw [b1] at h8
         simp at h8
  refine ⟨?_, ?_, ?_⟩ <;> rw [cell_of hb] <;> rfl
 rw [hW1, hmb]
 clear hW1 hmb f1 b1 hgl c3
 go_loopw [5] (fun i wr => ∃ k : Nat, k ≤ n ∧ i = .int .i64 k ∧ Hid (∃ cur : Array Value, wr.heap[gg]? = some (.cells cur 61 (0, 0)) ∧ cur.size = n * 3 ∧ (∀ j, j < k → ∀ i, i < 3 → cur[j * 3 + i]? = (m3 z)[i]?) ∧ Fr [gg] W1 wr)) (fun i _ => n - (intOf i).toNat)
 case atStart => exact ⟨0, Nat.zero_le _, rfl, cur0, HV.out.2.1, HV.out.2.2.1, fun j hj => by omega, Fr.refl _ _⟩
 case round =>
  obtain ⟨k, hk, rfl, HK⟩ := hrel
  obtain ⟨W3, hW3⟩ : ∃ W3, W3 = wr := ⟨_, rfl⟩
  subst hW3
  obtain ⟨cur, k1, k2, k3, k4⟩ := HK.out
  by_cases hlt : k < n
  · have hltz : (k : Int) < (n : Int) := by omega
    have k0 : (0 : Int) ≤ (k : Int) := by omega
    obtain ⟨v0, d0⟩ : ∃ v0, W3.cell? ⟨gg, k * 3, none⟩ = some v0 := ⟨cur[k * 3], by rw [cell_of k1, Array.getElem?_eq_getElem (by omega)]⟩
    obtain ⟨v1, d1⟩ : ∃ v0, W3.cell? ⟨gg, k * 3 + 1, none⟩ = some v0 := ⟨cur[k * 3 + 1], by rw [cell_of k1, Array.getElem?_eq_getElem (by omega)]⟩
    obtain ⟨v2, d2⟩ : ∃ v0, W3.cell? ⟨gg, k * 3 + 2, none⟩ = some v0 := ⟨cur[k * 3 + 2], by rw [cell_of k1, Array.getElem?_eq_getElem (by omega)]⟩
    have e0 : W3.frozen? ⟨gg, k * 3, none⟩ = false := froz_of k1 _
    have e1 : W3.frozen? ⟨gg, k * 3 + 1, none⟩ = false := froz_of k1 _
    have e2 : W3.frozen? ⟨gg, k * 3 + 2, none⟩ = false := froz_of k1 _
    have HN : Hid (∃ cur' : Array Value, (W3.setCells gg (k * 3) (m3 z)).heap[gg]? = some (.cells cur' 61 (0, 0)) ∧ cur'.size = n * 3 ∧ (∀ j, j < k + 1 → ∀ i, i < 3 → cur'[j * 3 + i]? = (m3 z)[i]?) ∧ Fr [gg] W1 (W3.setCells gg (k * 3) (m3 z))) := by
     obtain ⟨cur', r1, r2, r3⟩ := setCells_heap (m3 z) (k * 3) W3 cur k1
     have hml : (m3 z).length = 3 := rfl
     refine ⟨cur', r1, by omega, fun j hj i hi => ?_, ((k4.setCell _ (Or.inl (by simp))).setCell _ (Or.inl (by simp))).setCell _ (Or.inl (by simp))⟩
     rw [r3 (j * 3 + i) (by omega)]
     by_cases e : j = k
     · subst e
       rw [if_pos (by rw [hml]; omega), Nat.add_sub_cancel_left]
     · rw [if_neg (by omega)]
       exact k3 j (by omega) i hi
    obtain ⟨x0, x1, x2⟩ := HMb.out W3 (k4.mono (by simp))
    clear k1 k2 k3 k4 HK
    go_wp2
    go_roundw
    case rel => exact ⟨k + 1, by omega, by go_num, HN⟩
    case measure => simp [intOf]; omega
  · have hkk : k = n := by omega
    subst hkk
    have HJ0 : Hid (KJs B W1 W3 wb gg sv tv T mv kv D M K z 0 k gg k kv []) := by
     refine ⟨rfl, ?_, by simp, k4.mono (by simp), fun j hj => Or.inl hj, Or.inl rfl, ⟨cur, k1, k2, Nat.le_refl _, k3⟩, hBg⟩
     rw [List.append_nil]
     exact HV.out.1.snp HV.out.2.1 k4 (fun i x hx e => absurd e (HV.out.2.2.2.2.1 x (List.mem_of_getElem? hx)).1)
    clear k1 k2 k3 k4 HK
    go_wp2
    go_loopw [6, 7] (fun g i wr => ∃ (t gt ct : Nat) (kv' : Value) (N : List (Nat × Nat × Nat)), t ≤ 4 ∧ i = .int .i64 t ∧ g = .slice (some ⟨gt, 0, none⟩) (k + t) ct ∧ Hid (KJs B W1 wr wb gg sv tv T mv kv D M K z t (k + t) gt ct kv' N)) (fun _ i _ => 4 - (intOf i).toNat)
    case atStart => exact ⟨0, gg, k, kv, [], by omega, rfl, rfl, HJ0⟩
    case round =>
     obtain ⟨t, gt, ct, kv', N, ht, rfl, rfl, HT⟩ := hrel
     obtain ⟨W4, hW4⟩ : ∃ W4, W4 = wr := ⟨_, rfl⟩
     subst hW4
     clear HJ0
     obtain ⟨n, hnk⟩ : ∃ n, k = n := ⟨_, rfl⟩
     subst hnk
     by_cases hlt4 : t < 4
     · have hltz : (t : Int) < 4 := by omega
       obtain ⟨ma, mc, hkv⟩ := own_shape HT.out.wm.ko
       have hlen : (K ++ N).length = L + t := by rw [List.length_append, HT.out.nl, HV.out.2.2.2.1]
       rw [hlen] at hkv
       have HRo : Hid (W4.ownsRow B 62 1 (.slice ma (L + t) mc) (L + t) (kC (K ++ N))) := by have h8 := HT.out.wm.ko; rw [hlen, hkv] at h8; exact h8
       have e3 : W4.cell? ⟨wb, 2, none⟩ = some (.slice ma (L + t) mc) := by rw [← hkv]; exact HT.out.wm.cells.2.1
       have lB : B ≤ W4.heap.size := by have h8 := HV.out.2.2.2.2.2; have h9 := HT.out.fr.size; omega
       have HC9 : Hid (∀ w9, (W4.alloc (.cells #[.slice (some ⟨gt, 0, none⟩) (k + t) ct] 62)).grownBy w9 (Value.slice ma (L + t) mc).ownBlock → w9.cell? ⟨wb, 2, none⟩ = some (.slice ma (L + t) mc) ∧ w9.frozen? ⟨wb, 2, none⟩ = false) := fun w9 hg9 => by
        have W5 := HT.out.wm.same ((Fr.refl [] W4).alloc (.cells #[.slice (some ⟨gt, 0, none⟩) (k + t) ct] 62))
        have lwb := (Array.getElem?_eq_some_iff.1 W5.blk).1
        have hne : (Value.slice ma (L + t) mc).ownBlock ≠ some wb := fun e => by
         obtain ⟨_, cur, h4⟩ := own_tag HRo.out e
         rw [HT.out.wm.blk] at h4
         simp at h4
        have h8 := W5.cells
        rw [hkv] at h8
        exact ⟨(hg9.cell_far ⟨wb, 2, none⟩ lwb (Ne.symm hne)).trans h8.2.1, (hg9.frozen_far ⟨wb, 2, none⟩ lwb (Ne.symm hne)).trans h8.2.2.2.1⟩
       have HKeep : Hid (∀ w9 v9, (W4.alloc (.cells #[.slice (some ⟨gt, 0, none⟩) (k + t) ct] 62)).grownBy w9 (Value.slice ma (L + t) mc).ownBlock → w9.ownsRow B 62 1 v9 (L + t + 1) (kC (K ++ N) ++ [.slice (some ⟨gt, 0, none⟩) (k + t) ct]) → (v9.ownBlock = (Value.slice ma (L + t) mc).ownBlock ∨ v9.ownBlock = some (W4.alloc (.cells #[.slice (some ⟨gt, 0, none⟩) (k + t) ct] 62)).heap.size) → KJs B W1 (w9.setCell ⟨wb, 2, none⟩ v9) wb gg sv tv T mv kv D M K z (t + 1) (k + t) gt ct v9 (N ++ [(gt, k + t, ct)])) := fun w9 v9 h1 h2 h3 => by
        have h8 := HT.out.same ((Fr.refl [] W4).alloc (.cells #[.slice (some ⟨gt, 0, none⟩) (k + t) ct] 62))
        rw [hkv] at h8
        exact h8.keep (HZ.out t hlt4) h1 (by rw [HV.out.2.2.2.1]; exact h2) h3
       clear hkv hlen
       by_cases hroom : k + t + 1 ≤ ct
       · go_wp2_with (first
           | (at_builtin; refine wpList_append_own_at _ rfl _ _ 29 rfl B 62 i0 _ 1 24 Tryz.underlying29 hi hz0 hz1 hz2 rfl (by omega) (.slice ma (L + t) mc) (L + t) (kC (K ++ N)) rfl (HRo.out.alloc _) ⟨W4.heap.size, 0, none⟩ 1 1 [.slice (some ⟨gt, 0, none⟩) (k + t) ct] rfl rfl (World.news_of_block (cs := #[.slice (some ⟨gt, 0, none⟩) (k + t) ct]) (t := 62) (fr := (0, 0)) (heap_alloc_new W4 _)) (by simp [Value.oneCell']) (by unfold maxLen; omega) (by omega) (by simp; omega) ?_; intro v9 w9 hown9 hgrow9 _ hat9; obtain ⟨va9, vc9, hv9⟩ := own_shape hown9; subst hv9; obtain ⟨c93, z93⟩ := HC9.out w9 hgrow9; have H9 : Hid (KJs B W1 ((w9.setCell ⟨wb, 2, none⟩ (.slice va9 (L + t + 1) vc9)).alloc (.cells #[.int .i64 z, .int .i64 0, .int .i64 0] 61)) wb gg sv tv T mv kv D M K z (t + 1) (k + t) gt ct (.slice va9 (L + t + 1) vc9) (N ++ [(gt, k + t, ct)])) := (HKeep.out w9 _ hgrow9 hown9 hat9).same ((Fr.refl _ _).alloc _); obtain ⟨x0, x1, x2⟩ := HMb.out _ (HKeep.out w9 _ hgrow9 hown9 hat9).fr; clear hown9 hgrow9 hat9)
           | (at_builtin; refine wpList_append_arg ((w9.setCell ⟨wb, 2, none⟩ (.slice va9 (L + t + 1) vc9)).alloc (.cells #[.int .i64 z, .int .i64 0, .int .i64 0] 61)) rfl _ _ 62 rfl 61 i1 _ 3 24 Tryz.underlying62 hi1 hy0 hy1 hy2 rfl (by omega) gt 0 (k + t) ct (r3s z (k + t)) rfl (r3s_len z _) H9.out.olds ⟨w9.heap.size, 0, none⟩ 1 1 (m3 z) rfl rfl (World.news_of_block (cs := #[.int .i64 z, .int .i64 0, .int .i64 0]) (t := 61) (fr := (0, 0)) (by have h8 := heap_alloc_new (w9.setCell ⟨wb, 2, none⟩ (.slice va9 (L + t + 1) vc9)) (.cells #[.int .i64 z, .int .i64 0, .int .i64 0] 61); rw [World.size_setCell] at h8; exact h8)) (by simp [m3, Value.oneCell']) (fun hr => H9.out.spare hr) (by unfold maxLen; omega) (by omega) (fun _ => ?_) (fun hr => absurd hr (by omega))))
         have H10 : Hid (KJs B W1 (((w9.setCell ⟨wb, 2, none⟩ (.slice va9 (L + t + 1) vc9)).alloc (.cells #[.int .i64 z, .int .i64 0, .int .i64 0] 61)).setCells gt ((k + t) * 3) (m3 z)) wb gg sv tv T mv kv D M K z (t + 1) (k + t + 1) gt ct (.slice va9 (L + t + 1) vc9) (N ++ [(gt, k + t, ct)])) := H9.out.room HZ.out (by omega) HV.out.2.2.2.2.1 hroom
         go_roundw
         case rel => exact ⟨t + 1, gt, ct, _, _, by omega, by go_num, rfl, H10⟩
         case measure => simp [intOf]; omega
       · go_wp2_with (first
           | (at_builtin; refine wpList_append_own_at _ rfl _ _ 29 rfl B 62 i0 _ 1 24 Tryz.underlying29 hi hz0 hz1 hz2 rfl (by omega) (.slice ma (L + t) mc) (L + t) (kC (K ++ N)) rfl (HRo.out.alloc _) ⟨W4.heap.size, 0, none⟩ 1 1 [.slice (some ⟨gt, 0, none⟩) (k + t) ct] rfl rfl (World.news_of_block (cs := #[.slice (some ⟨gt, 0, none⟩) (k + t) ct]) (t := 62) (fr := (0, 0)) (heap_alloc_new W4 _)) (by simp [Value.oneCell']) (by unfold maxLen; omega) (by omega) (by simp; omega) ?_; intro v9 w9 hown9 hgrow9 _ hat9; obtain ⟨va9, vc9, hv9⟩ := own_shape hown9; subst hv9; obtain ⟨c93, z93⟩ := HC9.out w9 hgrow9; have H9 : Hid (KJs B W1 ((w9.setCell ⟨wb, 2, none⟩ (.slice va9 (L + t + 1) vc9)).alloc (.cells #[.int .i64 z, .int .i64 0, .int .i64 0] 61)) wb gg sv tv T mv kv D M K z (t + 1) (k + t) gt ct (.slice va9 (L + t + 1) vc9) (N ++ [(gt, k + t, ct)])) := (HKeep.out w9 _ hgrow9 hown9 hat9).same ((Fr.refl _ _).alloc _); obtain ⟨x0, x1, x2⟩ := HMb.out _ (HKeep.out w9 _ hgrow9 hown9 hat9).fr; clear hown9 hgrow9 hat9)
           | (at_builtin; refine wpList_append_arg ((w9.setCell ⟨wb, 2, none⟩ (.slice va9 (L + t + 1) vc9)).alloc (.cells #[.int .i64 z, .int .i64 0, .int .i64 0] 61)) rfl _ _ 62 rfl 61 i1 _ 3 24 Tryz.underlying62 hi1 hy0 hy1 hy2 rfl (by omega) gt 0 (k + t) ct (r3s z (k + t)) rfl (r3s_len z _) H9.out.olds ⟨w9.heap.size, 0, none⟩ 1 1 (m3 z) rfl rfl (World.news_of_block (cs := #[.int .i64 z, .int .i64 0, .int .i64 0]) (t := 61) (fr := (0, 0)) (by have h8 := heap_alloc_new (w9.setCell ⟨wb, 2, none⟩ (.slice va9 (L + t + 1) vc9)) (.cells #[.int .i64 z, .int .i64 0, .int .i64 0] 61); rw [World.size_setCell] at h8; exact h8)) (by simp [m3, Value.oneCell']) (fun hr => H9.out.spare hr) (by unfold maxLen; omega) (by omega) (fun hr => absurd hr (by omega)) (fun _ => ?_); intro vA wA hownA hgrowA; obtain ⟨gA, cA, hvA⟩ : ∃ gA cA, vA = .slice (some ⟨gA, 0, none⟩) (k + t + 1) cA := (by rcases hownA.2 with ⟨_, h0⟩ | ⟨gA, cA, _, h0, _⟩; (· omega); (· exact ⟨gA, cA, h0⟩)); subst hvA; have H10 : Hid (KJs B W1 wA wb gg sv tv T mv kv D M K z (t + 1) (k + t + 1) gA cA (.slice va9 (L + t + 1) vc9) (N ++ [(gt, k + t, ct)])) := H9.out.new (by have h8 := HV.out.2.2.2.2.2; have h9 := H9.out.fr.size; omega) hgrowA hownA (r3s_succ z (k + t)); clear hownA hgrowA))
         go_roundw
         case rel => exact ⟨t + 1, gA, cA, _, _, by omega, by go_num, rfl, H10⟩
         case measure => simp [intOf]; omega
     · have htt : t = 4 := by omega
       subst htt
       go_wp2
       go_end0
       exact ⟨rfl, kv', K ++ N, by rw [List.length_append, HT.out.nl], HT.out.wm, (HF1.out.mono (by simp)).trans HT.out.fr (fun k hk => Or.inl hk), fun x hx => by
        rcases List.mem_append.1 hx with h | h
        · exact Or.inl h
        · exact Or.inr (by have := (HT.out.nn x h).2; omega)⟩
end Go.Proofs.YthdhegmlknpllaaGreat
