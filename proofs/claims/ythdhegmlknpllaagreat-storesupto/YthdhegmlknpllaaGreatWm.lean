/-
  The law's World in memory: its sides, the lists that came out.
-/
import Derived.Test.YthdhegmlknpllaaGreatSie
import Derived.ArgAppend
namespace Go.Proofs.YthdhegmlknpllaaGreat
open Go.RowKit Go.Maps Go.MuLone

/-- Elements that came out: where, how many, with what room. -/
def kC (l : List (Nat × Nat × Nat)) : List Value := l.map fun x => .slice (some ⟨x.1, 0, none⟩) x.2.1 x.2.2
/-- A list that came out, as its owner left it: so many elements m, of sz cells each. -/
def KR (tag : TypeId) (w : World) (g n : Nat) (m : List Value) : Prop :=
  ∃ cur, w.heap[g]? = some (.cells cur tag (0, 0)) ∧ n * m.length ≤ cur.size ∧ ∀ j, j < n → ∀ i, i < m.length → cur[j * m.length + i]? = m[i]?
def zOf (i : Nat) : Int := -1 - 4 * ((i / 4 : Nat) : Int)
def m3 (z : Int) : List Value := [.int .i64 z, .int .i64 0, .int .i64 0]
def m1 (z : Int) : List Value := [.int .i64 z]
structure WM (B : Nat) (w : World) (wb : Nat) (sv kv mv : Value) (D : List Nat) (K M : List (Nat × Nat × Nat)) : Prop where
  blk : w.heap[wb]? = some (.cells #[sv, .slice none 0 0, kv, mv] 34 (0, 0))
  so : w.ownsRow B 35 1 sv D.length (D.map fun d => .pointer (some ⟨d, 0, none⟩))
  ko : w.ownsRow B 62 1 kv K.length (kC K)
  mo : w.ownsRow B 39 1 mv M.length (kC M)
  kk : ∀ (i : Nat) (x : Nat × Nat × Nat), K[i]? = some x → B ≤ x.1 ∧ KR 61 w x.1 x.2.1 (m3 (zOf i))
  mi : ∀ (i : Nat) (x : Nat × Nat × Nat), M[i]? = some x → B ≤ x.1 ∧ KR 3 w x.1 x.2.1 (m1 (zOf i))
  hw : B ≤ wb

section
variable {B : Nat} {w w' : World} {wb : Nat} {sv kv mv : Value} {D : List Nat} {K M : List (Nat × Nat × Nat)}
theorem KR.lt {tag : TypeId} {g n : Nat} {m : List Value} (h : KR tag w g n m) : g < w.heap.size := by
  obtain ⟨cur, h1, _⟩ := h
  exact (Array.getElem?_eq_some_iff.1 h1).1
theorem KR.of {tag : TypeId} {g n : Nat} {m : List Value} (h : KR tag w g n m) (e : w'.heap[g]? = w.heap[g]?) : KR tag w' g n m := by
  obtain ⟨cur, h1, h2⟩ := h
  exact ⟨cur, by rw [e]; exact h1, h2⟩
theorem KR.fr {tag : TypeId} {g n : Nat} {m : List Value} {F : List Nat} (h : KR tag w g n m) (hf : Fr F w w') (hn : ∀ j ∈ F, ∀ cur, w.heap[j]? ≠ some (.cells cur tag (0, 0))) : KR tag w' g n m := by
  have hl := h.lt
  refine h.of (hf.block g hl (fun hm => ?_))
  obtain ⟨cur, h1, _⟩ := h
  exact hn g hm cur h1
theorem own_tagged {F : List Nat} {base : Nat} {e : TypeId} {size : Nat} {v : Value} {k : Nat} {xs : List Value} (h : w.ownsRow base e size v k xs) (hf : Fr F w w') (ht : ∀ j ∈ F, ∀ cur, w.heap[j]? ≠ some (.cells cur e (0, 0))) : w'.ownsRow base e size v k xs :=
  own_of_block h (fun j hj => by
    obtain ⟨_, cur, h4⟩ := own_tag h hj
    exact hf.block j (Array.getElem?_eq_some_iff.1 h4).1 (fun hm => ht j hm cur h4))
/-- Where other types are written, the World stays. -/
theorem WM.fr (h : WM B w wb sv kv mv D K M) {F : List Nat} (hf : Fr F w w') (ht : ∀ j ∈ F, ∀ cur t, w.heap[j]? = some (.cells cur t (0, 0)) → t ≠ 34 ∧ t ≠ 35 ∧ t ≠ 62 ∧ t ≠ 39 ∧ t ≠ 61 ∧ t ≠ 3) : WM B w' wb sv kv mv D K M :=
  ⟨by rw [hf.block wb (Array.getElem?_eq_some_iff.1 h.blk).1 (fun hm => (ht wb hm _ _ h.blk).1 rfl)]; exact h.blk, own_tagged h.so hf (fun j hj cur e => (ht j hj cur _ e).2.1 rfl), own_tagged h.ko hf (fun j hj cur e => (ht j hj cur _ e).2.2.1 rfl), own_tagged h.mo hf (fun j hj cur e => (ht j hj cur _ e).2.2.2.1 rfl), fun i x hx => ⟨(h.kk i x hx).1, (h.kk i x hx).2.fr hf (fun j hj cur e => (ht j hj cur _ e).2.2.2.2.1 rfl)⟩, fun i x hx => ⟨(h.mi i x hx).1, (h.mi i x hx).2.fr hf (fun j hj cur e => (ht j hj cur _ e).2.2.2.2.2 rfl)⟩, h.hw⟩
theorem WM.same (h : WM B w wb sv kv mv D K M) (hf : Fr [] w w') : WM B w' wb sv kv mv D K M := h.fr hf (by simp)
theorem WM.cells (h : WM B w wb sv kv mv D K M) : w.cell? ⟨wb, 0, none⟩ = some sv ∧ w.cell? ⟨wb, 2, none⟩ = some kv ∧ w.cell? ⟨wb, 3, none⟩ = some mv ∧ w.frozen? ⟨wb, 2, none⟩ = false ∧ w.frozen? ⟨wb, 3, none⟩ = false := by
  refine ⟨?_, ?_, ?_, froz_of h.blk _, froz_of h.blk _⟩ <;> rw [cell_of h.blk] <;> rfl

/-- A block of the kept ints' type is written: the others stay. -/
theorem WM.int (h : WM B w wb sv kv mv D K M) {g : Nat} {cur : Array Value} (hg : w.heap[g]? = some (.cells cur 3 (0, 0))) (hf : Fr [g] w w') (hm : ∀ (i : Nat) (x : Nat × Nat × Nat), M[i]? = some x → x.1 = g → KR 3 w' g x.2.1 (m1 (zOf i))) : WM B w' wb sv kv mv D K M := by
  have ht : ∀ t : TypeId, t ≠ 3 → ∀ j ∈ [g], ∀ cur', w.heap[j]? ≠ some (.cells cur' t (0, 0)) := fun t ht j hj cur' e => by
    have hj' : j = g := by simpa using hj
    rw [hj', hg] at e
    simp at e
    exact ht e.2.symm
  refine ⟨by rw [hf.block wb (Array.getElem?_eq_some_iff.1 h.blk).1 (fun hm => ht 34 (by decide) wb hm _ h.blk)]; exact h.blk, own_tagged h.so hf (ht 35 (by decide)), own_tagged h.ko hf (ht 62 (by decide)), own_tagged h.mo hf (ht 39 (by decide)), fun i x hx => ⟨(h.kk i x hx).1, (h.kk i x hx).2.fr hf (ht 61 (by decide))⟩, fun i x hx => ⟨(h.mi i x hx).1, ?_⟩, h.hw⟩
  by_cases e : x.1 = g
  · rw [e]; exact hm i x hx e
  · have hk := (h.mi i x hx).2
    exact hk.of (hf.block _ hk.lt (by simpa using e))
/-- A block of the kept snapshots' type is written: the others stay. -/
theorem WM.snp (h : WM B w wb sv kv mv D K M) {g : Nat} {cur : Array Value} (hg : w.heap[g]? = some (.cells cur 61 (0, 0))) (hf : Fr [g] w w') (hm : ∀ (i : Nat) (x : Nat × Nat × Nat), K[i]? = some x → x.1 = g → KR 61 w' g x.2.1 (m3 (zOf i))) : WM B w' wb sv kv mv D K M := by
  have ht : ∀ t : TypeId, t ≠ 61 → ∀ j ∈ [g], ∀ cur', w.heap[j]? ≠ some (.cells cur' t (0, 0)) := fun t ht j hj cur' e => by
    have hj' : j = g := by simpa using hj
    rw [hj', hg] at e
    simp at e
    exact ht e.2.symm
  refine ⟨by rw [hf.block wb (Array.getElem?_eq_some_iff.1 h.blk).1 (fun hm => ht 34 (by decide) wb hm _ h.blk)]; exact h.blk, own_tagged h.so hf (ht 35 (by decide)), own_tagged h.ko hf (ht 62 (by decide)), own_tagged h.mo hf (ht 39 (by decide)), fun i x hx => ⟨(h.kk i x hx).1, ?_⟩, fun i x hx => ⟨(h.mi i x hx).1, (h.mi i x hx).2.fr hf (ht 3 (by decide))⟩, h.hw⟩
  by_cases e : x.1 = g
  · rw [e]; exact hm i x hx e
  · have hk := (h.kk i x hx).2
    exact hk.of (hf.block _ hk.lt (by simpa using e))
/-- One more list of ints is kept. -/
theorem WM.addM (h : WM B w wb sv kv mv D K M) {w9 : World} (hg : w.grownBy w9 mv.ownBlock) {x : Nat × Nat × Nat} {mv' : Value} (ho : w9.ownsRow B 39 1 mv' (M.length + 1) (kC M ++ [.slice (some ⟨x.1, 0, none⟩) x.2.1 x.2.2])) (hx : B ≤ x.1 ∧ KR 3 w x.1 x.2.1 (m1 (zOf M.length))) : WM B (w9.setCell ⟨wb, 3, none⟩ mv') wb sv kv mv' D K (M ++ [x]) := by
  have ht : ∀ j, mv.ownBlock = some j → ∃ cur, w.heap[j]? = some (.cells cur 39 (0, 0)) := fun j hj => (own_tag h.mo hj).2
  have hf : Fr mv.ownBlock.toList w w9 := (Fr.refl _ _).grown hg (fun k hk => Or.inl (by simp [hk]))
  have hnF : wb ∉ mv.ownBlock.toList := fun hm => by
    simp at hm
    obtain ⟨cur, e⟩ := ht wb hm
    rw [h.blk] at e
    simp at e
  have b9 : w9.heap[wb]? = some (.cells #[sv, .slice none 0 0, kv, mv] 34 (0, 0)) := by rw [hf.block wb (Array.getElem?_eq_some_iff.1 h.blk).1 hnF]; exact h.blk
  have hf2 : Fr (wb :: mv.ownBlock.toList) w (w9.setCell ⟨wb, 3, none⟩ mv') := (hf.mono (fun k hk => List.mem_cons_of_mem _ hk)).setCell _ (Or.inl (by simp))
  have hno : ∀ t : TypeId, t ≠ 34 → t ≠ 39 → ∀ j ∈ wb :: mv.ownBlock.toList, ∀ cur, w.heap[j]? ≠ some (.cells cur t (0, 0)) := fun t h1 h2 j hj cur e => by
    rcases List.mem_cons.1 hj with rfl | hj
    · rw [h.blk] at e
      simp at e
      exact h1 e.2.symm
    · simp at hj
      obtain ⟨cur', e'⟩ := ht j hj
      rw [e'] at e
      simp at e
      exact h2 e.2.symm
  refine ⟨by rw [heap_setCell_same _ _ _ _ _ _ b9]; rfl, own_tagged h.so hf2 (hno 35 (by decide) (by decide)), own_tagged h.ko hf2 (hno 62 (by decide) (by decide)), ?_, fun i y hy => ⟨(h.kk i y hy).1, (h.kk i y hy).2.fr hf2 (hno 61 (by decide) (by decide))⟩, fun i y hy => ?_, h.hw⟩
  · rw [List.length_append, List.length_singleton]
    have e5 : kC (M ++ [x]) = kC M ++ [.slice (some ⟨x.1, 0, none⟩) x.2.1 x.2.2] := by simp [kC]
    rw [e5]
    refine own_of_block ho (fun j hj => heap_setCell_other _ _ _ _ (fun e => ?_))
    obtain ⟨_, cur, h4⟩ := own_tag ho hj
    rw [e, b9] at h4
    simp at h4
  · rcases Nat.lt_or_ge i M.length with hi | hi
    · rw [List.getElem?_append_left hi] at hy
      exact ⟨(h.mi i y hy).1, (h.mi i y hy).2.fr hf2 (hno 3 (by decide) (by decide))⟩
    · have hi2 : i < (M ++ [x]).length := (List.getElem?_eq_some_iff.1 hy).1
      rw [List.length_append, List.length_singleton] at hi2
      have hi3 : i = M.length := by omega
      subst hi3
      rw [List.getElem?_append_right (Nat.le_refl _)] at hy
      have hyx : y = x := by simpa using hy.symm
      subst hyx
      exact ⟨hx.1, hx.2.fr hf2 (hno 3 (by decide) (by decide))⟩
/-- One more list of snapshots is kept. -/
theorem WM.addK (h : WM B w wb sv kv mv D K M) {w9 : World} (hg : w.grownBy w9 kv.ownBlock) {x : Nat × Nat × Nat} {kv' : Value} (ho : w9.ownsRow B 62 1 kv' (K.length + 1) (kC K ++ [.slice (some ⟨x.1, 0, none⟩) x.2.1 x.2.2])) (hx : B ≤ x.1 ∧ KR 61 w x.1 x.2.1 (m3 (zOf K.length))) : WM B (w9.setCell ⟨wb, 2, none⟩ kv') wb sv kv' mv D (K ++ [x]) M := by
  have ht : ∀ j, kv.ownBlock = some j → ∃ cur, w.heap[j]? = some (.cells cur 62 (0, 0)) := fun j hj => (own_tag h.ko hj).2
  have hf : Fr kv.ownBlock.toList w w9 := (Fr.refl _ _).grown hg (fun k hk => Or.inl (by simp [hk]))
  have hnF : wb ∉ kv.ownBlock.toList := fun hm => by
    simp at hm
    obtain ⟨cur, e⟩ := ht wb hm
    rw [h.blk] at e
    simp at e
  have b9 : w9.heap[wb]? = some (.cells #[sv, .slice none 0 0, kv, mv] 34 (0, 0)) := by rw [hf.block wb (Array.getElem?_eq_some_iff.1 h.blk).1 hnF]; exact h.blk
  have hf2 : Fr (wb :: kv.ownBlock.toList) w (w9.setCell ⟨wb, 2, none⟩ kv') := (hf.mono (fun k hk => List.mem_cons_of_mem _ hk)).setCell _ (Or.inl (by simp))
  have hno : ∀ t : TypeId, t ≠ 34 → t ≠ 62 → ∀ j ∈ wb :: kv.ownBlock.toList, ∀ cur, w.heap[j]? ≠ some (.cells cur t (0, 0)) := fun t h1 h2 j hj cur e => by
    rcases List.mem_cons.1 hj with rfl | hj
    · rw [h.blk] at e
      simp at e
      exact h1 e.2.symm
    · simp at hj
      obtain ⟨cur', e'⟩ := ht j hj
      rw [e'] at e
      simp at e
      exact h2 e.2.symm
  refine ⟨by rw [heap_setCell_same _ _ _ _ _ _ b9]; rfl, own_tagged h.so hf2 (hno 35 (by decide) (by decide)), ?_, own_tagged h.mo hf2 (hno 39 (by decide) (by decide)), fun i y hy => ?_, fun i y hy => ⟨(h.mi i y hy).1, (h.mi i y hy).2.fr hf2 (hno 3 (by decide) (by decide))⟩, h.hw⟩
  · rw [List.length_append, List.length_singleton]
    have e5 : kC (K ++ [x]) = kC K ++ [.slice (some ⟨x.1, 0, none⟩) x.2.1 x.2.2] := by simp [kC]
    rw [e5]
    refine own_of_block ho (fun j hj => heap_setCell_other _ _ _ _ (fun e => ?_))
    obtain ⟨_, cur, h4⟩ := own_tag ho hj
    rw [e, b9] at h4
    simp at h4
  · rcases Nat.lt_or_ge i K.length with hi | hi
    · rw [List.getElem?_append_left hi] at hy
      exact ⟨(h.kk i y hy).1, (h.kk i y hy).2.fr hf2 (hno 61 (by decide) (by decide))⟩
    · have hi2 : i < (K ++ [x]).length := (List.getElem?_eq_some_iff.1 hy).1
      rw [List.length_append, List.length_singleton] at hi2
      have hi3 : i = K.length := by omega
      subst hi3
      rw [List.getElem?_append_right (Nat.le_refl _)] at hy
      have hyx : y = x := by simpa using hy.symm
      subst hyx
      exact ⟨hx.1, hx.2.fr hf2 (hno 61 (by decide) (by decide))⟩
end
end Go.Proofs.YthdhegmlknpllaaGreat
