/-
  The walks of nextNumber (44), add (NOTYPE43).
-/
import Derived.Test.YthdhegmlknpllaaGreatIdx
import Derived.Deep.RegionHeld3
import Derived.Deep.AppendLies
namespace Go.Proofs.YthdhegmlknpllaaGreat
open Go.RowKit Go.Maps Go.MuLone

/-- The next guid is new. -/
def Free (s : Sto) : Prop := (∀ x ∈ s.ss, (x.guid == gu s (s.taken + 1)) = false) ∧ ∀ x ∈ s.ms, (x.1 == gu s (s.taken + 1)) = false

set_option maxHeartbeats 800000 in
theorem next_any (B b : Nat) (q : Int) (s : Sto) (w : World) (h : Rep B w b q s) (h1 : 1 ≤ s.id ∧ s.id ≤ 999) (h2 : 0 ≤ s.taken ∧ s.taken ≤ 1000000) (hf : Free s) (l1 : s.ss.length ≤ 1000000) (l2 : s.ms.length ≤ 1000000) :
    Calls Tryz.prog 61 #[.pointer (some ⟨b, 0, none⟩)] w fun e w' => e = .returned (.int .i64 (s.taken + 1)) ∧ Fr [] w w' := by
  have HH : Hid (Rep B w b q s) := h
  obtain ⟨c0, c2, c3, c4, c5, c6, c7, c8, c9⟩ := h.cells
  have HG : Hid (∀ W, _) := fun W hW => guidOf_any B b q s (s.taken + 1) W hW h1 ⟨by omega, by omega⟩
  have HS : Hid (∀ W, _) := fun W hW => findSnapshot_any B b q s (gu s (s.taken + 1)) W hW l1
  have HM : Hid (∀ W, _) := fun W hW => findMark_any B b q s (gu s (s.taken + 1)) W hW l2
  have e1 : fi (fun x : Sn => x.guid == gu s (s.taken + 1)) 0 s.ss = -1 := fi_none _ _ hf.1
  have e2 : fi (fun x : Int × Int => x.1 == gu s (s.taken + 1)) 0 s.ms = -1 := fi_none _ _ hf.2
  rw [e1] at HS
  rw [e2] at HM
  obtain ⟨n, hn⟩ : ∃ n, s.taken + 1 = n := ⟨_, rfl⟩
  obtain ⟨g, hg⟩ : ∃ g, gu s n = g := ⟨_, rfl⟩
  have hw : IntKind.i64.wrap (s.taken + 1) = n := by rw [hn]; exact wrap_fit ⟨by omega, by omega⟩
  rw [hn, hg] at HG HS HM
  rw [hn]
  obtain ⟨tk, htk⟩ : ∃ tk, s.taken = tk := ⟨_, rfl⟩
  rw [htk] at c8 hw
  clear h hf e1 e2 hg hn c4 c6 c9 htk
  go_enter Tryz.func61, Tryz.ntmps61
  go_wp2
  refine wp_loop_rounds 1 ?_
  rw [rounds_succ]
  go_wp2_with (first
    | (go_at_call 62; refine (HG.out _ (by first | exact HH2.out.1 | exact HH.out)).mono ?_; rintro e w' ⟨rfl, hw'⟩; have hw' := hw'.symm; subst hw')
    | (go_at_call 65; refine (HS.out _ HH.out).mono ?_; rintro e w2 ⟨rfl, hfr⟩; have HH2 : Hid (Rep B w2 b q s ∧ Fr [] w w2) := ⟨HH.out.kept0 hfr, hfr⟩; clear hfr)
    | (go_at_call 69; refine (HM.out _ HH2.out.1).mono ?_; rintro e w3 ⟨rfl, hfr⟩; have HH3 : Hid (Fr [] w w3) := HH2.out.2.trans hfr (by simp); clear hfr))
  go_ret
  exact ⟨rfl, HH3.out⟩

/-- A store with a snapshot more. -/
def Sto.add (s : Sto) (g t : Int) (sv : Value) : Sto :=
  { s with
    came := s.came + 1
    ss := s.ss ++ [⟨g, t, 0, s.came + 1⟩]
    th := fun g' i => if g' = g ∧ 0 ≤ i ∧ i < s.vol.length then s.vol.getD i.toNat Ct.zero else s.th g' i
    cnt := s.cnt + s.vol.length
    sv := sv }

theorem info102 : (Tryz.prog.info? 119).map (fun i => (i.zero, i.size, i.bytes)) = some (some (.agg #[.int .i64 0, .int .i64 0, .int .i64 0, .int .i64 0]), 4, 32) := by kernel_rfl

/-- Behind the append: the block is new where it was none before. -/
theorem Rep.appended {B : Nat} {w w' : World} {b : Nat} {q : Int} {s : Sto} (h : Rep B w b q s) {x : Sn} {sv : Value} (ho : w'.ownsRow B 119 4 sv (s.ss.length + 1) (snC s.ss ++ x.cells)) (hg : w.grownBy w' s.sv.ownBlock) :
    Rep B (w'.setCell ⟨b, 4, none⟩ sv) b q { s with ss := s.ss ++ [x], sv := sv } := by
  obtain ⟨a1, a2, a3, a4, a5, a6⟩ := h.apart
  have hb : w'.heap[b]? = some (s.blk q) := by rw [hg.block b (h.lt b (by simp [foot])).2 (fun e => (a4 b e.symm).1 rfl)]; exact h.blk
  have hsb : ∀ k, sv.ownBlock = some k → k ≠ b := fun k hk e => by
    obtain ⟨_, cur, h4⟩ := own_tag ho hk
    rw [e, hb] at h4
    simp [Sto.blk] at h4
  have e1 : snC (s.ss ++ [x]) = snC s.ss ++ x.cells := by simp [snC]
  refine ⟨?_, ?_, ?_, ?_, ?_, ?_, h.hb, h.hvb, h.hmb⟩
  · rw [heap_setCell_same w' b 4 _ _ _ hb]; rfl
  · rw [heap_setCell_other _ _ _ _ (by exact a1), hg.block s.vb (h.lt s.vb (by simp [foot])).2 (fun e => (a4 s.vb e.symm).2.1 rfl)]; exact h.vol
  · refine own_of_block (w := w') ?_ (fun k hk => heap_setCell_other _ _ _ _ (hsb k hk))
    show w'.ownsRow B 119 4 sv (s.ss ++ [x]).length (snC (s.ss ++ [x]))
    rw [e1, List.length_append]
    exact ho
  · refine h.th.of_block ?_
    rw [heap_setCell_other _ _ _ _ (by exact a2), hg.block s.mb (h.lt s.mb (by simp [foot])).2 (fun e => (a4 s.mb e.symm).2.2.1 rfl)]
  · refine own_of_block h.ms (fun k hk => ?_)
    rw [heap_setCell_other _ _ _ _ (a5 k hk).1, hg.block k (h.ms.lt k hk).2 (fun e => (a4 k e.symm).2.2.2 hk)]
  · refine own_of_block h.lg (fun k hk => ?_)
    rw [heap_setCell_other _ _ _ _ (a6 k hk).1, hg.block k (h.lg.lt k hk).2 (fun e => (a6 k hk).2.2.2.1 e.symm)]

theorem Rep.setCame {B : Nat} {w : World} {b : Nat} {q : Int} {s : Sto} (h : Rep B w b q s) (z : Int) : Rep B (w.setCell ⟨b, 7, none⟩ (.int .i64 z)) b q { s with came := z } := by
  obtain ⟨a1, a2, a3, a4, a5, a6⟩ := h.apart
  refine ⟨?_, ?_, ?_, ?_, ?_, ?_, h.hb, h.hvb, h.hmb⟩
  · rw [heap_setCell_same w b 7 _ _ _ h.blk]; rfl
  · rw [heap_setCell_other _ _ _ _ (by exact a1)]; exact h.vol
  · exact own_of_block h.ss (fun k hk => heap_setCell_other _ _ _ _ (a4 k hk).1)
  · exact h.th.of_block (heap_setCell_other _ _ _ _ (by exact a2))
  · exact own_of_block h.ms (fun k hk => heap_setCell_other _ _ _ _ (a5 k hk).1)
  · exact own_of_block h.lg (fun k hk => heap_setCell_other _ _ _ _ (a6 k hk).1)
theorem Rep.setTaken {B : Nat} {w : World} {b : Nat} {q : Int} {s : Sto} (h : Rep B w b q s) (z : Int) : Rep B (w.setCell ⟨b, 8, none⟩ (.int .i64 z)) b q { s with taken := z } := by
  obtain ⟨a1, a2, a3, a4, a5, a6⟩ := h.apart
  refine ⟨?_, ?_, ?_, ?_, ?_, ?_, h.hb, h.hvb, h.hmb⟩
  · rw [heap_setCell_same w b 8 _ _ _ h.blk]; rfl
  · rw [heap_setCell_other _ _ _ _ (by exact a1)]; exact h.vol
  · exact own_of_block h.ss (fun k hk => heap_setCell_other _ _ _ _ (a4 k hk).1)
  · exact h.th.of_block (heap_setCell_other _ _ _ _ (by exact a2))
  · exact own_of_block h.ms (fun k hk => heap_setCell_other _ _ _ _ (a5 k hk).1)
  · exact own_of_block h.lg (fun k hk => heap_setCell_other _ _ _ _ (a6 k hk).1)

/-- An entry of the map is stored. -/
theorem Rep.put {B : Nat} {w : World} {b : Nat} {q : Int} {s : Sto} (h : Rep B w b q s) (hn : s.cnt < maxLen) {g i : Int} (hg : In64 g) (hi : In64 i) (x : Ct) :
    ∃ w', (Instr.mapUpdate 64 (.map (some s.mb)) (.agg #[.int .i64 g, .int .i64 i]) x.val).run Tryz.prog w = .ok () w' ∧ Rep B w' b q { s with th := fun g' i' => if g' = g ∧ i' = i then x else s.th g' i', cnt := s.cnt + 1 } ∧ w.grownBy w' (some s.mb) ∧ w.drawn = w'.drawn := by
  obtain ⟨a1, a2, a3, a4, a5, a6⟩ := h.apart
  obtain ⟨D, hD, hr⟩ := h.th
  obtain ⟨w', h1, h2, h3⟩ := hD.store law118 Tryz.underlying64 hn (key_mk hg hi) (show RV x.val = some (.held x.val, []) from rfl)
  have hgr := h3.grown
  refine ⟨w', h1, ⟨?_, ?_, ?_, ⟨_, h2, ?_⟩, ?_, ?_, h.hb, h.hvb, h.hmb⟩, hgr, ?_⟩
  · rw [hgr.block b (h.lt b (by simp [foot])).2 (by simpa using Ne.symm a2)]; exact h.blk
  · rw [hgr.block s.vb (h.lt s.vb (by simp [foot])).2 (by simpa using Ne.symm a3)]; exact h.vol
  · exact own_of_block h.ss (fun k hk => hgr.block k (h.ss.lt k hk).2 (by simpa using (a4 k hk).2.2.1))
  · intro g' i' hg' hi'
    by_cases e : g' = g ∧ i' = i
    · obtain ⟨rfl, rfl⟩ := e
      rw [atKey_put_same hD.isMap (law118.key (key_mk hg hi))]
      simp
    · rw [atKey_put_other (fun e' => e (kl_inj hg' hi' hg hi e'))]
      simp only [if_neg e]
      exact hr g' i' hg' hi'
  · exact own_of_block h.ms (fun k hk => hgr.block k (h.ms.lt k hk).2 (by simpa using (a5 k hk).2.2))
  · exact own_of_block h.lg (fun k hk => hgr.block k (h.lg.lt k hk).2 (by simpa using (a6 k hk).2.2.1))
  · obtain ⟨_, _, _, _, _, rfl⟩ := h3
    rfl

end Go.Proofs.YthdhegmlknpllaaGreat
