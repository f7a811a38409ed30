import Derived.Test.YthdhegmlknpllaaGreatM03
import Derived.Deep.RegionHeld3
import Derived.Deep.AppendLies
import Derived.Deep.LoopGhost
import Derived.Deep.RegionLaw
import Derived.BigRegion
import Derived.Carry
namespace Go.Proofs.YthdhegmlknpllaaGreat
open Go.RowKit Go.Maps Go.MuLone
def Hs (s : Sto) (g : Int) : Bool := s.ss.any (fun x => x.guid == g) || s.ms.any (fun x => x.1 == g)
structure Nxt (s : Sto) (n : Int) : Prop where
 lo : s.taken < n
 hi : n ≤ s.taken + 25
 no : ∀ k, s.taken < k → k < n → Hs s (gu s k) = true
 yes : Hs s (gu s n) = false
theorem Nxt.free {s : Sto} {n : Int} (h : Nxt s n) : (∀ x ∈ s.ss, (x.guid == gu s n) = false) ∧ ∀ x ∈ s.ms, (x.1 == gu s n) = false := by
 have := h.yes
 unfold Hs at this
 rw [Bool.or_eq_false_iff, List.any_eq_false, List.any_eq_false] at this
 exact ⟨fun x hx => by simpa using this.1 x hx, fun x hx => by simpa using this.2 x hx⟩
set_option maxRecDepth 100000 in
set_option maxHeartbeats 4800000 in
theorem next_any (B b : Nat) (q : Int) (s : Sto) (n : Int) (w : World) (h : Rep B w b q s) (h1 : 1 ≤ s.id ∧ s.id ≤ 999) (h2 : 0 ≤ s.taken ∧ s.taken ≤ 1000000) (hf : Nxt s n) (l1 : s.ss.length ≤ 1000000) (l2 : s.ms.length ≤ 1000000) :
  Calls Tryz.prog 61 #[.pointer (some ⟨b, 0, none⟩)] w fun e w' => e = .returned (.int .i64 n) ∧ Fr [] w w' := by
 have HH : Hid (Rep B w b q s ∧ Nxt s n) := ⟨h, hf⟩
 obtain ⟨c0, c2, c3, c4, c5, c6, c7, c8, c9⟩ := h.cells
 have hlo := hf.lo
 have hhi := hf.hi
 have HG : Hid (∀ k W, s.taken < k → k ≤ n → Rep B W b q s → Calls Tryz.prog 62 #[.pointer (some ⟨b, 0, none⟩), .int .i64 k] W fun e w' => e = .returned (.int .i64 (gu s k)) ∧ w' = W) := fun k W _ _ hW => guidOf_any B b q s k W hW h1 ⟨by omega, by omega⟩
 have HS : Hid (∀ g W, Rep B W b q s → Calls Tryz.prog 65 #[.pointer (some ⟨b, 0, none⟩), .int .i64 g] W fun e w' => e = .returned (.int .i64 (fi (fun x : Sn => x.guid == g) 0 s.ss)) ∧ Fr [] W w') := fun g W hW => findSnapshot_any B b q s g W hW l1
 have HM : Hid (∀ g W, Rep B W b q s → Calls Tryz.prog 69 #[.pointer (some ⟨b, 0, none⟩), .int .i64 g] W fun e w' => e = .returned (.int .i64 (fi (fun x : Int × Int => x.1 == g) 0 s.ms)) ∧ Fr [] W w') := fun g W hW => findMark_any B b q s g W hW l2
 obtain ⟨tk, htk⟩ : ∃ tk, s.taken = tk := ⟨_, rfl⟩
 rw [htk] at c8 hlo hhi h2 HG
 have hw : IntKind.i64.wrap (tk + 1) = tk + 1 := wrap_fit ⟨by omega, by omega⟩
 have HTK : Hid (s.taken = tk) := htk
 clear h hf c4 c6 c9 htk
 go_enter Tryz.func61, Tryz.ntmps61
 go_wp2
 go_loopw [3] (fun i wr => ∃ k : Int, (tk < k ∧ k ≤ n) ∧ i = .int .i64 k ∧ Hid (Fr [] w wr)) (fun i _ => (n - intOf i).toNat)
 case atStart => exact ⟨tk + 1, ⟨by omega, by omega⟩, rfl, Fr.refl _ _⟩
 case round =>
  obtain ⟨k, ⟨hk1, hk2⟩, rfl, HF⟩ := hrel
  obtain ⟨W3, hW3⟩ : ∃ W3, W3 = wr := ⟨_, rfl⟩
  subst hW3
  have HH1 : Hid (Rep B W3 b q s) := HH.out.1.kept0 HF.out
  have HGk : Hid (∀ W, Rep B W b q s → Calls Tryz.prog 62 #[.pointer (some ⟨b, 0, none⟩), .int .i64 k] W fun e w' => e = .returned (.int .i64 (gu s k)) ∧ w' = W) := fun W hW => HG.out k W hk1 hk2 hW
  have HSk : Hid (∀ W, Rep B W b q s → Calls Tryz.prog 65 #[.pointer (some ⟨b, 0, none⟩), .int .i64 (gu s k)] W fun e w' => e = .returned (.int .i64 (fi (fun x : Sn => x.guid == gu s k) 0 s.ss)) ∧ Fr [] W w') := HS.out (gu s k)
  have HMk : Hid (∀ W, Rep B W b q s → Calls Tryz.prog 69 #[.pointer (some ⟨b, 0, none⟩), .int .i64 (gu s k)] W fun e w' => e = .returned (.int .i64 (fi (fun x : Int × Int => x.1 == gu s k) 0 s.ms)) ∧ Fr [] W w') := HM.out (gu s k)
  have hcs : (∃ j : Nat, fi (fun x : Sn => x.guid == gu s k) 0 s.ss = (j : Int)) ∨ (fi (fun x : Sn => x.guid == gu s k) 0 s.ss = -1 ∧ ((∃ j : Nat, fi (fun x : Int × Int => x.1 == gu s k) 0 s.ms = (j : Int)) ∨ fi (fun x : Int × Int => x.1 == gu s k) 0 s.ms = -1)) := by
   by_cases e1 : ∃ x ∈ s.ss, (x.guid == gu s k) = true
   · obtain ⟨j, _, e, _⟩ := fi_some (p := fun x : Sn => x.guid == gu s k) s.ss 0 e1
     exact Or.inl ⟨j, by simpa using e⟩
   · refine Or.inr ⟨fi_none _ _ (fun x hx => by cases hp : (x.guid == gu s k); rfl; exact absurd ⟨x, hx, hp⟩ e1), ?_⟩
     by_cases e2 : ∃ x ∈ s.ms, (x.1 == gu s k) = true
     · obtain ⟨j, _, e, _⟩ := fi_some (p := fun x : Int × Int => x.1 == gu s k) s.ms 0 e2
       exact Or.inl ⟨j, by simpa using e⟩
     · exact Or.inr (fi_none _ _ (fun x hx => by cases hp : (x.1 == gu s k); rfl; exact absurd ⟨x, hx, hp⟩ e2))
  have HEQ : Hid ((∃ j : Nat, fi (fun x : Sn => x.guid == gu s k) 0 s.ss = (j : Int)) ∨ (∃ j : Nat, fi (fun x : Int × Int => x.1 == gu s k) 0 s.ms = (j : Int)) → k < n) := fun e => by
   rcases Int.lt_or_eq_of_le hk2 with e2 | e2
   · exact e2
   · exfalso
     subst e2
     have h1 := HH.out.2.free
     rcases e with ⟨j, e⟩ | ⟨j, e⟩
     · rw [fi_none _ _ h1.1] at e
       omega
     · rw [fi_none _ _ h1.2] at e
       omega
  have HNE : Hid (fi (fun x : Sn => x.guid == gu s k) 0 s.ss = -1 → fi (fun x : Int × Int => x.1 == gu s k) 0 s.ms = -1 → k = n) := fun e1 e2 => by
   rcases Int.lt_or_eq_of_le hk2 with e3 | e3
   · exfalso
     have h1 := HH.out.2.no k (by rw [HTK.out]; exact hk1) e3
     unfold Hs at h1
     rw [Bool.or_eq_true, List.any_eq_true, List.any_eq_true] at h1
     rcases h1 with h1 | h1
     · obtain ⟨j, _, e, _⟩ := fi_some (p := fun x : Sn => x.guid == gu s k) s.ss 0 h1
       rw [e1] at e
       omega
     · obtain ⟨j, _, e, _⟩ := fi_some (p := fun x : Int × Int => x.1 == gu s k) s.ms 0 h1
       rw [e2] at e
       omega
   · exact e3
  obtain ⟨g, hg⟩ : ∃ g, gu s k = g := ⟨_, rfl⟩
  rw [hg] at HGk HSk HMk hcs HEQ HNE
  clear hg
  have hwk : IntKind.i64.wrap (k + 1) = k + 1 := wrap_fit ⟨by omega, by omega⟩
  rcases hcs with ⟨j, ej⟩ | ⟨e1, ⟨j, ej⟩ | e2⟩
  · have hlt := HEQ.out (Or.inl ⟨j, ej⟩)
    rw [ej] at HSk
    clear ej HEQ HNE
    go_wp2_with (first
     | (go_at_call 62; refine (HGk.out _ HH1.out).mono ?_; rintro e w' ⟨rfl, hw'⟩; have hw' := hw'.symm; subst hw')
     | (go_at_call 65; refine (HSk.out _ HH1.out).mono ?_; rintro e w2 ⟨rfl, hfr⟩; have HH2 : Hid (Rep B w2 b q s ∧ Fr [] w w2) := ⟨HH1.out.kept0 hfr, HF.out.trans hfr (by simp)⟩; clear hfr))
    go_roundw
    case rel => exact ⟨k + 1, ⟨by omega, by omega⟩, rfl, HH2.out.2⟩
    case measure => simp [intOf]; omega
  · have hlt := HEQ.out (Or.inr ⟨j, ej⟩)
    rw [e1] at HSk
    rw [ej] at HMk
    clear ej HEQ HNE e1
    go_wp2_with (first
     | (go_at_call 69; refine (HMk.out _ HH2.out.1).mono ?_; rintro e w3 ⟨rfl, hfr⟩; have HH3 : Hid (Fr [] w w3) := HH2.out.2.trans hfr (by simp); clear hfr)
     | (go_at_call 62; refine (HGk.out _ (by first | exact HH2.out.1 | exact HH1.out)).mono ?_; rintro e w' ⟨rfl, hw'⟩; have hw' := hw'.symm; subst hw')
     | (go_at_call 65; refine (HSk.out _ HH1.out).mono ?_; rintro e w2 ⟨rfl, hfr⟩; have HH2 : Hid (Rep B w2 b q s ∧ Fr [] w w2) := ⟨HH1.out.kept0 hfr, HF.out.trans hfr (by simp)⟩; clear hfr))
    go_roundw
    case rel => exact ⟨k + 1, ⟨by omega, by omega⟩, rfl, HH3.out⟩
    case measure => simp [intOf]; omega
  · have hkn := HNE.out e1 e2
    have HKN : Hid (k = n) := hkn
    clear hkn
    rw [e1] at HSk
    rw [e2] at HMk
    clear e1 e2 HEQ HNE
    go_wp2_with (first
     | (go_at_call 69; refine (HMk.out _ HH2.out.1).mono ?_; rintro e w3 ⟨rfl, hfr⟩; have HH3 : Hid (Fr [] w w3) := HH2.out.2.trans hfr (by simp); clear hfr)
     | (go_at_call 62; refine (HGk.out _ (by first | exact HH2.out.1 | exact HH1.out)).mono ?_; rintro e w' ⟨rfl, hw'⟩; have hw' := hw'.symm; subst hw')
     | (go_at_call 65; refine (HSk.out _ HH1.out).mono ?_; rintro e w2 ⟨rfl, hfr⟩; have HH2 : Hid (Rep B w2 b q s ∧ Fr [] w w2) := ⟨HH1.out.kept0 hfr, HF.out.trans hfr (by simp)⟩; clear hfr))
    go_ret
    have hkn := HKN.out
    subst hkn
    exact ⟨rfl, HH3.out⟩
def Sto.add (s : Sto) (g t : Int) (sv : Value) : Sto :=
 { s with
  came := s.came + 1
  ss := s.ss ++ [⟨g, t, 0, s.came + 1⟩]
  th := fun g' i => if g' = g ∧ 0 ≤ i ∧ i < s.vol.length then s.vol.getD i.toNat Ct.zero else s.th g' i
  cnt := s.cnt + s.vol.length
  sv := sv }
theorem info102 : (Tryz.prog.info? 119).map (fun i => (i.zero, i.size, i.bytes)) = some (some (.agg #[.int .i64 0, .int .i64 0, .int .i64 0, .int .i64 0]), 4, 32) := by kernel_rfl
theorem Rep.appended {B : Nat} {w w' : World} {b : Nat} {q : Int} {s : Sto} (h : Rep B w b q s) {x : Sn} {sv : Value} (ho : w'.ownsRow B 119 4 sv (s.ss.length + 1) (snC s.ss ++ x.cells)) (hg : w.grownBy w' s.sv.ownBlock) :
  Rep B (w'.setCell ⟨b, 4, none⟩ sv) b q { s with ss := s.ss ++ [x], sv := sv } := by
 obtain ⟨a1, a2, a3, a4, a5, a6⟩ := h.apart
 have hb : w'.heap[b]? = some (s.blk q) := by rw [hg.block b (h.lt b (by simp [foot])).2 (fun e => (a4 b e.symm).1 rfl)]; exact h.blk
 have hsb : ∀ k, sv.ownBlock = some k → k ≠ b := fun k hk e => by
  obtain ⟨_, cur, h4⟩ := own_tag ho hk
  rw [e, hb] at h4
  simp [Sto.blk] at h4
 have e1 : snC (s.ss ++ [x]) = snC s.ss ++ x.cells := by simp [snC]
 refine ⟨?_, ?_, ?_, ?_, ?_, ?_, h.hb, h.hvb, h.hmb⟩
 · rw [heap_setCell_same w' b 4 _ _ _ hb]; rfl
 · rw [heap_setCell_other _ _ _ _ (by exact a1), hg.block s.vb (h.lt s.vb (by simp [foot])).2 (fun e => (a4 s.vb e.symm).2.1 rfl)]; exact h.vol
 · refine own_of_block (w := w') ?_ (fun k hk => heap_setCell_other _ _ _ _ (hsb k hk))
   show w'.ownsRow B 119 4 sv (s.ss ++ [x]).length (snC (s.ss ++ [x]))
   rw [e1, List.length_append]
   exact ho
 · refine h.th.of_block ?_
   rw [heap_setCell_other _ _ _ _ (by exact a2), hg.block s.mb (h.lt s.mb (by simp [foot])).2 (fun e => (a4 s.mb e.symm).2.2.1 rfl)]
 · refine own_of_block h.ms (fun k hk => ?_)
   rw [heap_setCell_other _ _ _ _ (a5 k hk).1, hg.block k (h.ms.lt k hk).2 (fun e => (a4 k e.symm).2.2.2 hk)]
 · refine own_of_block h.lg (fun k hk => ?_)
   rw [heap_setCell_other _ _ _ _ (a6 k hk).1, hg.block k (h.lg.lt k hk).2 (fun e => (a6 k hk).2.2.2.1 e.symm)]
theorem Rep.setCame {B : Nat} {w : World} {b : Nat} {q : Int} {s : Sto} (h : Rep B w b q s) (z : Int) : Rep B (w.setCell ⟨b, 7, none⟩ (.int .i64 z)) b q { s with came := z } := by
 obtain ⟨a1, a2, a3, a4, a5, a6⟩ := h.apart
 refine ⟨?_, ?_, ?_, ?_, ?_, ?_, h.hb, h.hvb, h.hmb⟩
 · rw [heap_setCell_same w b 7 _ _ _ h.blk]; rfl
 · rw [heap_setCell_other _ _ _ _ (by exact a1)]; exact h.vol
 · exact own_of_block h.ss (fun k hk => heap_setCell_other _ _ _ _ (a4 k hk).1)
 · exact h.th.of_block (heap_setCell_other _ _ _ _ (by exact a2))
 · exact own_of_block h.ms (fun k hk => heap_setCell_other _ _ _ _ (a5 k hk).1)
 · exact own_of_block h.lg (fun k hk => heap_setCell_other _ _ _ _ (a6 k hk).1)
theorem Rep.setTaken {B : Nat} {w : World} {b : Nat} {q : Int} {s : Sto} (h : Rep B w b q s) (z : Int) : Rep B (w.setCell ⟨b, 8, none⟩ (.int .i64 z)) b q { s with taken := z } := by
 obtain ⟨a1, a2, a3, a4, a5, a6⟩ := h.apart
 refine ⟨?_, ?_, ?_, ?_, ?_, ?_, h.hb, h.hvb, h.hmb⟩
 · rw [heap_setCell_same w b 8 _ _ _ h.blk]; rfl
 · rw [heap_setCell_other _ _ _ _ (by exact a1)]; exact h.vol
 · exact own_of_block h.ss (fun k hk => heap_setCell_other _ _ _ _ (a4 k hk).1)
 · exact h.th.of_block (heap_setCell_other _ _ _ _ (by exact a2))
 · exact own_of_block h.ms (fun k hk => heap_setCell_other _ _ _ _ (a5 k hk).1)
 · exact own_of_block h.lg (fun k hk => heap_setCell_other _ _ _ _ (a6 k hk).1)
theorem Rep.put {B : Nat} {w : World} {b : Nat} {q : Int} {s : Sto} (h : Rep B w b q s) (hn : s.cnt < maxLen) {g i : Int} (hg : In64 g) (hi : In64 i) (x : Ct) :
  ∃ w', (Instr.mapUpdate 64 (.map (some s.mb)) (.agg #[.int .i64 g, .int .i64 i]) x.val).run Tryz.prog w = .ok () w' ∧ Rep B w' b q { s with th := fun g' i' => if g' = g ∧ i' = i then x else s.th g' i', cnt := s.cnt + 1 } ∧ w.grownBy w' (some s.mb) ∧ w.drawn = w'.drawn := by
 obtain ⟨a1, a2, a3, a4, a5, a6⟩ := h.apart
 obtain ⟨D, hD, hr⟩ := h.th
 obtain ⟨w', h1, h2, h3⟩ := hD.store law118 Tryz.underlying64 hn (key_mk hg hi) (show RV x.val = some (.held x.val, []) from rfl)
 have hgr := h3.grown
 refine ⟨w', h1, ⟨?_, ?_, ?_, ⟨_, h2, ?_⟩, ?_, ?_, h.hb, h.hvb, h.hmb⟩, hgr, ?_⟩
 · rw [hgr.block b (h.lt b (by simp [foot])).2 (by simpa using Ne.symm a2)]; exact h.blk
 · rw [hgr.block s.vb (h.lt s.vb (by simp [foot])).2 (by simpa using Ne.symm a3)]; exact h.vol
 · exact own_of_block h.ss (fun k hk => hgr.block k (h.ss.lt k hk).2 (by simpa using (a4 k hk).2.2.1))
 · intro g' i' hg' hi'
   by_cases e : g' = g ∧ i' = i
   · obtain ⟨rfl, rfl⟩ := e
     rw [atKey_put_same hD.isMap (law118.key (key_mk hg hi))]
     simp
   · rw [atKey_put_other (fun e' => e (kl_inj hg' hi' hg hi e'))]
     simp only [if_neg e]
     exact hr g' i' hg' hi'
 · exact own_of_block h.ms (fun k hk => hgr.block k (h.ms.lt k hk).2 (by simpa using (a5 k hk).2.2))
 · exact own_of_block h.lg (fun k hk => hgr.block k (h.lg.lt k hk).2 (by simpa using (a6 k hk).2.2.1))
 · obtain ⟨_, _, _, _, _, rfl⟩ := h3
   rfl
def thK (s : Sto) (g : Int) (k : Nat) : Int → Int → Ct := fun g' i => if g' = g ∧ 0 ≤ i ∧ i < k then s.vol.getD i.toNat Ct.zero else s.th g' i
theorem thK_zero (s : Sto) (g : Int) : thK s g 0 = s.th := by
 funext g' i
 unfold thK
 rw [if_neg (by omega)]
theorem thK_succ (s : Sto) (g : Int) (k : Nat) (hk : k < s.vol.length) : (fun g' i' => if g' = g ∧ i' = (k : Int) then s.vol[k] else thK s g k g' i') = thK s g (k + 1) := by
 funext g' i
 unfold thK
 by_cases h1 : g' = g ∧ i = (k : Int)
 · rw [if_pos h1, if_pos (by omega)]
   obtain ⟨_, rfl⟩ := h1
   simp [hk]
 · rw [if_neg h1]
   by_cases h2 : g' = g ∧ 0 ≤ i ∧ i < (k : Int)
   · rw [if_pos h2, if_pos (by omega)]
   · rw [if_neg h2, if_neg (by omega)]
def Sto.mid (s : Sto) (g t : Int) (sv : Value) (k : Nat) : Sto :=
 { s with
  came := s.came + 1
  ss := s.ss ++ [⟨g, t, 0, s.came + 1⟩]
  th := thK s g k
  cnt := s.cnt + k
  sv := sv }
theorem froz_alloc {w : World} {o : Obj} {b j : Nat} (hb : b < w.heap.size) (h : w.frozen? ⟨b, j, none⟩ = false) : (w.alloc o).drew.frozen? ⟨b, j, none⟩ = false := by
 rw [show (w.alloc o).drew.frozen? ⟨b, j, none⟩ = (w.alloc o).frozen? ⟨b, j, none⟩ from rfl, World.frozen?_of_block (Below.heap_alloc w o b hb)]
 exact h
set_option maxRecDepth 100000 in
set_option maxHeartbeats 1600000 in
theorem add_any (B b : Nat) (q : Int) (s : Sto) (g t : Int) (w : World) (h : Rep B w b q s) (hs : s.ss.length < 12) (hc : 0 ≤ s.came ∧ s.came ≤ 1000000000000) (hv : s.vol.length ≤ 16) (hcnt : s.cnt + s.vol.length < maxLen) (hg : In64 g) :
  Calls Tryz.prog 63 #[.pointer (some ⟨b, 0, none⟩), .int .i64 g, .int .i64 t] w fun e w' => e = .returned (.tuple #[]) ∧ ∃ sv, Rep B w' b q (s.add g t sv) ∧ Fr (foot b s) w w' ∧ (∀ k, sv.ownBlock = some k → s.sv.ownBlock = some k ∨ w.heap.size ≤ k) := by
 obtain ⟨i0, hi, hz0, hz1, hz2⟩ := info_parts info102
 obtain ⟨c0, c2, c3, c4, c5, c6, c7, c8, c9⟩ := h.cells
 have R1 := h.setCame (s.came + 1)
 obtain ⟨w1, hw1⟩ : ∃ w1, w.setCell ⟨b, 7, none⟩ (.int .i64 (s.came + 1)) = w1 := ⟨_, rfl⟩
 rw [hw1] at R1
 have F1 : Fr (foot b s) w w1 := by rw [← hw1]; exact (Fr.refl _ _).setCell _ (Or.inl (by simp [foot]))
 obtain ⟨d0, d2, d3, d4, d5, d6, d7, d8, d9⟩ := R1.cells
 have f4 := R1.frozen 4
 have f7 := h.frozen 7
 have e1 : IntKind.i64.wrap (s.came + 1) = s.came + 1 := wrap_fit ⟨by omega, by omega⟩
 have lb := World.block_lt_of_cell? _ _ d4
 have lb' : b < w1.heap.size := lb
 have hBw : B ≤ w1.heap.size := by have := h.hb; omega
 have HO : Hid (w1.ownsRow B 119 4 s.sv s.ss.length (snC s.ss)) := R1.ss
 have hne : s.sv.ownBlock ≠ some b := fun e => (h.apart.2.2.2.1 b e).1 rfl
 obtain ⟨ao, cap, hsv⟩ := own_shape h.ss
 have HR : Hid (Rep B w1 b q { s with came := s.came + 1 } ∧ Fr (foot b s) w w1 ∧ w.setCell ⟨b, 7, none⟩ (.int .i64 (s.came + 1)) = w1) := ⟨R1, F1, hw1⟩
 have hw1' : w.setCell ⟨b, 7, none⟩ (.int .i64 (s.came + 1)) = w1 := hw1
 rw [hsv] at HO hne
 simp only [hsv] at c4 d4
 clear R1 F1 hw1 c6 d6 c9 d9 h
 go_enter Tryz.func63, Tryz.ntmps63
 go_wp2
 go_region_law
  ((refine step_append_lies _ (by rfl) _ _ _ (by rfl) B 119 i0 _ 4 32 Tryz.underlying72 hi hz0 hz1 hz2 rfl (by omega) (.slice ao s.ss.length cap) s.ss.length (snC s.ss) (by rfl) ((HO.out.alloc _).drew) ⟨w1.heap.size, 0, none⟩ 1 1 [.int .i64 g, .int .i64 t, .int .i64 0, .int .i64 (s.came + 1)] (by rfl) (by rfl) (World.news_of_block (cs := #[.int .i64 g, .int .i64 t, .int .i64 0, .int .i64 (s.came + 1)]) (t := 119) (fr := (0, 0)) (heap_alloc_new w1 _)) (by simp [Value.oneCell']) (by omega) (by unfold maxLen; omega) (by omega) (by simp; omega) (w1.heap.size + 1) (by simp) ?_; intro gg cap1 w9 hown9 hgrow hat hlt9; have f9 : w9.frozen? ⟨b, 4, none⟩ = false := (hgrow.frozen_far ⟨b, 4, none⟩ (by simp; omega) (Ne.symm hne)).trans (froz_alloc lb' f4); have c9 : w9.cell? ⟨b, 4, none⟩ = some (.slice ao s.ss.length cap) := (hgrow.cell_far ⟨b, 4, none⟩ (by simp; omega) (Ne.symm hne)).trans ((World.cell?_of_block (Below.heap_alloc w1 _ b lb')).trans d4)))
 all_goals
  have HR9 : Hid (Rep B (w9.setCell ⟨b, 4, none⟩ (.slice (some ⟨gg, 0, none⟩) (s.ss.length + 1) cap1)) b q (s.mid g t (.slice (some ⟨gg, 0, none⟩) (s.ss.length + 1) cap1) 0) ∧ Fr (foot b s) w (w9.setCell ⟨b, 4, none⟩ (.slice (some ⟨gg, 0, none⟩) (s.ss.length + 1) cap1))) := by
   have R2 := HR.out.1.kept0 ((Fr.refl _ _).alloc (.cells #[.int .i64 g, .int .i64 t, .int .i64 0, .int .i64 (s.came + 1)] 119)).drew
   have R3 := R2.appended (x := ⟨g, t, 0, s.came + 1⟩) hown9 (by rw [show ({ s with came := s.came + 1 } : Sto).sv = s.sv from rfl, hsv]; exact hgrow)
   refine ⟨?_, ?_⟩
   · have e : s.mid g t (.slice (some ⟨gg, 0, none⟩) (s.ss.length + 1) cap1) 0 = { s with came := s.came + 1, ss := s.ss ++ [⟨g, t, 0, s.came + 1⟩], sv := .slice (some ⟨gg, 0, none⟩) (s.ss.length + 1) cap1 } := by
       unfold Sto.mid
       rw [thK_zero]
       rfl
     rw [e]
     exact R3
   · refine Fr.setCell ?_ _ (Or.inl (by simp [foot]))
     refine (HR.out.2.1.alloc _).drew.grown hgrow (fun k hk => Or.inl ?_)
     simp [foot, hsv, hk]
  have HAT : Hid (∀ k, (Value.slice (some ⟨gg, 0, none⟩) (s.ss.length + 1) cap1).ownBlock = some k → s.sv.ownBlock = some k ∨ w.heap.size ≤ k) := by
   intro k hk
   have hk' : gg = k := by simpa [Value.ownBlock] using hk
   subst hk'
   rcases hat with h | h
   · left; rw [hsv]; exact h
   · right
     have := HR.out.2.1.size
     omega
  obtain ⟨sv, hsv9⟩ : ∃ sv, Value.slice (some ⟨gg, 0, none⟩) (s.ss.length + 1) cap1 = sv := ⟨_, rfl⟩
  obtain ⟨W9, hW9⟩ : ∃ W9, w9.setCell ⟨b, 4, none⟩ (.slice (some ⟨gg, 0, none⟩) (s.ss.length + 1) cap1) = W9 := ⟨_, rfl⟩
  rw [hW9, hsv9] at HR9
  rw [hsv9] at HAT
  rw [hW9]
  clear hsv9 hown9 hgrow hat hlt9 f9 c9 hW9 HO HR d0 d2 d3 d4 d5 d7 d8 c0 c2 c3 c4 c5 c7 c8 f4 f7 hw1' e1
  have k3 : W9.cell? ⟨b, 3, none⟩ = some (.slice (some ⟨s.vb, 0, none⟩) s.vol.length s.vol.length) := HR9.out.1.cells.2.2.1
  obtain ⟨n, hn⟩ : ∃ n, s.vol.length = n := ⟨_, rfl⟩
  rw [hn] at k3 hv
  have HN : Hid (s.vol.length = n) := hn
  clear hn
  go_wp2
  go_loopw [37] (fun i wr => ∃ k : Nat, k ≤ n ∧ i = .int .i64 k ∧ Hid (Rep B wr b q (s.mid g t sv k) ∧ Fr (foot b s) w wr)) (fun i _ => n - (intOf i).toNat)
  case atStart => exact ⟨0, Nat.zero_le _, rfl, HR9⟩
  case round =>
   obtain ⟨k, hk, rfl, HK⟩ := hrel
   obtain ⟨W3, hW3⟩ : ∃ W3, W3 = wr := ⟨_, rfl⟩
   subst hW3
   clear HR9 k3
   by_cases hlt : k < n
   · have hlt' : k < s.vol.length := by rw [HN.out]; exact hlt
     have hv4 := vol_at HK.out.1 k hlt'
     obtain ⟨x, hx⟩ : ∃ x, s.vol[k] = x := ⟨_, rfl⟩
     have v0 : W3.cell? ⟨s.vb, k * 5, none⟩ = some (.int .u8 (x.x.a.toNat : Int)) := by rw [← hx]; exact hv4.1
     have v1 : W3.cell? ⟨s.vb, k * 5 + 1, none⟩ = some (.int .u8 (x.x.b.toNat : Int)) := by rw [← hx]; exact hv4.2.1
     have v2 : W3.cell? ⟨s.vb, k * 5 + 2, none⟩ = some (.int .u8 (x.x.c.toNat : Int)) := by rw [← hx]; exact hv4.2.2.1
     have v3 : W3.cell? ⟨s.vb, k * 5 + 3, none⟩ = some (.int .u8 (x.x.d.toNat : Int)) := by rw [← hx]; exact hv4.2.2.2.1
     have v4 : W3.cell? ⟨s.vb, k * 5 + 4, none⟩ = some (.int .i64 x.n) := by rw [← hx]; exact hv4.2.2.2.2
     have j5 : W3.cell? ⟨b, 5, none⟩ = some (.map (some s.mb)) := HK.out.1.cells.2.2.2.2.1
     have lb3 := World.block_lt_of_cell? _ _ j5
     have hltz : (k : Int) < (n : Int) := by omega
     have R4 := (HK.out.1.kept0 ((Fr.refl [] W3).alloc (.cells #[.int .u8 (x.x.a.toNat : Int), .int .u8 (x.x.b.toNat : Int), .int .u8 (x.x.c.toNat : Int), .int .u8 (x.x.d.toNat : Int), .int .i64 x.n] 112)).drew)
     obtain ⟨w8, hp8, hr8, hg8, _⟩ := R4.put (g := g) (i := (k : Int)) (by show s.cnt + k < maxLen; have := HN.out; omega) hg ⟨by omega, by omega⟩ x
     have hp : (Instr.mapUpdate 64 (.map (some s.mb)) (.agg #[.int .i64 g, .int .i64 k]) (.agg #[.int .u8 (x.x.a.toNat : Int), .int .u8 (x.x.b.toNat : Int), .int .u8 (x.x.c.toNat : Int), .int .u8 (x.x.d.toNat : Int), .int .i64 x.n])).run Tryz.prog (W3.alloc (.cells #[.int .u8 (x.x.a.toNat : Int), .int .u8 (x.x.b.toNat : Int), .int .u8 (x.x.c.toNat : Int), .int .u8 (x.x.d.toNat : Int), .int .i64 x.n] 112)).drew = .ok () w8 := hp8
     have HK8 : Hid (Rep B w8 b q (s.mid g t sv (k + 1)) ∧ Fr (foot b s) w w8) := by
      refine ⟨?_, (HK.out.2.alloc _).drew.grown hg8 (fun j hj => Or.inl ?_)⟩
      · have e : s.mid g t sv (k + 1) = { s.mid g t sv k with th := fun g' i' => if g' = g ∧ i' = (k : Int) then x else thK s g k g' i', cnt := s.cnt + k + 1 } := by
          unfold Sto.mid
          rw [← thK_succ s g k hlt', hx]
          rfl
        rw [e]
        exact hr8
      · have : s.mb = j := by
          have e : (s.mid g t sv k).mb = j := by simpa using hj
          exact e
        rw [← this]
        simp [foot]
     clear R4 hp8 hr8 hg8 hv4 hx HK
     go_wp2
     go_region
     go_wp2
     go_roundw
     case rel => exact ⟨k + 1, by omega, by go_num, HK8⟩
     case measure => simp [intOf]; omega
   · have hkk : k = n := by omega
     subst hkk
     go_wp2
     go_end0
     refine ⟨rfl, sv, ?_, HK.out.2, HAT.out⟩
     have := HK.out.1
     rw [← HN.out] at this
     exact this
theorem add_foot {b : Nat} {s : Sto} {g t n : Int} {sv : Value} {N : Nat} (h : ∀ k, sv.ownBlock = some k → s.sv.ownBlock = some k ∨ N ≤ k) {k : Nat} (hk : k ∈ foot b (Sto.add { s with taken := n } g t sv)) : k ∈ foot b s ∨ N ≤ k := by
 simp only [foot, Sto.add, List.mem_append, List.mem_cons, List.not_mem_nil, or_false, Option.mem_toList] at hk ⊢
 rcases hk with ((h1 | h1) | h1) | h1
 · exact Or.inl (Or.inl (Or.inl (Or.inl h1)))
 · exact (h k h1).imp_left (fun h2 => Or.inl (Or.inl (Or.inr h2)))
 · exact Or.inl (Or.inl (Or.inr h1))
 · exact Or.inl (Or.inr h1)
def Sto.snap (s : Sto) (n t : Int) (sv : Value) : Sto := { s with taken := n }.add (gu s n) t sv
set_option maxRecDepth 100000 in
set_option maxHeartbeats 1600000 in
theorem snap_ok (B b : Nat) (s : Sto) (n t : Int) (w : World) (h : Rep B w b 0 s) (ht : 0 ≤ t ∧ t ≤ 1073741824) (h1 : 1 ≤ s.id ∧ s.id ≤ 999) (h2 : 0 ≤ s.taken ∧ n ≤ 999999) (hf : Nxt s n) (hs : s.ss.length < 12) (hm : s.ms.length ≤ 12)
  (hc : 0 ≤ s.came ∧ s.came ≤ 1000000000000) (hv : s.vol.length ≤ 16) (hcnt : s.cnt + s.vol.length < maxLen) (hl : s.log.length ≤ 140000000000000) :
  Calls Tryz.prog 29 #[.pointer (some ⟨b, 0, none⟩), .int .i64 t] w fun e w' => e = .returned (.tuple #[.int .i64 (gu s n), .int .i64 0]) ∧ ∃ sv lv, Rep B w' b 0 ((s.snap n t sv).noted 83 (n4 t).ba lv) ∧ Fr (foot b s) w w' ∧ (∀ k, sv.ownBlock = some k → s.sv.ownBlock = some k ∨ w.heap.size ≤ k) ∧ (∀ k, lv.ownBlock = some k → s.lv.ownBlock = some k ∨ w.heap.size ≤ k) := by
 obtain ⟨w1, hw1, R1⟩ := h.lk
 have HL := lock_free Tryz.muLib ⟨b, 0, none⟩ w h.cells.1 (h.frozen 0)
 have F1 := lkF s hw1
 have HF : Hid (w.setCell ⟨b, 0, none⟩ (.int .i32 1) = w1 ∧ Rep B w1 b 1 s ∧ Fr (foot b s) w w1) := ⟨hw1, R1, F1⟩
 have HN : Hid (Calls Tryz.prog 61 #[.pointer (some ⟨b, 0, none⟩)] w1 fun e w' => e = .returned (.int .i64 n) ∧ Fr [] w1 w') := next_any B b 1 s n w1 R1 h1 ⟨by omega, by have := hf.lo; omega⟩ hf (by omega) (by omega)
 have hlo := hf.lo
 have hG : In64 (gu s n) := by unfold gu; exact ⟨by omega, by omega⟩
 have HG : Hid (∀ W, Rep B W b 1 { s with taken := n } → _) := fun W hW => guidOf_any B b 1 { s with taken := n } n W hW h1 ⟨by omega, by omega⟩
 have HA : Hid (∀ W, Rep B W b 1 { s with taken := n } → _) := fun W hW => add_any B b 1 { s with taken := n } (gu s n) t W hW hs hc hv hcnt hG
 have HU := fun W => number_any t W
 have HNt : Hid (∀ W sv, Rep B W b 1 (Sto.add { s with taken := n } (gu s n) t sv) → _) := fun W sv hW => note_any B b 1 (Sto.add { s with taken := n } (gu s n) t sv) 83 (n4 t).ba W hW (by show 4 ≤ 1000; omega) hl
 obtain ⟨ao, cap, hsv⟩ := own_shape h.ss
 have t1 : decide (t < 0) = false := by simp; omega
 have t2 : decide (t > 1073741824) = false := by simp; omega
 have t3 : ¬ ((12 : Int) ≤ (s.ss.length : Int)) := by omega
 have t4 : ¬ ((1000000 : Int) ≤ n) := by omega
 unfold Sto.snap
 have hgu : gu { s with taken := n } n = gu s n := rfl
 obtain ⟨g, hg⟩ : ∃ g, gu s n = g := ⟨_, rfl⟩
 rw [hgu, hg] at HG
 rw [hg] at HA HNt ⊢
 obtain ⟨ba, hba⟩ : ∃ ba, (n4 t).ba = ba := ⟨_, rfl⟩
 rw [hba] at HNt ⊢
 simp only [hba] at HU
 have HU' : Hid (∀ W, Calls Tryz.prog 22 #[.int .i64 t] W fun e w' => e = .returned (.string ba) ∧ Fr [] W w') := HU
 clear HU hba
 clear h R1 F1 hw1 hf hg hgu hG hlo
 go_enter_defers Tryz.func29, Tryz.ntmps29
 go_wp2_with (first
  | (go_at_call 23; refine HL.mono ?_; rintro e w' ⟨rfl, hw'⟩; rw [HF.out.1] at hw'; subst hw')
  | (go_at_call 61; refine HN.out.mono ?_; rintro e w2 ⟨rfl, hfr⟩
     have HR2 : Hid (Rep B w2 b 1 s ∧ Fr (foot b s) w w2) := ⟨HF.out.2.1.kept0 hfr, HF.out.2.2.trans hfr (by simp)⟩
     have c4 : w2.cell? ⟨b, 4, none⟩ = some (.slice ao s.ss.length cap) := by rw [← hsv]; exact HR2.out.1.cells.2.2.2.1
     have c8 : w2.cell? ⟨b, 8, none⟩ = some (.int .i64 s.taken) := HR2.out.1.cells.2.2.2.2.2.2.2.1
     have f8 := HR2.out.1.frozen 8
     have HR3 : Hid (Rep B (w2.setCell ⟨b, 8, none⟩ (.int .i64 n)) b 1 { s with taken := n } ∧ Fr (foot b s) w (w2.setCell ⟨b, 8, none⟩ (.int .i64 n))) := ⟨HR2.out.1.setTaken n, HR2.out.2.setCell _ (Or.inl (by simp [foot]))⟩
     clear hfr)
  | (go_at_call 62; refine (HG.out _ HR3.out.1).mono ?_; rintro e w' ⟨rfl, hw'⟩; have hw' := hw'.symm; subst hw')
  | (go_at_call 63; refine (HA.out _ HR3.out.1).mono ?_; rintro e w4 ⟨rfl, sv, r4, f4, a4⟩; have HR4 : Hid (Rep B w4 b 1 (Sto.add { s with taken := n } g t sv) ∧ Fr (foot b s) w w4 ∧ (∀ k, sv.ownBlock = some k → s.sv.ownBlock = some k ∨ w.heap.size ≤ k)) := ⟨r4, HR3.out.2.trans f4 (fun k hk => Or.inl hk), fun k hk => (a4 k hk).imp_right (fun h => Nat.le_trans HR3.out.2.size h)⟩; clear r4 f4 a4)
  | (go_at_call 22; refine (HU'.out _).mono ?_; rintro e w5 ⟨rfl, f5⟩; have HR5 : Hid (Rep B w5 b 1 (Sto.add { s with taken := n } g t sv) ∧ Fr (foot b s) w w5) := ⟨HR4.out.1.kept0 f5, HR4.out.2.1.trans f5 (by simp)⟩; clear f5)
  | (go_at_call 21; refine (HNt.out _ sv HR5.out.1).mono ?_; rintro e w6 ⟨rfl, lv, r6, f6, a6⟩; have HR6 : Hid (Rep B w6 b 1 ((Sto.add { s with taken := n } g t sv).noted 83 ba lv) ∧ Fr (foot b s) w w6 ∧ (∀ k, lv.ownBlock = some k → s.lv.ownBlock = some k ∨ w.heap.size ≤ k)) := ⟨r6, HR5.out.2.trans f6 (fun k hk => ?_), fun k hk => (a6 k hk).imp_right (fun h => Nat.le_trans HR5.out.2.size h)⟩; clear r6 f6 a6; rotate_left; exact add_foot HR4.out.2.2 hk))
 refine leaves_cons (f := 24) (args := #[.pointer (some ⟨b, 0, none⟩)]) (by simp) (by simp [go_sem]) ?_
 refine (unlock_deferred Tryz.muLib ⟨b, 0, none⟩ .returning _ HR6.out.1.cells.1 (HR6.out.1.frozen 0)).mono ?_
 rintro e u' w'' ⟨rfl, rfl, rfl⟩
 exact ⟨_, results_tmp2 rfl _ _ _, rfl, sv, lv, HR6.out.1.lock 0, HR6.out.2.1.setCell _ (Or.inl (by simp [foot])), HR4.out.2.2, HR6.out.2.2⟩
theorem Rep.look {B : Nat} {w : World} {b : Nat} {q : Int} {s : Sto} (h : Rep B w b q s) {g i : Int} (hg : In64 g) (hi : In64 i) :
  (Instr.lookup 64 (.map (some s.mb)) (.agg #[.int .i64 g, .int .i64 i]) false).run Tryz.prog w = .ok (s.th g i).val w := by
 obtain ⟨D, hD, hr⟩ := h.th
 obtain ⟨v, ps, h1, h2⟩ := hD.lookup law118 Tryz.underlying64 (z := Ct.zero.val) (Tryz.zeroValue112 w) (show RV Ct.zero.val = some (.held Ct.zero.val, []) from rfl) (key_mk hg hi)
 rw [hr g i hg hi] at h2
 simp [RV] at h2
 rw [h1, h2.1]
set_option maxRecDepth 100000 in
set_option maxHeartbeats 800000 in
theorem at_ok (B b : Nat) (s : Sto) (g : Int) (k : Nat) (w : World) (h : Rep B w b 0 s) (hl : s.ss.length ≤ 1000000) (hg : In64 g) (hx : ∃ x ∈ s.ss, (x.guid == g) = true) (hk : k < s.vol.length) (hv : s.vol.length ≤ 16) :
  Calls Tryz.prog 35 #[.pointer (some ⟨b, 0, none⟩), .int .i64 g, .int .i64 k] w fun e w' => e = .returned (.tuple #[(s.th g k).x.str, .int .i64 0]) ∧ Rep B w' b 0 s ∧ Fr (foot b s) w w' := by
 obtain ⟨w1, hw1, R1⟩ := h.lk
 have HL := lock_free Tryz.muLib ⟨b, 0, none⟩ w h.cells.1 (h.frozen 0)
 have F1 := lkF s hw1
 have HF : Hid (w.setCell ⟨b, 0, none⟩ (.int .i32 1) = w1 ∧ Rep B w1 b 1 s ∧ Fr (foot b s) w w1) := ⟨hw1, R1, F1⟩
 obtain ⟨j, hj, e0, _⟩ := fi_some s.ss 0 hx
 have HS := findSnapshot_any B b 1 s g w1 R1 hl
 rw [e0, Nat.zero_add] at HS
 have HC : Hid (∀ W, _) := fun W => hasBlock_any B b 1 s k W
 have hb : (decide ((0 : Int) ≤ (k : Int)) && decide ((k : Int) < (s.vol.length : Int))) = true := by simp; omega
 have HK : Hid (∀ W, Rep B W b 1 s → _) := fun W hW => Rep.look hW hg (i := (k : Int)) ⟨by omega, by omega⟩
 obtain ⟨x, hxx⟩ : ∃ x, s.th g k = x := ⟨_, rfl⟩
 rw [hxx] at HK ⊢
 have hcv := fun W : World => str_conv (w := W.alloc (.cells #[u8 x.x.a, u8 x.x.b, u8 x.x.c, u8 x.x.d, .int .i64 x.n] 112)) (vb := W.heap.size) (o := 0) (x := x.x) (by simp) (by simp) (by simp) (by simp)
 have hcv' : ∀ W : World, (convert 74 9 (.slice (some ⟨W.heap.size, 0, none⟩) 4 4)).run Tryz.prog (W.alloc (.cells #[.int .u8 (x.x.a.toNat : Int), .int .u8 (x.x.b.toNat : Int), .int .u8 (x.x.c.toNat : Int), .int .u8 (x.x.d.toNat : Int), .int .i64 x.n] 112)) = .ok x.x.str (W.alloc (.cells #[.int .u8 (x.x.a.toNat : Int), .int .u8 (x.x.b.toNat : Int), .int .u8 (x.x.c.toNat : Int), .int .u8 (x.x.d.toNat : Int), .int .i64 x.n] 112)) := hcv
 clear h R1 F1 hw1 hxx hx hcv e0
 go_enter_defers Tryz.func35, Tryz.ntmps35
 go_wp2_with (first
  | (go_at_call 23; refine HL.mono ?_; rintro e w' ⟨rfl, hw'⟩; rw [HF.out.1] at hw'; subst hw')
  | (go_at_call 65; refine HS.mono ?_; rintro e w2 ⟨rfl, hfr⟩
     have HR2 : Hid (Rep B w2 b 1 s ∧ Fr (foot b s) w w2) := ⟨HF.out.2.1.kept0 hfr, HF.out.2.2.trans hfr (by simp)⟩
     have c5 : w2.cell? ⟨b, 5, none⟩ = some (.map (some s.mb)) := HR2.out.1.cells.2.2.2.2.1
     have lk : (Instr.lookup 64 (.map (some s.mb)) (.agg #[.int .i64 g, .int .i64 k]) false).run Tryz.prog w2 = .ok (.agg #[.int .u8 (x.x.a.toNat : Int), .int .u8 (x.x.b.toNat : Int), .int .u8 (x.x.c.toNat : Int), .int .u8 (x.x.d.toNat : Int), .int .i64 x.n]) w2 := HK.out w2 HR2.out.1
     have hcw := hcv' w2
     have HR3 : Hid (Rep B (w2.alloc (.cells #[.int .u8 (x.x.a.toNat : Int), .int .u8 (x.x.b.toNat : Int), .int .u8 (x.x.c.toNat : Int), .int .u8 (x.x.d.toNat : Int), .int .i64 x.n] 112)) b 1 s ∧ Fr (foot b s) w (w2.alloc (.cells #[.int .u8 (x.x.a.toNat : Int), .int .u8 (x.x.b.toNat : Int), .int .u8 (x.x.c.toNat : Int), .int .u8 (x.x.d.toNat : Int), .int .i64 x.n] 112))) := ⟨HR2.out.1.kept0 ((Fr.refl _ _).alloc _), HR2.out.2.alloc _⟩
     clear hfr hcv')
  | (go_at_call 60; refine (HC.out _ HR2.out.1).mono ?_; rintro e w' ⟨rfl, hw'⟩; have hw' := hw'.symm; subst hw'; rw [hb]))
 refine leaves_cons (f := 24) (args := #[.pointer (some ⟨b, 0, none⟩)]) (by simp) (by simp [go_sem]) ?_
 refine (unlock_deferred Tryz.muLib ⟨b, 0, none⟩ .returning _ HR3.out.1.cells.1 (HR3.out.1.frozen 0)).mono ?_
 rintro e u' w'' ⟨rfl, rfl, rfl⟩
 exact ⟨_, results_tmp2 rfl _ _ _, rfl, HR3.out.1.lock 0, HR3.out.2.setCell _ (Or.inl (by simp [foot]))⟩
theorem info97 : (Tryz.prog.info? 112).map (fun i => (i.zero, i.size, i.bytes)) = some (some (.agg #[.int .u8 0, .int .u8 0, .int .u8 0, .int .u8 0, .int .i64 0]), 5, 16) := by kernel_rfl
theorem made_vol (n : Nat) (hn : n ≤ 16) : (madeCells (Value.agg #[.int .u8 0, .int .u8 0, .int .u8 0, .int .u8 0, .int .i64 0]).cells (n * 5)).toList = volC (List.replicate n Ct.zero) := by
 rcases (by omega : n = 0 ∨ n = 1 ∨ n = 2 ∨ n = 3 ∨ n = 4 ∨ n = 5 ∨ n = 6 ∨ n = 7 ∨ n = 8 ∨ n = 9 ∨ n = 10 ∨ n = 11 ∨ n = 12 ∨ n = 13 ∨ n = 14 ∨ n = 15 ∨ n = 16) with h | h | h | h | h | h | h | h | h | h | h | h | h | h | h | h | h <;> subst h <;> kernel_rfl
def Sto.fresh (id : Int) (n vb mb : Nat) : Sto :=
 { id := id, vol := List.replicate n Ct.zero, ss := [], th := fun _ _ => Ct.zero, ms := [], came := 0, taken := 0, vb := vb, mb := mb, cnt := 0, sv := .slice none 0 0, mv := .slice none 0 0, log := [], lv := .slice none 0 0 }
theorem own_full {w : World} {base g n size : Nat} {e : TypeId} {xs : List Value} (h : w.ownsRow base e size (.slice (some ⟨g, 0, none⟩) n n) n xs) : w.heap[g]? = some (.cells xs.toArray e (0, 0)) := by
 rcases h.2 with ⟨h1, _⟩ | ⟨g', c, cur, h1, hb, hg, hc, hm, hs, ht⟩
 · simp at h1
 · simp at h1
   obtain ⟨rfl, rfl⟩ := h1
   rw [hg, ← ht, List.take_of_length_le (by rw [Array.length_toList, hs]; exact Nat.le_refl _)]
theorem fresh_rep {w w1 : World} {id : Int} {n : Nat} (hb : w1.heap[w.heap.size]? = some (.cells (volC (List.replicate n Ct.zero)).toArray 112 (0, 0))) (l1 : w.heap.size < w1.heap.size) :
  Rep w.heap.size ((w1.alloc (.map #[] 0)).alloc (.cells #[.int .i32 0, .int .u32 0, .int .i64 id, .slice (some ⟨w.heap.size, 0, none⟩) n n, .slice none 0 0, .map (some w1.heap.size), .slice none 0 0, .int .i64 0, .int .i64 0, .slice none 0 0] 76)) (w1.heap.size + 1) 0 (Sto.fresh id n w.heap.size w1.heap.size) := by
 refine ⟨?_, ?_, ?_, ?_, ?_, ?_, ?_, ?_, ?_⟩
 · have := heap_alloc_new (w1.alloc (.map #[] 0)) (.cells #[.int .i32 0, .int .u32 0, .int .i64 id, .slice (some ⟨w.heap.size, 0, none⟩) n n, .slice none 0 0, .map (some w1.heap.size), .slice none 0 0, .int .i64 0, .int .i64 0, .slice none 0 0] 76)
   rw [show (w1.alloc (.map #[] 0)).heap.size = w1.heap.size + 1 by simp] at this
   rw [this]
   simp [Sto.blk, Sto.fresh]
 · rw [Below.heap_alloc _ _ _ (by simp [Sto.fresh]; omega), Below.heap_alloc _ _ _ (by simp [Sto.fresh]; omega)]
   exact hb
 · exact World.ownsRow_nil _ _ _ _
 · refine MapOf.of_block (w := w1.alloc (.map #[] 0)) ⟨.map [], World.ownsMap_made w1 _ _ _, fun g i _ _ => ?_⟩ (Below.heap_alloc _ _ _ (by simp [Sto.fresh]))
   rfl
 · exact World.ownsRow_nil _ _ _ _
 · exact World.ownsRow_nil _ _ _ _
 · show w.heap.size ≤ w1.heap.size + 1
   omega
 · exact Nat.le_refl _
 · show w.heap.size ≤ w1.heap.size
   omega
def ntext (id : Int) (n : Nat) : ByteArray := (n4 id).ba ++ ⟨#[byt n]⟩
theorem conv_after {W w5 : World} {y : UInt8} (f : Fr [] (W.alloc (.cells #[.int .u8 (y.toNat : Int)] 5)) w5) : (convert 74 9 (.slice (some ⟨W.heap.size, 0, none⟩) 1 1)).run Tryz.prog w5 = .ok (.string ⟨#[y]⟩) w5 := by
 refine conv1 ?_
 rw [World.cell?_of_block (f.block W.heap.size (by simp) (by simp))]
 simp [u8]
theorem new_note {w W0 W : World} {b : Nat} {s : Sto} {t : ByteArray} (h0 : Rep w.heap.size W0 b 0 s) (f0 : Fr [] w W0) (f : Fr [] W0 W) (ht : t.size ≤ 1000) (hl : s.log.length ≤ 140000000000000) :
  Calls Tryz.prog 21 #[.pointer (some ⟨b, 0, none⟩), .int .u8 78, .string t] W fun e w' => e = .returned (.tuple #[]) ∧ ∃ lv, Rep w.heap.size w' b 0 (s.noted 78 t lv) ∧ Fr [] w w' := by
 have hr := h0.kept0 f
 refine (note_any w.heap.size b 0 s 78 t W hr ht hl).mono ?_
 rintro e w' ⟨rfl, lv, r, f6, _⟩
 exact ⟨rfl, lv, r, (f0.trans f (by simp)).trans f6 (fun k hk => Or.inr (hr.lt k hk).1)⟩
set_option maxRecDepth 100000 in
set_option maxHeartbeats 1600000 in
theorem new_ok (id : Int) (n : Nat) (w : World) (h1 : 1 ≤ id ∧ id ≤ 999) (h2 : 1 ≤ n ∧ n ≤ 16) :
  Calls Tryz.prog 12 #[.int .i64 id, .int .i64 n] w fun e w' => ∃ b vb mb lv, e = .returned (.tuple #[.pointer (some ⟨b, 0, none⟩), .int .i64 0]) ∧ Rep w.heap.size w' b 0 ((Sto.fresh id n vb mb).noted 78 (ntext id n) lv) ∧ Fr [] w w' := by
 obtain ⟨i0, hi, hz0, hz1, hz2⟩ := info_parts info97
 have t1 : decide (id < 1) = false := by simp; omega
 have t2 : decide (id > 999) = false := by simp; omega
 have t3 : decide ((n : Int) < 1) = false := by simp; omega
 have t4 : decide ((n : Int) > 16) = false := by simp; omega
 have hmm : ∀ W, (Instr.makeMap 64 none).run Tryz.prog W = .ok (.map (some W.heap.size)) (W.alloc (.map #[] 0)) := fun W => run_makeMap 64 W
 go_enter Tryz.func12, Tryz.ntmps12
 go_wp2_with (at_make; refine wpList_make_full _ rfl _ _ 63 rfl w.heap.size 112 i0 _ 5 Tryz.underlying63 hi hz0 hz1 _ _ _ _ n rfl rfl rfl rfl (by rw [hz2]; omega) (by unfold maxLen; omega) (by simp) ?_; intro w1 hown1 hgrow1)
 rw [made_vol n h2.2] at hown1
 have hb := own_full hown1
 have l1 : w.heap.size < w1.heap.size := (Array.getElem?_eq_some_iff.1 hb).1
 have Fr1 : Fr [] w w1 := (Fr.refl _ _).grown hgrow1 (fun k h => by cases h)
 have HR0 : Hid (_ ∧ Fr [] w ((w1.alloc (.map #[] 0)).alloc (.cells #[.int .i32 0, .int .u32 0, .int .i64 id, .slice (some ⟨w.heap.size, 0, none⟩) n n, .slice none 0 0, .map (some w1.heap.size), .slice none 0 0, .int .i64 0, .int .i64 0, .slice none 0 0] 76))) := ⟨fresh_rep (id := id) (n := n) hb l1, (Fr1.alloc _).alloc _⟩
 obtain ⟨W0, hW0⟩ : ∃ W0, (w1.alloc (.map #[] 0)).alloc (.cells #[.int .i32 0, .int .u32 0, .int .i64 id, .slice (some ⟨w.heap.size, 0, none⟩) n n, .slice none 0 0, .map (some w1.heap.size), .slice none 0 0, .int .i64 0, .int .i64 0, .slice none 0 0] 76) = W0 := ⟨_, rfl⟩
 rw [hW0] at HR0 ⊢
 obtain ⟨b, hbb⟩ : ∃ b, w1.heap.size + 1 = b := ⟨_, rfl⟩
 obtain ⟨mb, hmb⟩ : ∃ mb, w1.heap.size = mb := ⟨_, rfl⟩
 rw [hbb, hmb] at HR0
 rw [hbb, hmb]
 have HU : Hid (∀ W, _) := fun W => number_any id W
 obtain ⟨ba, hba⟩ : ∃ ba, (n4 id).ba = ba := ⟨_, rfl⟩
 rw [hba] at HU
 clear hown1 hgrow1 hb l1 Fr1 hW0 hbb hmb
 have hwr : IntKind.u8.wrap (n : Int) = ((byt n).toNat : Int) := by rw [← byt_eq]; simp [IntKind.wrap, IntKind.bits, IntKind.signed]
 obtain ⟨y, hy⟩ : ∃ y, byt n = y := ⟨_, rfl⟩
 rw [hy] at hwr
 have HY : Hid (byt n = y ∧ (n4 id).ba = ba) := ⟨hy, hba⟩
 have hcv : ∀ W : World, (convert 74 9 (.slice (some ⟨W.heap.size, 0, none⟩) 1 1)).run Tryz.prog (W.alloc (.cells #[.int .u8 (y.toNat : Int)] 5)) = .ok (.string ⟨#[y]⟩) (W.alloc (.cells #[.int .u8 (y.toNat : Int)] 5)) := fun W => conv_after (Fr.refl _ _)
 have hcv0 : (convert 74 9 (.slice (some ⟨W0.heap.size, 0, none⟩) 1 1)).run Tryz.prog (W0.alloc (.cells #[.int .u8 (y.toNat : Int)] 5)).drew = .ok (.string ⟨#[y]⟩) (W0.alloc (.cells #[.int .u8 (y.toNat : Int)] 5)).drew := conv_after ((Fr.refl [] _).drew)
 have hsa : ba.size = 4 := by rw [← hba]; rfl
 have hsy : (⟨#[y]⟩ : ByteArray).size = 1 := rfl
 clear hy hba
 go_region_with (first
  | (go_at_call 22; refine (HU.out _).mono ?_; rintro e w5 ⟨rfl, f5⟩; first | (have hc5 : (convert 74 9 (.slice (some ⟨W0.heap.size, 0, none⟩) 1 1)).run Tryz.prog w5 = _ := conv_after f5) | (have hc5 : (convert 74 9 (.slice (some ⟨W0.heap.size, 0, none⟩) 1 1)).run Tryz.prog w5 = _ := conv_after (y := y) (((Fr.refl [] _).drew).trans f5 (by simp))) | skip)
  | (go_at_call 21; refine (new_note HR0.out.1 HR0.out.2 (by first | exact ((((Fr.refl [] W0).drew).trans f5 (by simp)).alloc _) | exact (((Fr.refl [] W0).drew.alloc _).trans f5 (by simp)) | exact (((Fr.refl [] W0).alloc _).drew.trans f5 (by simp)) | exact (((Fr.refl [] W0).trans f5 (by simp)).alloc _) | exact (((Fr.refl [] W0).trans f5 (by simp)).alloc _).drew | exact ((((Fr.refl [] W0).drew).trans f5 (by simp)).alloc _).drew | exact (((Fr.refl [] W0).alloc _).trans f5 (by simp)).drew | exact (((Fr.refl [] W0).alloc _).trans f5 (by simp))) (by rw [ByteArray.size_append, hsa, hsy]; omega) (by show 0 ≤ 140000000000000; omega)).mono ?_; rintro e w6 ⟨rfl, lv, r6, f6⟩; have HR6 : Hid (Rep w.heap.size w6 b 0 ((Sto.fresh id n w.heap.size mb).noted 78 (ba ++ ⟨#[y]⟩) lv) ∧ Fr [] w w6) := ⟨r6, f6⟩; clear r6 f6))
 all_goals
  go_wp2
  go_ret2
  refine ⟨b, w.heap.size, mb, lv, rfl, ?_, HR6.out.2⟩
  unfold ntext
  rw [HY.out.1, HY.out.2]
  exact HR6.out.1
def t3 (x : Sn) : Int × Int × Int := (x.guid, x.time, x.holds)
def t3c (x : Int × Int × Int) : List Value := [.int .i64 x.1, .int .i64 x.2.1, .int .i64 x.2.2]
def tlC (l : List (Int × Int × Int)) : List Value := l.flatMap t3c
theorem tlC_len (l : List (Int × Int × Int)) : (tlC l).length = l.length * 3 := by
 induction l with
 | nil => rfl
 | cons x r ih => simp [tlC, t3c] at ih ⊢; omega
theorem set3 : ∀ (l : List (Int × Int × Int)) (k : Nat) (x : Int × Int × Int), k < l.length → (((tlC l).set (k * 3) (.int .i64 x.1)).set (k * 3 + 1) (.int .i64 x.2.1)).set (k * 3 + 2) (.int .i64 x.2.2) = tlC (l.set k x)
 | [], k, _, h => by simp at h
 | y :: r, 0, x, _ => by simp [tlC, t3c]
 | y :: r, k + 1, x, h => by
  have ih := set3 r k x (by simpa using h)
  have e : (k + 1) * 3 = k * 3 + 3 := by omega
  simp only [tlC, List.flatMap_cons, List.set_cons_succ, t3c, List.cons_append, List.nil_append, e] at ih ⊢
  simpa [List.set_cons_succ] using ih
def told (l : List Sn) (k : Nat) : List (Int × Int × Int) := (l.take k).map t3 ++ List.replicate (l.length - k) (0, 0, 0)
theorem told_len (l : List Sn) (k : Nat) (h : k ≤ l.length) : (told l k).length = l.length := by simp [told]; omega
theorem told_set (l : List Sn) (k : Nat) (h : k < l.length) : (told l k).set k (t3 l[k]) = told l (k + 1) := by
 unfold told
 rw [List.set_append_right _ _ (by simp; omega), List.length_map, List.length_take, Nat.min_eq_left (Nat.le_of_lt h), Nat.sub_self, show l.length - k = (l.length - (k + 1)) + 1 by omega, List.replicate_succ, List.set_cons_zero, List.take_succ_eq_append_getElem h, List.map_append, List.append_assoc]
 rfl
theorem told_end (l : List Sn) : told l l.length = l.map t3 := by simp [told]
theorem made_told (l : List Sn) (h : l.length ≤ 12) : (madeCells (Value.agg #[.int .i64 0, .int .i64 0, .int .i64 0]).cells (l.length * 3)).toList = tlC (told l 0) := by
 rw [show told l 0 = List.replicate l.length (0, 0, 0) by simp [told]]
 obtain ⟨n, hn⟩ : ∃ n, l.length = n := ⟨_, rfl⟩
 rw [hn] at h ⊢
 rcases (by omega : n = 0 ∨ n = 1 ∨ n = 2 ∨ n = 3 ∨ n = 4 ∨ n = 5 ∨ n = 6 ∨ n = 7 ∨ n = 8 ∨ n = 9 ∨ n = 10 ∨ n = 11 ∨ n = 12) with h | h | h | h | h | h | h | h | h | h | h | h | h <;> subst h <;> kernel_rfl
theorem info100 : (Tryz.prog.info? 61).map (fun i => (i.zero, i.size, i.bytes)) = some (some (.agg #[.int .i64 0, .int .i64 0, .int .i64 0]), 3, 24) := by kernel_rfl
set_option maxRecDepth 100000 in
set_option maxHeartbeats 1600000 in
theorem snaps_any (B b : Nat) (s : Sto) (w : World) (h : Rep B w b 0 s) (hl : s.ss.length ≤ 12) :
  Calls Tryz.prog 31 #[.pointer (some ⟨b, 0, none⟩)] w fun e w' => ∃ gg, e = .returned (.slice (some ⟨gg, 0, none⟩) s.ss.length s.ss.length) ∧ w.heap.size ≤ gg ∧ w'.heap[gg]? = some (.cells (tlC (s.ss.map t3)).toArray 61 (0, 0)) ∧ Rep B w' b 0 s ∧ Fr (foot b s) w w' := by
 obtain ⟨i0, hi, hz0, hz1, hz2⟩ := info_parts info100
 obtain ⟨w1, hw1, R1⟩ := h.lk
 have HL := lock_free Tryz.muLib ⟨b, 0, none⟩ w h.cells.1 (h.frozen 0)
 have F1 := lkF s hw1
 have hz : w1.heap.size = w.heap.size := by rw [← hw1]; simp
 have HF : Hid (w.setCell ⟨b, 0, none⟩ (.int .i32 1) = w1 ∧ Rep B w1 b 1 s ∧ Fr (foot b s) w w1 ∧ w1.heap.size = w.heap.size) := ⟨hw1, R1, F1, hz⟩
 obtain ⟨ao, cap, hsv⟩ := own_shape h.ss
 have c4 : w1.cell? ⟨b, 4, none⟩ = some (.slice ao s.ss.length cap) := by rw [← hsv]; exact R1.cells.2.2.2.1
 have lb := World.block_lt_of_cell? _ _ c4
 obtain ⟨n, hn⟩ : ∃ n, s.ss.length = n := ⟨_, rfl⟩
 have HN : Hid (s.ss.length = n ∧ s.sv = .slice ao n cap) := ⟨hn, by rw [hsv, hn]⟩
 rw [hn] at c4 hl ⊢
 clear h R1 F1 hw1 hz hn hsv
 go_enter_defers Tryz.func31, Tryz.ntmps31
 go_wp2_with (first
  | (go_at_call 23; refine HL.mono ?_; rintro e w' ⟨rfl, hw'⟩; rw [HF.out.1] at hw'; have hw' := hw'.symm; subst hw')
  | (at_make; refine wpList_make_full _ rfl _ _ 62 rfl w1.heap.size 61 i0 _ 3 Tryz.underlying62 hi hz0 hz1 _ _ _ _ n rfl rfl rfl rfl (by rw [hz2]; omega) (by unfold maxLen; omega) (by simp) ?_; intro w2 hown2 hgrow2; have c4' : w2.cell? ⟨b, 4, none⟩ = some (.slice ao n cap) := (hgrow2.cell_far ⟨b, 4, none⟩ lb (by simp)).trans c4))
 have hz' := HF.out.2.2.2
 have hd : w2.heap[w1.heap.size]? = some (.cells (tlC (told s.ss 0)).toArray 61 (0, 0)) := by
  have := own_full hown2
  rw [← HN.out.1, made_told s.ss (by rw [HN.out.1]; exact hl)] at this
  exact this
 have HW : Hid (Rep B w2 b 1 s ∧ Fr (foot b s) w w2 ∧ w2.heap[w1.heap.size]? = some (.cells (tlC (told s.ss 0)).toArray 61 (0, 0))) := ⟨HF.out.2.1.kept0 ((Fr.refl _ _).grown hgrow2 (fun k h => by cases h)), HF.out.2.2.1.grown hgrow2 (fun k h => by cases h), hd⟩
 obtain ⟨gg, hgg⟩ : ∃ gg, w1.heap.size = gg := ⟨_, rfl⟩
 have hg0 : w.heap.size ≤ gg := by omega
 rw [hgg] at HW ⊢
 clear hown2 hgrow2 hd hz' c4 hgg
 go_loopw [24] (fun i wr => ∃ k : Nat, k ≤ n ∧ i = .int .i64 k ∧ Hid (Rep B wr b 1 s ∧ Fr (foot b s) w wr ∧ wr.heap[gg]? = some (.cells (tlC (told s.ss k)).toArray 61 (0, 0)))) (fun i _ => n - (intOf i).toNat)
 case atStart => exact ⟨0, Nat.zero_le _, rfl, HW⟩
 case round =>
  obtain ⟨k, hk, rfl, HK⟩ := hrel
  obtain ⟨W3, hW3⟩ : ∃ W3, W3 = wr := ⟨_, rfl⟩
  subst hW3
  clear HW c4'
  by_cases hlt : k < n
  · have hlt' : k < s.ss.length := by rw [HN.out.1]; exact hlt
    have ho := HK.out.1.ss
    rw [HN.out.2, HN.out.1] at ho
    obtain ⟨sg, hao, hcap, hc⟩ := own_addr ho (by omega)
    have hs := snC_get s.ss k hlt'
    obtain ⟨x, hx⟩ : ∃ x, s.ss[k] = x := ⟨_, rfl⟩
    rw [hx] at hs
    subst hao
    have d0 : W3.cell? ⟨sg, k * 4, none⟩ = some (.int .i64 x.guid) := by rw [hc _ (by omega)]; exact hs.1
    have d1 : W3.cell? ⟨sg, k * 4 + 1, none⟩ = some (.int .i64 x.time) := by rw [hc _ (by omega)]; exact hs.2.1
    have d2 : W3.cell? ⟨sg, k * 4 + 2, none⟩ = some (.int .i64 x.holds) := by rw [hc _ (by omega)]; exact hs.2.2.1
    have d3 : W3.cell? ⟨sg, k * 4 + 3, none⟩ = some (.int .i64 x.came) := by rw [hc _ (by omega)]; exact hs.2.2.2
    have hgl : gg < W3.heap.size := (Array.getElem?_eq_some_iff.1 HK.out.2.2).1
    have hll : (tlC (told s.ss k)).length = n * 3 := by rw [tlC_len, told_len _ _ (by omega), HN.out.1]
    have g0 : ∃ v, W3.cell? ⟨gg, k * 3, none⟩ = some v := by rw [cell_of HK.out.2.2, List.getElem?_toArray]; exact ⟨_, List.getElem?_eq_getElem (by omega)⟩
    have g1 : ∃ v, W3.cell? ⟨gg, k * 3 + 1, none⟩ = some v := by rw [cell_of HK.out.2.2, List.getElem?_toArray]; exact ⟨_, List.getElem?_eq_getElem (by omega)⟩
    have g2 : ∃ v, W3.cell? ⟨gg, k * 3 + 2, none⟩ = some v := by rw [cell_of HK.out.2.2, List.getElem?_toArray]; exact ⟨_, List.getElem?_eq_getElem (by omega)⟩
    obtain ⟨y0, g0⟩ := g0
    obtain ⟨y1, g1⟩ := g1
    obtain ⟨y2, g2⟩ := g2
    have z0 : W3.frozen? ⟨gg, k * 3, none⟩ = false := froz_of HK.out.2.2 _
    have z1 : W3.frozen? ⟨gg, k * 3 + 1, none⟩ = false := froz_of HK.out.2.2 _
    have z2 : W3.frozen? ⟨gg, k * 3 + 2, none⟩ = false := froz_of HK.out.2.2 _
    have hltz : (k : Int) < (n : Int) := by omega
    have HK8 : Hid (Rep B ((((W3.setCell ⟨gg, k * 3, none⟩ (.int .i64 x.guid)).setCell ⟨gg, k * 3 + 1, none⟩ (.int .i64 x.time)).setCell ⟨gg, k * 3 + 2, none⟩ (.int .i64 x.holds)).alloc (.cells #[.int .i64 x.guid, .int .i64 x.time, .int .i64 x.holds, .int .i64 x.came] 119)) b 1 s ∧ Fr (foot b s) w ((((W3.setCell ⟨gg, k * 3, none⟩ (.int .i64 x.guid)).setCell ⟨gg, k * 3 + 1, none⟩ (.int .i64 x.time)).setCell ⟨gg, k * 3 + 2, none⟩ (.int .i64 x.holds)).alloc (.cells #[.int .i64 x.guid, .int .i64 x.time, .int .i64 x.holds, .int .i64 x.came] 119)) ∧ ((((W3.setCell ⟨gg, k * 3, none⟩ (.int .i64 x.guid)).setCell ⟨gg, k * 3 + 1, none⟩ (.int .i64 x.time)).setCell ⟨gg, k * 3 + 2, none⟩ (.int .i64 x.holds)).alloc (.cells #[.int .i64 x.guid, .int .i64 x.time, .int .i64 x.holds, .int .i64 x.came] 119)).heap[gg]? = some (.cells (tlC (told s.ss (k + 1))).toArray 61 (0, 0))) := by
     refine ⟨?_, ?_, ?_⟩
     · refine Rep.kept0 (w := ((W3.setCell ⟨gg, k * 3, none⟩ (.int .i64 x.guid)).setCell ⟨gg, k * 3 + 1, none⟩ (.int .i64 x.time)).setCell ⟨gg, k * 3 + 2, none⟩ (.int .i64 x.holds)) (HK.out.1.of_foot (fun j hj => ?_)) ((Fr.refl _ _).alloc _)
       have hjg : j ≠ gg := by
        have := (HF.out.2.1.lt j hj).2
        rw [HF.out.2.2.2] at this
        omega
       rw [heap_setCell_other _ _ _ _ hjg, heap_setCell_other _ _ _ _ hjg, heap_setCell_other _ _ _ _ hjg]
     · exact (((HK.out.2.1.setCell _ (Or.inr hg0)).setCell _ (Or.inr hg0)).setCell _ (Or.inr hg0)).alloc _
     · rw [Below.heap_alloc _ _ _ (by simpa using hgl)]
       rw [heap_setCell_same _ gg (k * 3 + 2) _ _ _ (heap_setCell_same _ gg (k * 3 + 1) _ _ _ (heap_setCell_same _ gg (k * 3) _ _ _ HK.out.2.2))]
       rw [← told_set s.ss k hlt', hx, ← set3 _ k (t3 x) (by rw [told_len _ _ (by omega)]; exact hlt')]
       simp [t3]
    clear hc hs ho HK hx hll
    go_wp2
    go_roundw
    case rel => exact ⟨k + 1, by omega, by go_num, HK8⟩
    case measure => simp [intOf]; omega
  · have hkk : k = n := by omega
    subst hkk
    have HK9 : Hid (Rep B W3 b 1 s ∧ Fr (foot b s) w W3 ∧ W3.heap[gg]? = some (.cells (tlC (s.ss.map t3)).toArray 61 (0, 0))) := by
     have := HK.out
     rw [← told_end, HN.out.1]
     exact this
    clear HK
    go_wp2
    refine leaves_cons (f := 24) (args := #[.pointer (some ⟨b, 0, none⟩)]) (by simp) (by simp [go_sem]) ?_
    refine (unlock_deferred Tryz.muLib ⟨b, 0, none⟩ .returning _ HK9.out.1.cells.1 (HK9.out.1.frozen 0)).mono ?_
    rintro e u' w'' ⟨rfl, rfl, rfl⟩
    refine ⟨_, results_tmp rfl _ _ _, gg, rfl, hg0, ?_, HK9.out.1.lock 0, HK9.out.2.1.setCell _ (Or.inl (by simp [foot]))⟩
    rw [heap_setCell_other _ _ _ _ (fun e => ?_)]
    · exact HK9.out.2.2
    · have := (HF.out.2.1.lt b (by simp [foot])).2
      rw [HF.out.2.2.2] at this
      simp at e
      omega
end Go.Proofs.YthdhegmlknpllaaGreat
