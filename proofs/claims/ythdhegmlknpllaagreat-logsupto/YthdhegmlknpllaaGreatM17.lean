import Derived.Test.YthdhegmlknpllaaGreatM16
import Derived.Deep.MidRow
namespace Go.Proofs.YthdhegmlknpllaaGreat
open Go.RowKit Go.Maps Go.MuLone
theorem info120 : (Tryz.prog.info? 129).map (fun i => (i.zero, i.size, i.bytes)) = some (some (.agg #[.int .i64 0, .int .i64 0]), 2, 16) := by kernel_rfl
theorem cset_mv (s : RSto) (hd : s.dat.length = 16) (hb : s.born.length = 16) (v : Value) : s.cells.set 37 v = { s with mv := v }.cells := by
 unfold RSto.cells
 rw [List.set_append_right _ _ (by simp), show 37 - [Value.int .i64 s.id, .int .i64 s.blocks, .int .i64 s.now, .int .i64 s.last].length = 33 by simp, List.set_append_right _ _ (by simp [datC, hd]), show 33 - (datC s.dat).length = 17 by simp [datC, hd], List.set_append_right _ _ (by simp [bornC, hb]), show 17 - (bornC s.born).length = 1 by simp [bornC, hb]]
 rfl
def RSto.setM (s : RSto) (ms : List (Int × Int)) (mv : Value) : RSto := { s with ms := ms, mv := mv }
theorem RRep.setM {B : Nat} {w : World} {b : Nat} {s : RSto} (h : RRep B w b s) {ms : List (Int × Int)} {mv : Value} (ho : w.ownsRow B 129 2 mv ms.length (mkC ms)) : RRep B (w.setCell ⟨b, 37, none⟩ mv) b (s.setM ms mv) := by
 obtain ⟨a1, a2⟩ := h.apart
 have hmb : ∀ k, mv.ownBlock = some k → k ≠ b := fun k hk e => by
  obtain ⟨_, cur, h4⟩ := own_tag ho hk
  rw [e, h.blk] at h4
  simp at h4
 refine ⟨?_, h.d16, h.b16, h.wf, ?_, ?_, h.hb⟩
 · rw [heap_setCell_same w b 37 _ _ _ h.blk]
   have := cset_mv s h.d16 h.b16 mv
   rw [show (s.setM ms mv).cells = ({ s with mv := mv } : RSto).cells from rfl, ← this]
   simp
 · exact own_of_block h.sh (fun k hk => heap_setCell_other _ _ _ _ (a1 k hk).1)
 · exact own_of_block ho (fun k hk => heap_setCell_other _ _ _ _ (hmb k hk))
theorem mk_one {l : List (Int × Int)} : ∀ u ∈ mkC l, u.oneCell' = true := by
 intro u hu
 simp only [mkC, List.mem_flatMap, mkCells] at hu
 obtain ⟨x, _, hx⟩ := hu
 simp at hx
 rcases hx with rfl | rfl <;> rfl
theorem runmark_end {B b n j : Nat} {w w6 : World} {s : RSto} {mv : Value} (h : RRep B w b s) (f6 : Fr [] w w6) (hBw : B ≤ w.heap.size) (hn : s.ms.length = n) (hj : j < n) (ho : w6.ownsRow w.heap.size 129 2 mv (n - 1) (mkC (s.ms.take j) ++ mkC (s.ms.drop (j + 1)))) :
  ∃ mv', RRep B (w6.setCell ⟨b, 37, none⟩ mv) b (s.setM (s.ms.eraseIdx j) mv') ∧ Fr (rfoot b s) w (w6.setCell ⟨b, 37, none⟩ mv) ∧ (∀ k, mv'.ownBlock = some k → w.heap.size ≤ k) := by
 rw [← mkC_erase] at ho
 refine ⟨mv, (h.kept0 f6).setM ?_, (f6.mono (by simp)).setCell _ (Or.inl (by simp [rfoot])), fun k hk => (own_tag ho hk).1⟩
 rw [List.length_eraseIdx_of_lt (by omega), hn]
 exact ⟨ho.1, ho.2.imp id fun ⟨g, cap, cur, e, hb, r⟩ => ⟨g, cap, cur, e, Nat.le_trans hBw hb, r⟩⟩
set_option maxRecDepth 100000 in
set_option maxHeartbeats 1600000 in
theorem runmark_ok (B b : Nat) (s : RSto) (g : Int) (j : Nat) (w : World) (h : RRep B w b s) (hl : s.ms.length ≤ 12) (hf : fi (fun y : Int × Int => y.1 == g) 0 s.ms = (j : Int)) (hj : j < s.ms.length) :
  Calls Tryz.prog 45 #[.pointer (some ⟨b, 0, none⟩), .int .i64 g] w fun e w' => e = .returned (.int .i64 0) ∧ ∃ mv, RRep B w' b (s.setM (s.ms.eraseIdx j) mv) ∧ Fr (rfoot b s) w w' ∧ (∀ k, mv.ownBlock = some k → w.heap.size ≤ k) := by
 obtain ⟨i0, hi, hz0, hz1, hz2⟩ := info_parts info120
 have HS := rmark_any B b s g w h (by omega)
 rw [hf] at HS
 obtain ⟨ao, cap, hmv⟩ := own_shape h.ms
 have ho := h.ms
 rw [hmv] at ho
 obtain ⟨gg, hgg, hcap, hcc⟩ := own_addr ho (by omega)
 subst hgg
 obtain ⟨n, hn⟩ : ∃ n, s.ms.length = n := ⟨_, rfl⟩
 have HO : Hid (RRep B w b s ∧ s.mv = .slice (some ⟨gg, 0, none⟩) n cap ∧ s.ms.length = n ∧ (∀ t, t < n * 2 → w.cell? ⟨gg, t, none⟩ = (mkC s.ms)[t]?)) := ⟨h, by rw [hmv, hn], hn, by rw [← hn]; exact hcc⟩
 have c37 : w.cell? ⟨b, 37, none⟩ = some (.slice (some ⟨gg, 0, none⟩) n cap) := by rw [← hn, ← hmv]; exact h.cells.2.2.2.2.2
 have hBw : B ≤ w.heap.size := by have := h.hb; have := (h.lt b (by simp [rfoot])).2; omega
 have lb := World.block_lt_of_cell? _ _ c37
 have lg := (h.lt gg (by simp [rfoot, hmv, Value.ownBlock])).2
 have q1 : IntKind.i64.wrap ((j : Int) + 1) = (j : Int) + 1 := wrap_fit ⟨by omega, by omega⟩
 have j0 : ¬ ((j : Int) < 0) := by omega
 rw [hn] at hcap hj hl
 have i1 : (j : Int) ≤ (n : Int) := by omega
 have i2 : (j : Int) ≤ (cap : Int) := by omega
 have i3 : (j : Int) + 1 ≤ (n : Int) := by omega
 have i4 : (j : Int) + 1 ≤ (cap : Int) := by omega
 have i5 : (n : Int) ≤ (cap : Int) := by omega
 have i6 : ((j : Int) + 1).toNat = j + 1 := by omega
 clear h hf ho hmv hcc hn
 by_cases hkc : cap = j + 1
 · have hnj : n = j + 1 := by omega
   subst hkc hnj
   go_enter Tryz.func45, Tryz.ntmps45
   go_wp2_with (first
    | (go_at_call 72; refine HS.mono ?_; rintro e w' ⟨rfl, hw'⟩; have hw' := hw'.symm; subst hw')
    | (at_builtin; refine wpList_append_own _ rfl _ _ 84 rfl w.heap.size 129 i0 _ 2 16 Tryz.underlying84 hi hz0 hz1 hz2 rfl (by omega) (.slice none 0 0) 0 [] rfl (World.ownsRow_nil _ _ _ _) ⟨gg, 0, none⟩ j (j + 1) (mkC (s.ms.take j)) rfl (by rw [mkC_len, List.length_take, HO.out.2.2.1, Nat.min_eq_left (by omega)]) (fun t u hu => by
         rw [Addr.add_lit, Nat.zero_add, ← mkC_take] at *
         have ht : t < j * 2 := by
          have := (List.getElem?_eq_some_iff.1 hu).1
          rw [List.length_take] at this
          omega
         rw [List.getElem?_take_of_lt ht] at hu
         rw [HO.out.2.2.2 t (by omega)]
         exact hu) mk_one (by unfold maxLen; omega) (by omega) (Nat.le_refl _) ?_; intro v5 w5 hown5 hgrow5 _
       rw [Nat.zero_add, List.nil_append] at hown5
       have H5 : Hid (w5.ownsRow w.heap.size 129 2 v5 j (mkC (s.ms.take j)) ∧ Fr [] w w5) := ⟨hown5, (Fr.refl _ _).grown hgrow5 (fun x hx => by simp [Value.ownBlock] at hx)⟩
       have c37' : w5.cell? ⟨b, 37, none⟩ = some (.slice (some ⟨gg, 0, none⟩) (j + 1) (j + 1)) := H5.out.2.gb.cell c37 (by simp)
       obtain ⟨ao5, c5, e5⟩ := own_shape H5.out.1
       subst e5
       clear hown5 hgrow5)
    | (at_builtin; refine wpList_append_own _ rfl _ _ 84 rfl w.heap.size 129 i0 _ 2 16 Tryz.underlying84 hi hz0 hz1 hz2 rfl (by omega) (.slice ao5 j c5) j _ rfl H5.out.1 ⟨gg, 0, none⟩ 0 0 [] rfl rfl (by simp) (by simp) (by unfold maxLen; omega) (by omega) (Nat.le_trans (Nat.le_refl _) H5.out.2.size) ?_; intro v6 w6 hown6 hgrow6 _
       rw [Nat.add_zero, List.append_nil] at hown6
       have hd : mkC (s.ms.drop (j + 1)) = [] := by rw [List.drop_of_length_le (by rw [HO.out.2.2.1]; omega)]; rfl
       have H6 : Hid (w6.ownsRow w.heap.size 129 2 v6 (j + 1 - 1) (mkC (s.ms.take j) ++ mkC (s.ms.drop (j + 1))) ∧ Fr [] w w6) := ⟨by rw [hd, List.append_nil]; exact hown6, H5.out.2.grown hgrow6 (fun k hk => Or.inr (own_tag H5.out.1 hk).1)⟩
       have c376 : w6.cell? ⟨b, 37, none⟩ = some (.slice (some ⟨gg, 0, none⟩) (j + 1) (j + 1)) := H6.out.2.gb.cell c37 (by simp)
       have fz : w6.frozen? ⟨b, 37, none⟩ = false := (HO.out.1.kept0 H6.out.2).frozen 37
       obtain ⟨ao6, c6, e6⟩ := own_shape H6.out.1
       subst e6
       clear hown6 hgrow6 hd))
   go_ret
   exact ⟨rfl, runmark_end HO.out.1 H6.out.2 hBw HO.out.2.2.1 hj H6.out.1⟩
 · go_enter Tryz.func45, Tryz.ntmps45
   go_wp2_with (first
    | (go_at_call 72; refine HS.mono ?_; rintro e w' ⟨rfl, hw'⟩; have hw' := hw'.symm; subst hw')
    | (at_builtin; refine wpList_append_own _ rfl _ _ 84 rfl w.heap.size 129 i0 _ 2 16 Tryz.underlying84 hi hz0 hz1 hz2 rfl (by omega) (.slice none 0 0) 0 [] rfl (World.ownsRow_nil _ _ _ _) ⟨gg, 0, none⟩ j cap (mkC (s.ms.take j)) rfl (by rw [mkC_len, List.length_take, HO.out.2.2.1, Nat.min_eq_left (by omega)]) (fun t u hu => by
         rw [Addr.add_lit, Nat.zero_add, ← mkC_take] at *
         have ht : t < j * 2 := by
          have := (List.getElem?_eq_some_iff.1 hu).1
          rw [List.length_take] at this
          omega
         rw [List.getElem?_take_of_lt ht] at hu
         rw [HO.out.2.2.2 t (by omega)]
         exact hu) mk_one (by unfold maxLen; omega) (by omega) (Nat.le_refl _) ?_; intro v5 w5 hown5 hgrow5 _
       rw [Nat.zero_add, List.nil_append] at hown5
       have H5 : Hid (w5.ownsRow w.heap.size 129 2 v5 j (mkC (s.ms.take j)) ∧ Fr [] w w5) := ⟨hown5, (Fr.refl _ _).grown hgrow5 (fun x hx => by simp [Value.ownBlock] at hx)⟩
       have c37' : w5.cell? ⟨b, 37, none⟩ = some (.slice (some ⟨gg, 0, none⟩) n cap) := H5.out.2.gb.cell c37 (by simp)
       obtain ⟨ao5, c5, e5⟩ := own_shape H5.out.1
       subst e5
       clear hown5 hgrow5)
    | (at_builtin; refine wpList_append_own _ rfl _ _ 84 rfl w.heap.size 129 i0 _ 2 16 Tryz.underlying84 hi hz0 hz1 hz2 rfl (by omega) (.slice ao5 j c5) j _ rfl H5.out.1 ⟨gg, (j + 1) * 2, none⟩ (n - (j + 1)) (cap - (j + 1)) (mkC (s.ms.drop (j + 1))) rfl (by rw [mkC_len, List.length_drop, HO.out.2.2.1]) (fun t u hu => by
         rw [Addr.add_lit]
         have ht : t < (n - (j + 1)) * 2 := by
          have := (List.getElem?_eq_some_iff.1 hu).1
          rw [mkC_len, List.length_drop, HO.out.2.2.1] at this
          exact this
         rw [← mkC_drop, List.getElem?_drop, ← HO.out.2.2.2 _ (by omega)] at hu
         exact H5.out.2.gb.cell hu (by simp)) mk_one (by unfold maxLen; omega) (by omega) (Nat.le_trans (Nat.le_refl _) H5.out.2.size) ?_; intro v6 w6 hown6 hgrow6 _
       rw [show j + (n - (j + 1)) = n - 1 by omega] at hown6
       have H6 : Hid (w6.ownsRow w.heap.size 129 2 v6 (n - 1) (mkC (s.ms.take j) ++ mkC (s.ms.drop (j + 1))) ∧ Fr [] w w6) := ⟨hown6, H5.out.2.grown hgrow6 (fun k hk => Or.inr (own_tag H5.out.1 hk).1)⟩
       have c376 : w6.cell? ⟨b, 37, none⟩ = some (.slice (some ⟨gg, 0, none⟩) n cap) := H6.out.2.gb.cell c37 (by simp)
       have fz : w6.frozen? ⟨b, 37, none⟩ = false := (HO.out.1.kept0 H6.out.2).frozen 37
       obtain ⟨ao6, c6, e6⟩ := own_shape H6.out.1
       subst e6
       clear hown6 hgrow6))
   go_ret
   exact ⟨rfl, runmark_end HO.out.1 H6.out.2 hBw HO.out.2.2.1 hj H6.out.1⟩
theorem info108 : (Tryz.prog.info? 117).map (fun i => (i.size, i.bytes)) = some (36, 416) := by kernel_rfl
theorem info108z : ((Tryz.prog.info? 117).bind (fun i => i.zero)).map (fun z => z.cells.size) = some 36 := by kernel_rfl
def RHs (s : RSto) (g : Int) : Bool := s.sh.any (fun x => x.guid == g) || s.ms.any (fun x => x.1 == g)
structure RNxt (s : RSto) (n : Int) : Prop where
 lo : s.last < n
 hi : n ≤ s.last + 25
 no : ∀ k, s.last < k → k < n → RHs s (1000000 * s.id + k) = true
 yes : RHs s (1000000 * s.id + n) = false
def RSto.snap (s : RSto) (n t : Int) (sv : Value) : RSto :=
 { s with now := s.now + 1, last := n, sh := s.sh ++ [⟨1000000 * s.id + n, t, 0, s.now + 1, s.dat, s.born⟩], sv := sv }
theorem cset_sv (s : RSto) (hd : s.dat.length = 16) (hb : s.born.length = 16) (v : Value) : s.cells.set 36 v = { s with sv := v }.cells := by
 unfold RSto.cells
 rw [List.set_append_right _ _ (by simp), show 36 - [Value.int .i64 s.id, .int .i64 s.blocks, .int .i64 s.now, .int .i64 s.last].length = 32 by simp, List.set_append_right _ _ (by simp [datC, hd]), show 32 - (datC s.dat).length = 16 by simp [datC, hd], List.set_append_right _ _ (by simp [bornC, hb]), show 16 - (bornC s.born).length = 0 by simp [bornC, hb]]
 rfl
theorem RRep.appended {B : Nat} {w w' : World} {b : Nat} {s : RSto} (h : RRep B w b s) {x : RSh} (hx : x.wf) {sv : Value} (ho : w'.ownsRow B 117 36 sv (s.sh.length + 1) (rshC s.sh ++ x.cells)) (hg : w.grownBy w' s.sv.ownBlock) :
  RRep B (w'.setCell ⟨b, 36, none⟩ sv) b { s with sh := s.sh ++ [x], sv := sv } := by
 obtain ⟨a1, a2⟩ := h.apart
 have hb : w'.heap[b]? = some (.cells s.cells.toArray 86 (0, 0)) := by rw [hg.block b (h.lt b (by simp [rfoot])).2 (fun e => (a1 b e.symm).1 rfl)]; exact h.blk
 have hsb : ∀ k, sv.ownBlock = some k → k ≠ b := fun k hk e => by
  obtain ⟨_, cur, h4⟩ := own_tag ho hk
  rw [e, hb] at h4
  simp at h4
 refine ⟨?_, h.d16, h.b16, fun y hy => ?_, ?_, ?_, h.hb⟩
 · rw [heap_setCell_same w' b 36 _ _ _ hb]
   have := cset_sv s h.d16 h.b16 sv
   rw [show ({ s with sh := s.sh ++ [x], sv := sv } : RSto).cells = ({ s with sv := sv } : RSto).cells from rfl, ← this]
   simp
 · rcases List.mem_append.1 hy with hy | hy
   · exact h.wf y hy
   · have : y = x := by simpa using hy
     rw [this]; exact hx
 · refine own_of_block (w := w') ?_ (fun k hk => heap_setCell_other _ _ _ _ (hsb k hk))
   show w'.ownsRow B 117 36 sv (s.sh ++ [x]).length (rshC (s.sh ++ [x]))
   rw [show rshC (s.sh ++ [x]) = rshC s.sh ++ x.cells by simp [rshC], List.length_append]
   exact ho
 · refine own_of_block h.ms (fun k hk => ?_)
   rw [heap_setCell_other _ _ _ _ (a2 k hk), hg.block k (h.ms.lt k hk).2 (fun e => (a1 k e.symm).2 hk)]
set_option maxRecDepth 100000 in
theorem run_build108 (p t q : Int) (W : World) : ∀ (cs : List Value), cs.length = 32 → (Instr.build 117 #[(0, .int .i64 p), (1, .int .i64 t), (3, .int .i64 q), (4, .agg cs.toArray)]).run Tryz.prog W = .ok (.agg (.int .i64 p :: .int .i64 t :: .int .i64 0 :: .int .i64 q :: cs).toArray) W
 | a0 :: a1 :: a2 :: a3 :: a4 :: a5 :: a6 :: a7 :: a8 :: a9 :: a10 :: a11 :: a12 :: a13 :: a14 :: a15 :: a16 :: a17 :: a18 :: a19 :: a20 :: a21 :: a22 :: a23 :: a24 :: a25 :: a26 :: a27 :: a28 :: a29 :: a30 :: a31   :: [], _ => by kernel_rfl
set_option maxRecDepth 100000 in
theorem run_bslice80 (W : World) : ∀ (X : List Value), X.length = 36 → (Instr.buildSlice 83 1 #[(0, .agg X.toArray)]).run Tryz.prog W = .ok (.slice (some ⟨W.heap.size, 0, none⟩) 1 1) (W.alloc (.cells X.toArray 117))
 | a0 :: a1 :: a2 :: a3 :: a4 :: a5 :: a6 :: a7 :: a8 :: a9 :: a10 :: a11 :: a12 :: a13 :: a14 :: a15 :: a16 :: a17 :: a18 :: a19 :: a20 :: a21 :: a22 :: a23 :: a24 :: a25 :: a26 :: a27 :: a28 :: a29 :: a30 :: a31 :: a32 :: a33 :: a34 :: a35 :: [], _ => by kernel_rfl
theorem size79 : (Tryz.prog.info? 82).map (·.size) = some 32 := by kernel_rfl
theorem RRep.range {B : Nat} {w : World} {b : Nat} {s : RSto} (h : RRep B w b s) : w.rangeAt b 4 (datC s.dat ++ bornC s.born) := by
 intro j v hv
 have hj : j < 32 := by
  have := (List.getElem?_eq_some_iff.1 hv).1
  simpa [datC, bornC, h.d16, h.b16] using this
 rw [cell_of h.blk, List.getElem?_toArray]
 unfold RSto.cells
 rw [List.getElem?_append_right (by simp), show 4 + j - [Value.int .i64 s.id, .int .i64 s.blocks, .int .i64 s.now, .int .i64 s.last].length = j by simp, ← List.append_assoc, List.getElem?_append_left (by simp [datC, bornC, h.d16, h.b16]; omega)]
 exact hv
theorem la3 (a : Addr) (W : World) : (Instr.loadAt 3 (.pointer (some a))).run Tryz.prog W = (load a).run Tryz.prog W := by
 simp only [Instr.loadAt, Instr.sureAddr, loadVar, Sem.run_bind, Sem.run_pure, Result.andThen_ok, Tryz.isAgg3]
 rfl
theorem la80 (a : Addr) (W : World) : (Instr.loadAt 83 (.pointer (some a))).run Tryz.prog W = (load a).run Tryz.prog W := by
 simp only [Instr.loadAt, Instr.sureAddr, loadVar, Sem.run_bind, Sem.run_pure, Result.andThen_ok, Tryz.isAgg83]
 rfl
theorem rsnap_end {B b cap cap1 gg : Nat} {ao : Option Addr} {s : RSto} {n t : Int} {w w1 w9 : World} {X : List Value} (hR : RRep B w1 b { s with now := s.now + 1, last := n }) (hF : Fr (rfoot b s) w w1) (hz : w1.heap.size = w.heap.size) (hsv : s.sv = .slice ao s.sh.length cap)
  (hX : (Value.int .i64 (1000000 * s.id + n) :: .int .i64 t :: .int .i64 0 :: .int .i64 (s.now + 1) :: (datC s.dat ++ bornC s.born)) = X) (hd : s.dat.length = 16) (hb : s.born.length = 16)
  (hown : w9.ownsRow B 117 36 (.slice (some ⟨gg, 0, none⟩) (s.sh.length + 1) cap1) (s.sh.length + 1) (rshC s.sh ++ X)) (hgrow : (w1.alloc (.cells X.toArray 117)).drew.grownBy w9 (Value.slice ao s.sh.length cap).ownBlock) (hat : (Value.slice ao s.sh.length cap).ownBlock = some gg ∨ gg = w1.heap.size + 1) :
  ∃ sv, RRep B (w9.setCell ⟨b, 36, none⟩ (.slice (some ⟨gg, 0, none⟩) (s.sh.length + 1) cap1)) b (s.snap n t sv) ∧ Fr (rfoot b s) w (w9.setCell ⟨b, 36, none⟩ (.slice (some ⟨gg, 0, none⟩) (s.sh.length + 1) cap1)) ∧ (∀ k, sv.ownBlock = some k → s.sv.ownBlock = some k ∨ w.heap.size ≤ k) := by
 rw [← hsv] at hgrow hat
 have hg1 : w1.grownBy w9 s.sv.ownBlock := ⟨hgrow.os, hgrow.tape, hgrow.output, by have := hgrow.size; simp at this; omega, fun k hk hne => (hgrow.block k (by simp; omega) hne).trans (Below.heap_alloc w1 _ k hk)⟩
 have hx : (⟨1000000 * s.id + n, t, 0, s.now + 1, s.dat, s.born⟩ : RSh).cells = X := by rw [← hX]; rfl
 refine ⟨_, hR.appended (x := ⟨1000000 * s.id + n, t, 0, s.now + 1, s.dat, s.born⟩) ⟨hd, hb⟩ (by rw [hx]; exact hown) hg1, (hF.grown hg1 (fun k hk => Or.inl (by simp [rfoot, hk]))).setCell _ (Or.inl (by simp [rfoot])), fun k hk => ?_⟩
 have e : gg = k := by simpa [Value.ownBlock] using hk
 subst e
 rcases hat with h | h
 · exact Or.inl h
 · exact Or.inr (by omega)
end Go.Proofs.YthdhegmlknpllaaGreat
