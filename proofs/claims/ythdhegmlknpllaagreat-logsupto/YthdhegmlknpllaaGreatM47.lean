import Derived.Test.YthdhegmlknpllaaGreatM30
import Derived.Test.YthdhegmlknpllaaGreatM24
import Derived.Test.YthdhegmlknpllaaGreatM19
import Derived.Laws.AppendOwnNone
namespace Go.Proofs.YthdhegmlknpllaaGreat
open Go.RowKit Go.Maps Go.MuLone
attribute [-go_sem] Instr.loadAt Instr.storeAt
theorem step_append_own {P : Program} {w : World} {ops : Array Oper} {o : Oper} {a : Act} {K : Act → World → Prop} {Q : Exit → Act → World → Prop} {E : Prop} (hgd : o.guard = none) (s x : Operand) (t : TypeId)
  (ho : o.op = .call { callee := .builtin .append, args := #[s, x], argTypes := #[t, t] })
  (base : Nat) (e : TypeId) (i : TypeInfo) (z : Value) (size bytes : Nat) (ht : P.underlying t = some (.slice e)) (hi : P.info? e = some i) (hz : i.zero = some z)
  (hsize : i.size = size) (hby : i.bytes = bytes) (hzs : z.cells.size = size) (hsz : 0 < size)
  (v : Value) (n : Nat) (xs : List Value) (hs : a.eval s = v) (hown : w.ownsRow base e size v n xs)
  (ad : Addr) (m c : Nat) (news : List Value) (hx : a.eval x = .slice (some ad) m c) (hl : news.length = m * size) (hnews : ∀ j u, news[j]? = some u → w.cell? (ad.add j) = some u) (h1 : ∀ u ∈ news, u.oneCell' = true)
  (h63 : n + m ≤ maxLen) (hbytes : (n + m) * bytes ≤ 140737488355328) (hbase : base ≤ w.heap.size)
  (h : ∀ v' w', w'.ownsRow base e size v' (n + m) (xs ++ news) → w.grownBy w' v.ownBlock → (v'.ownBlock = v.ownBlock ∨ v'.ownBlock = some w.heap.size) → K (a.put o.dst v') w') :
  if Region.wanted o (yielded ops a.tmps) = true then Oper.wp P o a w K Q else E := by
 have hw : Region.wanted o (yielded ops a.tmps) = true := by simp [Region.wanted, hgd]
 rw [if_pos hw]
 obtain ⟨v', w', hr, h2, h3, h4, h5⟩ := run_append_own_at (P := P) w base t o.type e i z size bytes ht hi hz hsize hby hzs hsz v n xs hown ad m c news hl hnews h1 h63 hbytes hbase
 unfold Oper.wp execOp
 simp only [ho, resolve, invoke, builtin, Sem.run_bind, Sem.run_pure, Result.andThen_ok, List.map_toArray, List.map_cons, List.map_nil, hs, hx, hr]
 exact h v' w' h2 h3 h5
theorem step_append_none {P : Program} {w : World} {ops : Array Oper} {o : Oper} {a : Act} {K : Act → World → Prop} {Q : Exit → Act → World → Prop} {E : Prop} (hgd : o.guard = none) (s x : Operand) (t : TypeId)
  (ho : o.op = .call { callee := .builtin .append, args := #[s, x], argTypes := #[t, t] })
  (base : Nat) (e : TypeId) (i : TypeInfo) (size : Nat) (ht : P.underlying t = some (.slice e)) (hi : P.info? e = some i)
  (v : Value) (n : Nat) (xs : List Value) (hs : a.eval s = v) (hown : w.ownsRow base e size v n xs) (hx : a.eval x = .slice none 0 0)
  (h : K (a.put o.dst v) w) :
  if Region.wanted o (yielded ops a.tmps) = true then Oper.wp P o a w K Q else E := by
 have hw : Region.wanted o (yielded ops a.tmps) = true := by simp [Region.wanted, hgd]
 rw [if_pos hw]
 have hrun := run_append_owned_none (P := P) (w := w) base t o.type e i size ht hi v n xs hown
 unfold Oper.wp
 simp [execOp, ho, resolve, invoke, builtin, hs, hx, hrun, Result.andThen]
 exact h
theorem size86 : (Tryz.prog.info? 86).map (·.size) = some 38 := by kernel_rfl
theorem la84 (a : Addr) (W : World) : (Instr.loadAt 84 (.pointer (some a))).run Tryz.prog W = (load a).run Tryz.prog W := by
 simp only [Instr.loadAt, Instr.sureAddr, loadVar, Sem.run_bind, Sem.run_pure, Result.andThen_ok, Tryz.isAgg84]
 rfl
theorem sa84 (a : Addr) (p : Option Addr) (n c : Nat) (W : World) : (Instr.storeAt 84 (.pointer (some a)) (.slice p n c)).run Tryz.prog W = (store a (.slice p n c)).run Tryz.prog W := by
 simp [go_sem, Instr.storeAt]
theorem rsto_len {s : RSto} (hd : s.dat.length = 16) (hb : s.born.length = 16) : s.cells.length = 38 := by simp [RSto.cells, datC, bornC, hd, hb]
theorem cells_set2 (s : RSto) (hd : s.dat.length = 16) (hb : s.born.length = 16) (v u : Value) : (s.cells.set 36 v).set 37 u = ({ s with sv := v, mv := u } : RSto).cells := by
 have e : ∀ (t : RSto), t.dat.length = 16 → t.born.length = 16 → t.cells = ([.int .i64 t.id, .int .i64 t.blocks, .int .i64 t.now, .int .i64 t.last] ++ (datC t.dat ++ bornC t.born)) ++ [t.sv, t.mv] := fun t _ _ => by simp [RSto.cells]
 have hl : ([Value.int .i64 s.id, .int .i64 s.blocks, .int .i64 s.now, .int .i64 s.last] ++ (datC s.dat ++ bornC s.born)).length = 36 := by simp [datC, bornC, hd, hb]
 rw [e s hd hb, e { s with sv := v, mv := u } hd hb]
 rw [List.set_append_right _ _ (by omega), List.set_append_right _ _ (by omega), hl]
 rfl
set_option maxRecDepth 100000 in
set_option maxHeartbeats 3200000 in
theorem clone_any (B b : Nat) (s : RSto) (w : World) (h : RRep B w b s) (hl : s.sh.length ≤ 12) (hm : s.ms.length ≤ 12) :
  Calls Tryz.prog 15 #[.pointer (some ⟨b, 0, none⟩)] w fun e w' => ∃ cb sv mv, e = .returned (.pointer (some ⟨cb, 0, none⟩)) ∧ RRep w.heap.size w' cb { s with sv := sv, mv := mv } ∧ Fr [] w w' := by
 have hcl := rsto_len h.d16 h.b16
 have hld := run_loadAt_mid (P := Tryz.prog) w b 0 86 s.cells _ (fun j v hv => by
  rw [Nat.zero_add, cell_of h.blk, List.getElem?_toArray]
  exact hv) Tryz.underlying86 rfl (by rw [hcl]; exact size86)
 have hone : ∀ v ∈ s.cells, v.oneCell' = true := fun u hu => by
  obtain ⟨a1, c1, e1⟩ := own_shape h.sh
  obtain ⟨a2, c2, e2⟩ := own_shape h.ms
  simp only [RSto.cells, List.mem_cons, List.mem_append, datC, bornC, List.mem_map, List.not_mem_nil, or_false] at hu
  rcases hu with (rfl | rfl | rfl | rfl) | ⟨_, _, rfl⟩ | ⟨_, _, rfl⟩ | rfl | rfl
  · rfl
  · rfl
  · rfl
  · rfl
  · rfl
  · rfl
  · rw [e1]; rfl
  · rw [e2]; rfl
 have hst : ∀ (W : World) (z : Array Value), z.size = 38 → (Instr.storeAt 86 (.pointer (some ⟨W.heap.size, 0, none⟩)) (.agg s.cells.toArray)).run Tryz.prog (W.alloc (.cells z 86)) = .ok () (W.alloc (.cells s.cells.toArray 86)) := fun W z hz => by
  have e38 : s.cells.toArray.size = 38 := by simp [hcl]
  exact run_storeAt_new W 86 z s.cells.toArray (by rw [e38]; exact size86) (by rw [hz, e38]) (all_oneCell_toArray hone)
 obtain ⟨X, hX⟩ : ∃ X, s.cells.toArray = X := ⟨_, rfl⟩
 rw [hX] at hld hst
 obtain ⟨V, hV⟩ : ∃ V, Value.agg X = V := ⟨_, rfl⟩
 rw [hV] at hld hst
 have l83 := la80
 have l84 := la84
 have s83 := sa83
 have s84 := sa84
 have b1 : (w.alloc (.cells X 86)).heap[w.heap.size]? = some (.cells X 86 (0, 0)) := heap_alloc_new w _
 have k36 : (w.alloc (.cells X 86)).cell? ⟨w.heap.size, 36, none⟩ = some s.sv := by
  rw [cell_of b1, ← hX, List.getElem?_toArray]
  exact (by simp [RSto.cells, datC, bornC, h.d16, h.b16] : s.cells[36]? = some s.sv)
 have k37 : (w.alloc (.cells X 86)).cell? ⟨w.heap.size, 37, none⟩ = some s.mv := by
  rw [cell_of b1, ← hX, List.getElem?_toArray]
  exact (by simp [RSto.cells, datC, bornC, h.d16, h.b16] : s.cells[37]? = some s.mv)
 have z36 := froz_of b1 36
 have z37 := froz_of b1 37
 obtain ⟨a1, c1, e1⟩ := own_shape h.sh
 obtain ⟨a2, c2, e2⟩ := own_shape h.ms
 have m36 : w.cell? ⟨b, 36, none⟩ = some (.slice a1 s.sh.length c1) := by rw [← e1]; exact h.cells.2.2.2.2.1
 have m37 : w.cell? ⟨b, 37, none⟩ = some (.slice a2 s.ms.length c2) := by rw [← e2]; exact h.cells.2.2.2.2.2
 have hbw : b < w.heap.size := (Array.getElem?_eq_some_iff.1 h.blk).1
 have HR : Hid (RRep B w b s ∧ s.cells.toArray = X ∧ s.sh.length ≤ 12 ∧ s.ms.length ≤ 12) := ⟨h, hX, hl, hm⟩
 rw [e1] at k36
 rw [e2] at k37
 clear h hX hV hone hcl hl hm b1
 go_enter Tryz.func15, Tryz.ntmps15
 go_wp2
 obtain ⟨W2, hW2⟩ : ∃ W2, w.alloc (.cells (X.setIfInBounds 36 (.slice none 0 0)) 86) = W2 := ⟨_, rfl⟩
 obtain ⟨cb, hcb⟩ : ∃ cb, w.heap.size = cb := ⟨_, rfl⟩
 have f2 : Fr [] w W2 := by rw [← hW2]; exact (Fr.refl _ _).alloc _
 have b2 : W2.heap[cb]? = some (.cells (X.setIfInBounds 36 (.slice none 0 0)) 86 (0, 0)) := by rw [← hW2, ← hcb]; exact heap_alloc_new w _
 have hX38 : X.size = 38 := by rw [← HR.out.2.1, List.size_toArray]; exact rsto_len HR.out.1.d16 HR.out.1.b16
 have k36b : W2.cell? ⟨cb, 36, none⟩ = some (.slice none 0 0) := by rw [cell_of b2, Array.getElem?_setIfInBounds_self_of_lt (by omega)]
 have z36b := froz_of b2 36
 have n36 : W2.cell? ⟨b, 36, none⟩ = some (.slice a1 s.sh.length c1) := f2.gb.cell m36 (by simp)
 rw [hW2, hcb]
 have HB : Hid (Fr [] w W2 ∧ W2.heap[cb]? = some (.cells (X.setIfInBounds 36 (.slice none 0 0)) 86 (0, 0)) ∧ X.size = 38 ∧ w.heap.size = cb ∧ w.cell? ⟨b, 37, none⟩ = some (.slice a2 s.ms.length c2) ∧ s.sv = .slice a1 s.sh.length c1 ∧ s.mv = .slice a2 s.ms.length c2) := ⟨f2, b2, hX38, hcb, m37, e1, e2⟩
 clear hW2 hcb f2 b2 hX38 k36 k37 z36 z37 m36 m37 hst hld e1 e2 hbw
 have HA : Hid ((∀ x ∈ s.sh, x.wf) ∧ s.sh.length ≤ 12) := ⟨HR.out.1.wf, HR.out.2.2.1⟩
 have hn := HA.out.2
 have hrow := HR.out.1.sh
 rw [HB.out.2.2.2.2.2.1] at hrow
 obtain ⟨n, hnn⟩ : ∃ n, s.sh.length = n := ⟨_, rfl⟩
 rw [hnn] at hn hrow n36
 have hcases := own_addr0 hrow
 obtain ⟨i0, hi⟩ : ∃ i0, Tryz.prog.info? 117 = some i0 := by
  cases hq : Tryz.prog.info? 117 with
  | none => have := info108; rw [hq] at this; cases this
  | some i => exact ⟨i, rfl⟩
 obtain ⟨hz1, hz2⟩ : i0.size = 36 ∧ i0.bytes = 416 := by have := info108; rw [hi] at this; simpa using this
 obtain ⟨z0, hz0, hzs⟩ : ∃ z, i0.zero = some z ∧ z.cells.size = 36 := by
  have := info108z
  rw [hi] at this
  simpa using this
 obtain ⟨j0, hj, jz0, jz1, jz2⟩ := info_parts info120
 have HC2 : Hid (∀ w5, Fr [] W2 w5 → w5.heap[cb]? = some (.cells (X.setIfInBounds 36 (.slice none 0 0)) 86 (0, 0)) ∧ w5.cell? ⟨cb, 36, none⟩ = some (.slice none 0 0) ∧ w5.frozen? ⟨cb, 36, none⟩ = false ∧ w5.cell? ⟨cb, 37, none⟩ = some (.slice a2 s.ms.length c2) ∧ w5.frozen? ⟨cb, 37, none⟩ = false) := fun w5 f5 => by
  have b5 : w5.heap[cb]? = some (.cells (X.setIfInBounds 36 (.slice none 0 0)) 86 (0, 0)) := by rw [f5.block cb (Array.getElem?_eq_some_iff.1 HB.out.2.1).1 (by simp)]; exact HB.out.2.1
  refine ⟨b5, f5.gb.cell k36b (by simp), froz_of b5 _, ?_, froz_of b5 _⟩
  rw [cell_of b5, Array.getElem?_setIfInBounds_ne (by omega), ← HR.out.2.1, List.getElem?_toArray, (cells_end s HR.out.1.d16 HR.out.1.b16).2, HB.out.2.2.2.2.2.2]
 have HG : Hid (∀ (w5 : World) (v5 : Value), w5.ownsRow cb 117 36 v5 n (rshC s.sh) → Fr [] W2 w5 → (w5.setCell ⟨cb, 36, none⟩ v5).heap[cb]? = some (.cells (X.setIfInBounds 36 v5) 86 (0, 0)) ∧ (w5.setCell ⟨cb, 36, none⟩ v5).ownsRow cb 117 36 v5 n (rshC s.sh) ∧ Fr [] w (w5.setCell ⟨cb, 36, none⟩ v5) ∧ (w5.setCell ⟨cb, 36, none⟩ v5).cell? ⟨cb, 37, none⟩ = some (.slice a2 s.ms.length c2) ∧ (w5.setCell ⟨cb, 36, none⟩ v5).frozen? ⟨cb, 37, none⟩ = false ∧ (w5.setCell ⟨cb, 36, none⟩ v5).cell? ⟨b, 37, none⟩ = some (.slice a2 s.ms.length c2)) := fun w5 v5 ho f5 => by
  obtain ⟨b5, _, _, c37, _⟩ := HC2.out w5 f5
  have b6 : (w5.setCell ⟨cb, 36, none⟩ v5).heap[cb]? = some (.cells (X.setIfInBounds 36 v5) 86 (0, 0)) := by
   rw [heap_setCell_same _ _ _ _ _ _ b5]
   simp [Array.setIfInBounds_setIfInBounds]
  have f6 : Fr [] w (w5.setCell ⟨cb, 36, none⟩ v5) := (HB.out.1.trans f5 (by simp)).setCell _ (Or.inr (by rw [HB.out.2.2.2.1]; exact Nat.le_refl _))
  refine ⟨b6, own_of_block ho (fun j hj => heap_setCell_other _ _ _ _ (fun e => ?_)), f6, ?_, froz_of b6 _, f6.gb.cell HB.out.2.2.2.2.1 (by simp)⟩
  · obtain ⟨_, cur, h4⟩ := own_tag ho hj
    rw [e, b5] at h4
    simp at h4
  · rw [cell_of b6, Array.getElem?_setIfInBounds_ne (by omega)]
    rw [cell_of b5, Array.getElem?_setIfInBounds_ne (by omega)] at c37
    exact c37
 have HNn : Hid (s.sh.length = n) := hnn
 have hcbW : cb ≤ W2.heap.size := by have := (Array.getElem?_eq_some_iff.1 HB.out.2.1).1; omega
 have HCc : Hid (∀ gg, a1 = some ⟨gg, 0, none⟩ → ∀ t u, (rshC s.sh)[t]? = some u → W2.cell? ⟨gg, t, none⟩ = some u) := fun gg ha t u hu => by
  rcases hcases with ⟨h1, _⟩ | ⟨g', h1, _, h2⟩
  · rw [ha] at h1; cases h1
  · rw [ha] at h1
    simp at h1
    have ht : t < n * 36 := by
     have := (List.getElem?_eq_some_iff.1 hu).1
     rw [rshC_len _ HA.out.1, HNn.out] at this
     exact this
    rw [h1]
    exact HB.out.1.gb.cell ((h2 t ht).trans hu) (by simp)
 have hca : a1 = none ∧ n = 0 ∧ c1 = 0 ∨ ∃ gg, a1 = some ⟨gg, 0, none⟩ := hcases.imp id (fun ⟨g, h, _⟩ => ⟨g, h⟩)
 clear hcases hrow hnn
 rcases hca with ⟨rfl, rfl, rfl⟩ | ⟨gg, rfl⟩
 all_goals
  go_region_law (first
   | (refine step_append_none (by rfl) _ _ 83 (by rfl) cb 117 i0 36 Tryz.underlying83 hi (.slice none 0 0) 0 [] (by rfl) (World.ownsRow_nil _ _ _ _) (by rfl) ?_
      obtain ⟨w5, hw5⟩ : ∃ w5, w5 = W2.drew := ⟨_, rfl⟩
      have H5 : Hid (w5.ownsRow cb 117 36 (.slice none 0 0) 0 (rshC s.sh) ∧ Fr [] W2 w5) := ⟨by rw [List.length_eq_zero_iff.1 HNn.out]; exact World.ownsRow_nil _ _ _ _, by rw [hw5]; exact (Fr.refl _ _).drew⟩
      obtain ⟨_, p36, q36, p37, q37⟩ := HC2.out w5 H5.out.2
      rw [← hw5]
      clear hw5
      obtain ⟨v5, W6, hW6, HW6⟩ : ∃ v5 W6, w5.setCell ⟨cb, 36, none⟩ (.slice none 0 0) = W6 ∧ Hid (W6.heap[cb]? = some (.cells (X.setIfInBounds 36 v5) 86 (0, 0)) ∧ W6.ownsRow cb 117 36 v5 0 (rshC s.sh) ∧ Fr [] w W6 ∧ W6.cell? ⟨cb, 37, none⟩ = some (.slice a2 s.ms.length c2) ∧ W6.frozen? ⟨cb, 37, none⟩ = false ∧ W6.cell? ⟨b, 37, none⟩ = some (.slice a2 s.ms.length c2)) := ⟨_, _, rfl, HG.out w5 _ H5.out.1 H5.out.2⟩)
   | (refine step_append_own (by rfl) _ _ 83 (by rfl) cb 117 i0 _ 36 416 Tryz.underlying83 hi hz0 hz1 hz2 hzs (by omega) (.slice none 0 0) 0 [] (by rfl) (World.ownsRow_nil _ _ _ _) ⟨gg, 0, none⟩ n c1 (rshC s.sh) (by rfl) (by rw [rshC_len _ HA.out.1, HNn.out]) (fun t u hu => by
        rw [Addr.add_lit, Nat.zero_add]
        exact HCc.out gg rfl t u hu) rsh_one (by unfold maxLen; omega) (by omega) hcbW ?_; intro v5 w5 hown5 hgrow5 _
      rw [Nat.zero_add, List.nil_append] at hown5
      obtain ⟨ao5, c5, e5⟩ := own_shape hown5
      subst e5
      have H5 : Hid (w5.ownsRow cb 117 36 (.slice ao5 n c5) n (rshC s.sh) ∧ Fr [] W2 w5) := ⟨hown5, ((Fr.refl [] W2).drew).grown hgrow5 (fun x hx => by simp [Value.ownBlock] at hx)⟩
      obtain ⟨_, p36, q36, p37, q37⟩ := HC2.out w5 H5.out.2
      clear hown5 hgrow5
      obtain ⟨v5, W6, hW6, HW6⟩ : ∃ v5 W6, w5.setCell ⟨cb, 36, none⟩ (.slice ao5 n c5) = W6 ∧ Hid (W6.heap[cb]? = some (.cells (X.setIfInBounds 36 v5) 86 (0, 0)) ∧ W6.ownsRow cb 117 36 v5 n (rshC s.sh) ∧ Fr [] w W6 ∧ W6.cell? ⟨cb, 37, none⟩ = some (.slice a2 s.ms.length c2) ∧ W6.frozen? ⟨cb, 37, none⟩ = false ∧ W6.cell? ⟨b, 37, none⟩ = some (.slice a2 s.ms.length c2)) := ⟨_, _, rfl, HG.out w5 _ H5.out.1 H5.out.2⟩))
 all_goals
  try rw [hW6]
  have k37 := HW6.out.2.2.2.1
  have z37 := HW6.out.2.2.2.2.1
  clear hW6 p36 q36 p37 q37 H5 HC2 HG HCc k36b z36b n36
  go_wp2
  obtain ⟨N, hN⟩ : ∃ N, N = s.sh.length := ⟨_, rfl⟩
  have HW6' : Hid (W6.heap[cb]? = some (.cells (X.setIfInBounds 36 v5) 86 (0, 0)) ∧ W6.ownsRow cb 117 36 v5 N (rshC s.sh) ∧ Fr [] w W6 ∧ N = s.sh.length) := ⟨HW6.out.1, by rw [hN, HNn.out]; exact HW6.out.2.1, HW6.out.2.2.1, hN⟩
  clear HW6 k37 z37 hN
  obtain ⟨W7, hW7⟩ : ∃ W7, W6.setCell ⟨cb, 37, none⟩ (.slice none 0 0) = W7 := ⟨_, rfl⟩
  have b7 : W7.heap[cb]? = some (.cells ((X.setIfInBounds 36 v5).setIfInBounds 37 (.slice none 0 0)) 86 (0, 0)) := by
   rw [← hW7, heap_setCell_same _ _ _ _ _ _ HW6'.out.1]
  have f7 : Fr [] w W7 := by rw [← hW7]; exact HW6'.out.2.2.1.setCell _ (Or.inr (by rw [HB.out.2.2.2.1]; exact Nat.le_refl _))
  have o7 : W7.ownsRow cb 117 36 v5 N (rshC s.sh) := by
   rw [← hW7]
   refine own_of_block HW6'.out.2.1 (fun j hj => heap_setCell_other _ _ _ _ (fun e => ?_))
   obtain ⟨_, cur, h4⟩ := own_tag HW6'.out.2.1 hj
   rw [e, HW6'.out.1] at h4
   simp at h4
  rw [hW7]
  have HE : Hid (W7.heap[cb]? = some (.cells ((X.setIfInBounds 36 v5).setIfInBounds 37 (.slice none 0 0)) 86 (0, 0)) ∧ Fr [] w W7 ∧ W7.ownsRow cb 117 36 v5 N (rshC s.sh) ∧ N = s.sh.length) := ⟨b7, f7, o7, HW6'.out.2.2.2⟩
  have k37b : W7.cell? ⟨cb, 37, none⟩ = some (.slice none 0 0) := by rw [cell_of b7, Array.getElem?_setIfInBounds_self_of_lt (by simp [HB.out.2.2.1])]
  have z37b := froz_of b7 37
  have n37 : W7.cell? ⟨b, 37, none⟩ = some (.slice a2 s.ms.length c2) := f7.gb.cell HB.out.2.2.2.2.1 (by simp)
  clear hW7 b7 f7 o7 HW6'
  have hmrow := HR.out.1.ms
  rw [HB.out.2.2.2.2.2.2] at hmrow
  have HMm : Hid (∃ m, s.ms.length = m ∧ m ≤ 12) := ⟨_, rfl, HR.out.2.2.2⟩
  obtain ⟨m, hmm, hm12⟩ := HMm.out
  rw [hmm] at hmrow n37
  have hmc := own_addr0 hmrow
  have hcbW7 : cb ≤ W7.heap.size := by have := (Array.getElem?_eq_some_iff.1 HE.out.1).1; omega
  have HMn : Hid (s.ms.length = m) := hmm
  have HCc : Hid (∀ gm, a2 = some ⟨gm, 0, none⟩ → ∀ t u, (mkC s.ms)[t]? = some u → W7.cell? ⟨gm, t, none⟩ = some u) := fun gm ha t u hu => by
   rcases hmc with ⟨h1, _⟩ | ⟨g', h1, _, h2⟩
   · rw [ha] at h1; cases h1
   · rw [ha] at h1
     simp at h1
     have ht : t < m * 2 := by
      have := (List.getElem?_eq_some_iff.1 hu).1
      rw [mkC_len, HMn.out] at this
      exact this
     rw [h1]
     exact HE.out.2.1.gb.cell ((h2 t ht).trans hu) (by simp)
  have HC2 : Hid (∀ w8, Fr [] W7 w8 → w8.cell? ⟨cb, 37, none⟩ = some (.slice none 0 0) ∧ w8.frozen? ⟨cb, 37, none⟩ = false) := fun w8 f8 => by
   have b8 : w8.heap[cb]? = some (.cells ((X.setIfInBounds 36 v5).setIfInBounds 37 (.slice none 0 0)) 86 (0, 0)) := by rw [f8.block cb (Array.getElem?_eq_some_iff.1 HE.out.1).1 (by simp)]; exact HE.out.1
   exact ⟨f8.gb.cell k37b (by simp), froz_of b8 _⟩
  have HG : Hid (∀ (w8 : World) (v8 : Value), w8.ownsRow cb 129 2 v8 m (mkC s.ms) → Fr [] W7 w8 → ∃ sv mv, RRep w.heap.size (w8.setCell ⟨cb, 37, none⟩ v8) cb { s with sv := sv, mv := mv } ∧ Fr [] w (w8.setCell ⟨cb, 37, none⟩ v8)) := fun w8 v8 ho f8 => by
   have b8 : w8.heap[cb]? = some (.cells ((X.setIfInBounds 36 v5).setIfInBounds 37 (.slice none 0 0)) 86 (0, 0)) := by rw [f8.block cb (Array.getElem?_eq_some_iff.1 HE.out.1).1 (by simp)]; exact HE.out.1
   have keep : ∀ {e : TypeId} {sz k : Nat} {v : Value} {xs : List Value}, e ≠ 86 → w8.ownsRow cb e sz v k xs → (w8.setCell ⟨cb, 37, none⟩ v8).ownsRow cb e sz v k xs := fun {e sz k v xs} hne ho => by
    refine own_of_block ho (fun j hj => heap_setCell_other _ _ _ _ (fun e' => ?_))
    obtain ⟨_, cur, h4⟩ := own_tag ho hj
    rw [e', b8] at h4
    simp at h4
    exact hne h4.2.symm
   have d16 := HR.out.1.d16
   have b16 := HR.out.1.b16
   refine ⟨v5, v8, ⟨?_, d16, b16, HR.out.1.wf, ?_, ?_, by rw [HB.out.2.2.2.1]; exact Nat.le_refl _⟩, (HE.out.2.1.trans f8 (by simp)).setCell _ (Or.inr (by rw [HB.out.2.2.2.1]; exact Nat.le_refl _))⟩
   · rw [heap_setCell_same _ _ _ _ _ _ b8, ← HR.out.2.1]
     congr 2
     simp only [Array.setIfInBounds_setIfInBounds]
     apply Array.ext'
     simp only [Array.toList_setIfInBounds]
     exact cells_set2 s d16 b16 v5 v8
   · rw [HB.out.2.2.2.1, ← HE.out.2.2.2]
     exact keep (by decide) (own_of_block HE.out.2.2.1 (fun j hj => f8.block j (Array.getElem?_eq_some_iff.1 (own_tag HE.out.2.2.1 hj).2.choose_spec).1 (by simp)))
   · rw [HB.out.2.2.2.1, HMn.out]
     exact keep (by decide) ho
  have hca : a2 = none ∧ m = 0 ∧ c2 = 0 ∨ ∃ gm, a2 = some ⟨gm, 0, none⟩ := hmc.imp id (fun ⟨g, h, _⟩ => ⟨g, h⟩)
  clear hmc hmrow hmm HMm
  rcases hca with ⟨rfl, rfl, rfl⟩ | ⟨gm, rfl⟩
  all_goals
   go_region_law (first
    | (refine step_append_none (by rfl) _ _ 84 (by rfl) cb 129 j0 2 Tryz.underlying84 hj (.slice none 0 0) 0 [] (by rfl) (World.ownsRow_nil _ _ _ _) (by rfl) ?_
       obtain ⟨w8, hw8⟩ : ∃ w8, w8 = W7.drew := ⟨_, rfl⟩
       have H8 : Hid (w8.ownsRow cb 129 2 (.slice none 0 0) 0 (mkC s.ms) ∧ Fr [] W7 w8) := ⟨by rw [List.length_eq_zero_iff.1 HMn.out]; exact World.ownsRow_nil _ _ _ _, by rw [hw8]; exact (Fr.refl _ _).drew⟩
       obtain ⟨p37, q37⟩ := HC2.out w8 H8.out.2
       rw [← hw8]
       clear hw8
       have H9 : Hid (∃ sv mv, RRep w.heap.size (w8.setCell ⟨cb, 37, none⟩ (.slice none 0 0)) cb { s with sv := sv, mv := mv } ∧ Fr [] w (w8.setCell ⟨cb, 37, none⟩ (.slice none 0 0))) := HG.out w8 _ H8.out.1 H8.out.2)
    | (refine step_append_own (by rfl) _ _ 84 (by rfl) cb 129 j0 _ 2 16 Tryz.underlying84 hj jz0 jz1 jz2 rfl (by omega) (.slice none 0 0) 0 [] (by rfl) (World.ownsRow_nil _ _ _ _) ⟨gm, 0, none⟩ m c2 (mkC s.ms) (by rfl) (by rw [mkC_len, HMn.out]) (fun t u hu => by
         rw [Addr.add_lit, Nat.zero_add]
         exact HCc.out gm rfl t u hu) mk_one (by unfold maxLen; omega) (by omega) hcbW7 ?_; intro v8 w8 hown8 hgrow8 _
       rw [Nat.zero_add, List.nil_append] at hown8
       obtain ⟨ao8, c8, e8⟩ := own_shape hown8
       subst e8
       have H8 : Hid (w8.ownsRow cb 129 2 (.slice ao8 m c8) m (mkC s.ms) ∧ Fr [] W7 w8) := ⟨hown8, ((Fr.refl [] W7).drew).grown hgrow8 (fun x hx => by simp [Value.ownBlock] at hx)⟩
       obtain ⟨p37, q37⟩ := HC2.out w8 H8.out.2
       clear hown8 hgrow8
       have H9 : Hid (∃ sv mv, RRep w.heap.size (w8.setCell ⟨cb, 37, none⟩ (.slice ao8 m c8)) cb { s with sv := sv, mv := mv } ∧ Fr [] w (w8.setCell ⟨cb, 37, none⟩ (.slice ao8 m c8))) := HG.out w8 _ H8.out.1 H8.out.2))
  all_goals
   go_wp2
   go_ret
   obtain ⟨sv, mv, r9, f9⟩ := H9.out
   exact ⟨cb, sv, mv, rfl, r9, f9⟩
end Go.Proofs.YthdhegmlknpllaaGreat
