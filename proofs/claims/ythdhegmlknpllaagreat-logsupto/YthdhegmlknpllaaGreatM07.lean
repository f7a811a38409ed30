import Derived.Test.YthdhegmlknpllaaGreatM02
import Derived.ArgAppend
import Derived.Laws.IdiomCopy
import Derived.Deep.RegionHeld3
namespace Go.Proofs.YthdhegmlknpllaaGreat
open Go.RowKit Go.Maps Go.MuLone
def BRow (w : World) (base : Nat) (v : Value) (l : List UInt8) : Prop :=
 ∃ g cap, v = .slice (some ⟨g, 0, none⟩) l.length cap ∧ base ≤ g ∧ g < w.heap.size ∧ l.length ≤ cap ∧ (∀ j, j < l.length → w.cell? ⟨g, j, none⟩ = (logC l)[j]?) ∧ (∀ j, j < cap → (w.cell? ⟨g, j, none⟩).isSome = true ∧ w.frozen? ⟨g, j, none⟩ = false)
theorem BRow.fr {w w' : World} {base : Nat} {v : Value} {l : List UInt8} {F : List Nat} (h : BRow w base v l) (hf : Fr F w w') (hF : ∀ k ∈ F, v.ownBlock ≠ some k) : BRow w' base v l := by
 obtain ⟨g, cap, rfl, hb, hg, hc, h1, h2⟩ := h
 have e : w'.heap[g]? = w.heap[g]? := hf.block g hg (fun hm => hF g hm rfl)
 refine ⟨g, cap, rfl, hb, Nat.lt_of_lt_of_le hg hf.size, hc, fun j hj => ?_, fun j hj => ?_⟩
 · rw [World.cell?_of_block e]; exact h1 j hj
 · rw [World.cell?_of_block e, World.frozen?_of_block e]; exact h2 j hj
theorem BRow.shape {w : World} {base : Nat} {v : Value} {l : List UInt8} (h : BRow w base v l) : ∃ g cap, v = .slice (some ⟨g, 0, none⟩) l.length cap ∧ base ≤ g ∧ g < w.heap.size := by
 obtain ⟨g, cap, e, hb, hg, _⟩ := h
 exact ⟨g, cap, e, hb, hg⟩
theorem BRow.text {w : World} {base : Nat} {v : Value} {l : List UInt8} (h : BRow w base v l) : (convert 74 9 v).run Tryz.prog w = .ok (.string ⟨l.toArray⟩) w := by
 obtain ⟨g, cap, rfl, hb, hg, hc, h1, h2⟩ := h
 refine run_convert_bytes_back (P := Tryz.prog) w 74 9 5 ⟨g, 0, none⟩ cap l Tryz.underlying74 Tryz.underlying5 Tryz.underlying9 (fun j hj => ?_)
 rw [Addr.add_lit, Nat.zero_add, h1 j hj]
 simp [logC, u8, hj]
theorem brow_of (w : World) (t : ByteArray) : ∃ v w', (convert 9 74 (.string t)).run Tryz.prog w = .ok v w' ∧ BRow w' w.heap.size v t.data.toList ∧ Fr [] w w' := by
 refine ⟨_, _, run_bytes_of_string (P := Tryz.prog) w 9 74 5 t Tryz.underlying9 Tryz.underlying74 Tryz.underlying5, ?_, ((Fr.refl [] w).drew).alloc _⟩
 obtain ⟨cap, hcap⟩ : ∃ cap, grownCap w t.size 0 5 = cap := ⟨_, rfl⟩
 have hge : t.size ≤ cap := by rw [← hcap]; exact grownCap_ge w t.size 0 5
 rw [hcap]
 have hlen : t.data.toList.length = t.size := Array.length_toList
 have hrs : (bytesRow t cap).size = cap := by
  have : t.data.size = t.size := rfl
  simp [bytesRow]; omega
 have hh : (w.drew.alloc (.cells (bytesRow t cap) 5 ((bytesRow t cap).size, (bytesRow t cap).size + 1))).heap[w.heap.size]? = some (.cells (bytesRow t cap) 5 ((bytesRow t cap).size, (bytesRow t cap).size + 1)) := heap_alloc_new w.drew _
 refine ⟨w.heap.size, cap, by rw [hlen], Nat.le_refl _, by simp, by omega, fun j hj => ?_, fun j hj => ⟨?_, ?_⟩⟩
 · rw [cell_of hh]
   have hj' : j < t.size := by rw [hlen] at hj; exact hj
   have hj2 : j < t.data.size := hj'
   unfold bytesRow
   rw [Array.getElem?_append_left (by simpa using hj2)]
   simp [logC]
   rfl
 · rw [cell_of hh, Array.getElem?_eq_getElem (by omega)]
   rfl
 · simp only [World.frozen?, hh]
   simp [hrs]
   omega
theorem BRow.own {w : World} {base n : Nat} {v : Value} {l : List UInt8} (hn : n = l.length) (h0 : 0 < n) (h : w.ownsRow base 5 1 v n (logC l)) : BRow w base v l := by
 subst hn
 rcases h.2 with ⟨h1, h2⟩ | ⟨g, c, cur, h1, hb, hg, hc, hm, hs, ht⟩
 · omega
 · refine ⟨g, c, h1, hb, (Array.getElem?_eq_some_iff.1 hg).1, hc, fun j hj => ?_, fun j hj => ⟨?_, froz_of hg _⟩⟩
   · rw [cell_of hg, ← ht, List.getElem?_take_of_lt (by omega), Array.getElem?_toList]
   · rw [cell_of hg, Array.getElem?_eq_getElem (by omega)]
     rfl
theorem setCells_gb' (g : Nat) : ∀ (vs : List Value) (o : Nat) (w : World), w.grownBy (w.setCells g o vs) (some g)
 | [], _, w => World.grownBy.refl _ _
 | v :: r, o, w => by
  have ih := setCells_gb' g r (o + 1) (w.setCell ⟨g, o, none⟩ v)
  exact ⟨ih.os, ih.tape, ih.output, by have := ih.size; rw [World.size_setCell] at this; exact this, fun k hk hn => (ih.block k (by simpa using hk) hn).trans (heap_setCell_other _ _ _ _ (by simpa using hn))⟩
theorem wpList_append_b {ops : Array Oper} {rest : List Oper} {o : Oper} {a : Act} {Q : Exit → Act → World → Prop} (w : World) (hgd : o.guard = none) (s x : Operand)
  (hop : o.op = Op.call { callee := Callee.builtin Builtin.append, args := #[s, x], argTypes := #[74, 74] })
  (base : Nat) (v : Value) (l : List UInt8) (hs : a.eval s = v) (hB : BRow w base v l) (ad : Addr) (m c : Nat) (ys : List UInt8) (hx : a.eval x = .slice (some ad) m c) (hm : ys.length = m) (h0 : 0 < m)
  (hc : ∀ j u, (logC ys)[j]? = some u → w.cell? (ad.add j) = some u) (hb : l.length + m ≤ 1000000) (hbase : base ≤ w.heap.size)
  (hK : ∀ v' w', BRow w' base v' (l ++ ys) → w.grownBy w' v.ownBlock → wpList Tryz.prog ops Q rest (a.put o.dst v') w') : wpList Tryz.prog ops Q (o :: rest) a w := by
 obtain ⟨i0, hi, hz0, hz1, hz2⟩ := info_parts info5
 obtain ⟨g, cap, rfl, hbg, hg, hcl, h1, h2⟩ := hB
 have h1c : ∀ u ∈ logC ys, u.oneCell' = true := by
  intro u hu
  simp only [logC, List.mem_map] at hu
  obtain ⟨b, _, rfl⟩ := hu
  rfl
 by_cases hr : l.length + m ≤ cap
 · refine wpList_plain hgd fun K hK' => ?_
   have hrun := run_append_room_cells (P := Tryz.prog) w 74 o.type 5 i0 Tryz.underlying74 hi g 0 l.length cap ad m c (logC ys) (by rw [hz1, logC_len]; omega) hc h1c hr (fun j hj => by rw [logC_len] at hj; rw [hz1]; exact (h2 _ (by omega)).1) (fun j hj => by rw [logC_len] at hj; rw [hz1]; exact (h2 _ (by omega)).2)
   unfold Oper.wp
   simp [execOp, hop, resolve, invoke, builtin, hs, hx, hrun, Result.andThen]
   rw [hz1, Nat.mul_one]
   refine hK' _ _ (hK _ _ ⟨g, cap, by rw [List.length_append, hm], hbg, Nat.lt_of_lt_of_le hg (setCells_gb' g (logC ys) l.length w).size, by simp; omega, fun j hj => ?_, fun j hj => ?_⟩ ?_)
   · simp only [logC, List.map_append]
     by_cases hlt : j < l.length
     · rw [World.cell?_setCells_out _ _ _ _ _ (fun _ _ => Or.inl hlt), h1 j hlt, List.getElem?_append_left (by simpa using hlt)]
       rfl
     · have hj' : j - l.length < ys.length := by simp at hj; omega
       have := World.cell?_setCells_in g (logC ys) l.length w (fun i hi => by rw [logC_len] at hi; exact (h2 _ (by omega)).1) (j - l.length) (by rw [logC_len]; exact hj')
       rw [show l.length + (j - l.length) = j by omega] at this
       rw [List.getElem?_append_right (by simp; omega)]
       simp only [List.length_map]
       refine this.trans ?_
       simp [logC, hj']
   · rw [World.frozen?_setCells]
     refine ⟨?_, (h2 j hj).2⟩
     by_cases hin : l.length ≤ j ∧ j < l.length + ys.length
     · have := World.cell?_setCells_in g (logC ys) l.length w (fun i hi => by rw [logC_len] at hi; exact (h2 _ (by omega)).1) (j - l.length) (by rw [logC_len]; omega)
       rw [show l.length + (j - l.length) = j by omega] at this
       rw [this]
       rfl
     · rw [World.cell?_setCells_out _ _ _ _ _ (fun _ _ => by rw [logC_len]; show j < l.length ∨ l.length + ys.length ≤ j; omega)]
       exact (h2 j hj).1
   · exact setCells_gb' g (logC ys) l.length w
 · refine wpList_append_grows w hgd s x 74 hop 5 i0 _ 1 1 Tryz.underlying74 hi hz0 hz1 hz2 rfl (by omega) (some ⟨g, 0, none⟩) l.length cap (logC l) hs (fun e => by cases e) (by rw [logC_len]; omega) (fun b hb j u hj => ?_) ad m c (logC ys) hx (by rw [logC_len]; omega) hc h1c (by omega) (by unfold maxLen; omega) (by omega) ?_
   · cases hb
     have hj' : j < l.length := by
      have := (List.getElem?_eq_some_iff.1 hj).1
      rw [logC_len] at this
      exact this
     rw [Addr.add_lit, Nat.zero_add, h1 j hj']
     exact hj
   · intro v' w' ho hgr
     refine hK v' w' ?_ ⟨hgr.os, hgr.tape, hgr.output, hgr.size, fun k hk _ => hgr.block k hk (by simp)⟩
     have e : logC l ++ logC ys = logC (l ++ ys) := by simp [logC]
     rw [e] at ho
     have := BRow.own (l := l ++ ys) (by simp [hm]) (by omega) ho
     obtain ⟨g2, c2, e2, hb2, r⟩ := this
     exact ⟨g2, c2, e2, Nat.le_trans hbase hb2, r⟩
def bkC (x : Int × B4) : List Value := [.int .i64 x.1, u8 x.2.a, u8 x.2.b, u8 x.2.c, u8 x.2.d]
def blC (l : List (Int × B4)) : List Value := l.flatMap bkC
def bkT (x : Int × B4) : List UInt8 := [byt x.1, x.2.a, x.2.b, x.2.c, x.2.d]
def blT (l : List (Int × B4)) : List UInt8 := l.flatMap bkT
theorem blT_len (l : List (Int × B4)) : (blT l).length = l.length * 5 := by
 induction l with
 | nil => rfl
 | cons x r ih => simp [blT, bkT] at ih ⊢; omega
theorem blC_get (l : List (Int × B4)) (i : Nat) (h : i < l.length) : (blC l)[i * 5]? = some (.int .i64 l[i].1) ∧ (blC l)[i * 5 + 1]? = some (u8 l[i].2.a) ∧ (blC l)[i * 5 + 2]? = some (u8 l[i].2.b) ∧ (blC l)[i * 5 + 3]? = some (u8 l[i].2.c) ∧ (blC l)[i * 5 + 4]? = some (u8 l[i].2.d) := by
 have hf : ∀ x : Int × B4, (bkC x).length = 5 := fun _ => rfl
 refine ⟨?_, ?_, ?_, ?_, ?_⟩
 · exact (flat_get hf l i h 0 (by omega))
 · exact (flat_get hf l i h 1 (by omega))
 · exact (flat_get hf l i h 2 (by omega))
 · exact (flat_get hf l i h 3 (by omega))
 · exact (flat_get hf l i h 4 (by omega))
theorem blT_succ (l : List (Int × B4)) (k : Nat) (h : k < l.length) : blT (l.take (k + 1)) = blT (l.take k) ++ bkT l[k] := by
 unfold blT
 rw [List.take_succ_eq_append_getElem h, List.flatMap_append]
 simp
def B4.list' (x : B4) : List UInt8 := [x.a, x.b, x.c, x.d]
def headT (f t m : Int) : ByteArray := ⟨#[83, 78, 68, 49]⟩ ++ (n4 f).ba ++ (n4 t).ba ++ (n4 m).ba
def bodyT (f t m nb : Int) (l : List (Int × B4)) : List UInt8 := (headT f t m).data.toList ++ [byt nb, byt l.length] ++ blT l
def streamT (f t m nb : Int) (l : List (Int × B4)) : ByteArray := ⟨(bodyT f t m nb l).toArray⟩ ++ (chk (bodyT f t m nb l)).ba
theorem Fr.tr {w w1 w2 : World} (h : Fr [] w w1) (h' : Fr [] w1 w2) : Fr [] w w2 := h.trans h' (by simp)
theorem own_fr' {w w' : World} {base : Nat} {e : TypeId} {size : Nat} {v : Value} {n : Nat} {xs : List Value} (h : w.ownsRow base e size v n xs) (hf : Fr [] w w') : w'.ownsRow base e size v n xs :=
 own_of_block h (fun k hk => hf.block k (h.lt k hk).2 (by simp))
theorem own_addr' {w : World} {base : Nat} {e : TypeId} {size : Nat} {a : Option Addr} {c : Nat} {n : Nat} {xs : List Value} (h : w.ownsRow base e size (.slice a n c) n xs) (h0 : 0 < n) : ∃ g, a = some ⟨g, 0, none⟩ ∧ n ≤ c ∧ ∀ j, j < n * size → w.cell? ⟨g, j, none⟩ = xs[j]? := by
 rcases h.2 with ⟨h1, h2⟩ | ⟨g, c, cur, h1, hb, hg, hc, hm, hs, ht⟩
 · omega
 · simp at h1
   obtain ⟨rfl, rfl⟩ := h1
   refine ⟨g, rfl, hc, fun j hj => ?_⟩
   rw [cell_of hg, ← ht, List.getElem?_take_of_lt hj, ← Array.getElem?_toList]
theorem news4 {w : World} {b : Nat} {z : Value} {x : B4} (h : w.heap[b]? = some (.cells #[z, .int .u8 (x.a.toNat : Int), .int .u8 (x.b.toNat : Int), .int .u8 (x.c.toNat : Int), .int .u8 (x.d.toNat : Int)] 137 (0, 0))) : ∀ j u, (logC [x.a, x.b, x.c, x.d])[j]? = some u → w.cell? ((⟨b, 1, none⟩ : Addr).add j) = some u := by
 intro j u hu
 have hj : j < 4 := by
  have := (List.getElem?_eq_some_iff.1 hu).1
  simpa [logC] using this
 rw [Addr.add_lit, cell_of h]
 rcases (by omega : j = 0 ∨ j = 1 ∨ j = 2 ∨ j = 3) with rfl | rfl | rfl | rfl
 · exact hu
 · exact hu
 · exact hu
 · exact hu
def TxJ (w wr : World) (bx : Nat) (o : Obj) (vt : Value) (L : List UInt8) : Prop := BRow wr (bx + 1) vt L ∧ Fr [] w wr ∧ wr.heap[bx]? = some o
theorem TxJ.grown {w wr w' : World} {bx : Nat} {o : Obj} {vt v' : Value} {L L' : List UInt8} (h : TxJ w wr bx o vt L) (hbx : w.heap.size = bx) {W1 : World} (h1 : Fr [] wr W1) (hB : BRow w' (bx + 1) v' L') (hg : W1.grownBy w' vt.ownBlock) : TxJ w w' bx o v' L' ∧ (∀ k, k < W1.heap.size → vt.ownBlock ≠ some k → w'.heap[k]? = W1.heap[k]?) := by
 obtain ⟨br, f, x⟩ := h
 obtain ⟨g, c, rfl, hb, hgl⟩ := br.shape
 have hx := (Array.getElem?_eq_some_iff.1 x).1
 refine ⟨⟨hB, (f.tr h1).grown hg (fun k hk => Or.inr ?_), ?_⟩, fun k hk hn => hg.block k hk (fun e => hn e.symm)⟩
 · have : g = k := by simpa [Value.ownBlock] using hk
   omega
 · have hne : some bx ≠ (Value.slice (some ⟨g, 0, none⟩) L.length c).ownBlock := fun e => by
     have : bx = g := by simpa [Value.ownBlock] using e
     omega
   rw [hg.block bx (Nat.lt_of_lt_of_le hx h1.size) hne, h1.block bx hx (by simp)]
   exact x
set_option maxRecDepth 100000 in
set_option maxHeartbeats 3200000 in
theorem text_any (f t m nb : Int) (l : List (Int × B4)) (v : Value) (base : Nat) (w : World) (ho : w.ownsRow base 137 5 v l.length (blC l)) (hl : l.length ≤ 16) :
  Calls Tryz.prog 75 #[.agg #[.int .i64 f, .int .i64 t, .int .i64 m, .int .i64 nb, v]] w fun e w' => e = .returned (.string (streamT f t m nb l)) ∧ Fr [] w w' := by
 obtain ⟨ao, cap, hsh⟩ := own_shape ho
 subst hsh
 obtain ⟨n, hn⟩ : ∃ n, l.length = n := ⟨_, rfl⟩
 obtain ⟨bx, hbx⟩ : ∃ bx, w.heap.size = bx := ⟨_, rfl⟩
 obtain ⟨w0, hw0⟩ : ∃ w0, w.alloc (.cells #[.int .i64 f, .int .i64 t, .int .i64 m, .int .i64 nb, .slice ao l.length cap] 135) = w0 := ⟨_, rfl⟩
 have b0 : w0.heap[bx]? = some (.cells #[.int .i64 f, .int .i64 t, .int .i64 m, .int .i64 nb, .slice ao l.length cap] 135 (0, 0)) := by rw [← hw0, ← hbx]; exact heap_alloc_new w _
 have F0 : Fr [] w w0 := by rw [← hw0]; exact (Fr.refl _ _).alloc _
 have e0 : w0.cell? ⟨bx, 0, none⟩ = some (.int .i64 f) := by rw [cell_of b0]; rfl
 have e1 : w0.cell? ⟨bx, 1, none⟩ = some (.int .i64 t) := by rw [cell_of b0]; rfl
 have e2 : w0.cell? ⟨bx, 2, none⟩ = some (.int .i64 m) := by rw [cell_of b0]; rfl
 have HB : Hid (w0.heap[bx]? = some (.cells #[.int .i64 f, .int .i64 t, .int .i64 m, .int .i64 nb, .slice ao l.length cap] 135 (0, 0)) ∧ Fr [] w w0 ∧ w.ownsRow base 137 5 (.slice ao l.length cap) l.length (blC l) ∧ l.length = n ∧ w.heap.size = bx) := ⟨b0, F0, ho, hn, hbx⟩
 have HU1 : Hid (∀ W, Calls Tryz.prog 22 #[.int .i64 f] W fun e w' => e = .returned (.string (n4 f).ba) ∧ Fr [] W w') := fun W => number_any f W
 have HU2 : Hid (∀ W, Calls Tryz.prog 22 #[.int .i64 t] W fun e w' => e = .returned (.string (n4 t).ba) ∧ Fr [] W w') := fun W => number_any t W
 have HU3 : Hid (∀ W, Calls Tryz.prog 22 #[.int .i64 m] W fun e w' => e = .returned (.string (n4 m).ba) ∧ Fr [] W w') := fun W => number_any m W
 have z1 : (n4 f).ba.size = 4 := rfl
 have z2 : (n4 t).ba.size = 4 := rfl
 have z3 : (n4 m).ba.size = 4 := rfl
 have z4 : (⟨#[83, 78, 68, 49]⟩ : ByteArray).size = 4 := rfl
 obtain ⟨sg, hsg⟩ : ∃ sg : ByteArray, (⟨#[83, 78, 68, 49]⟩ : ByteArray) = sg := ⟨_, rfl⟩
 obtain ⟨ba1, hba1⟩ : ∃ ba, (n4 f).ba = ba := ⟨_, rfl⟩
 obtain ⟨ba2, hba2⟩ : ∃ ba, (n4 t).ba = ba := ⟨_, rfl⟩
 obtain ⟨ba3, hba3⟩ : ∃ ba, (n4 m).ba = ba := ⟨_, rfl⟩
 rw [hba1] at HU1 z1
 rw [hba2] at HU2 z2
 rw [hba3] at HU3 z3
 have HH : Hid (headT f t m = ⟨#[83, 78, 68, 49]⟩ ++ ba1 ++ ba2 ++ ba3) := by
  show _ = _
  unfold headT
  rw [hba1, hba2, hba3]
 obtain ⟨hd, hhd⟩ : ∃ hd, headT f t m = hd := ⟨_, rfl⟩
 have s1 : (⟨#[83, 78, 68, 49]⟩ ++ ba1 : ByteArray).size = 8 := by rw [ByteArray.size_append, z1]; rfl
 have s2 : (⟨#[83, 78, 68, 49]⟩ ++ ba1 ++ ba2 : ByteArray).size = 12 := by rw [ByteArray.size_append, s1, z2]
 have s3 : (⟨#[83, 78, 68, 49]⟩ ++ ba1 ++ ba2 ++ ba3 : ByteArray).size = 16 := by rw [ByteArray.size_append, s2, z3]
 have HCV : Hid (∀ W : World, ∃ v w', (convert 9 74 (.string (⟨#[83, 78, 68, 49]⟩ ++ ba1 ++ ba2 ++ ba3))).run Tryz.prog W = .ok v w' ∧ BRow w' W.heap.size v (headT f t m).data.toList ∧ Fr [] W w') := fun W => by
  rw [HH.out]
  exact brow_of W _
 clear hsg sg hba1 hba2 hba3 ho b0 F0 hn
 have hw0' := hw0
 clear hw0
 go_enter Tryz.func75, Tryz.ntmps75
 go_wp2
 go_region_held (fun w' => w'.cell? ⟨bx, 0, none⟩ = some (.int .i64 f) ∧ w'.cell? ⟨bx, 1, none⟩ = some (.int .i64 t) ∧ w'.cell? ⟨bx, 2, none⟩ = some (.int .i64 m))
  (first
   | go_keep
   | (go_split_ands
      refine ⟨?_, ?_, ?_⟩ <;> first
       | (rw [World.cell?_of_block (f5.block bx (World.block_lt_of_cell? _ ⟨bx, 0, none⟩ (by assumption)) (by simp))]; assumption)
       | (rw [World.cell?_of_block (f6.block bx (World.block_lt_of_cell? _ ⟨bx, 0, none⟩ (by assumption)) (by simp))]; assumption)
       | (rw [World.cell?_of_block (f7.block bx (World.block_lt_of_cell? _ ⟨bx, 0, none⟩ (by assumption)) (by simp))]; assumption)
       | (rw [World.cell?_of_block (f8.block bx (World.block_lt_of_cell? _ ⟨bx, 0, none⟩ (by assumption)) (by simp))]; assumption)))
  (first
   | (go_at_call_of 22 (Value.int .i64 f); refine (HU1.out _).mono ?_; rintro e w5 ⟨rfl, f5⟩)
   | (go_at_call_of 22 (Value.int .i64 t); refine (HU2.out _).mono ?_; rintro e w6 ⟨rfl, f6⟩)
   | (go_at_call_of 22 (Value.int .i64 m); refine (HU3.out _).mono ?_; rintro e w7 ⟨rfl, f7⟩; obtain ⟨v8, w8, hc8, br8, f8⟩ := HCV.out w7))
 have G8 : Fr [] w0 w8 := ((((Fr.refl [] w0).drew).tr f5).tr f6 |>.tr f7).tr f8
 have F8 := HB.out.2.1.tr G8
 have x8 : w8.heap[bx]? = some (.cells #[.int .i64 f, .int .i64 t, .int .i64 m, .int .i64 nb, .slice ao l.length cap] 135 (0, 0)) := by
  rw [G8.block bx (Array.getElem?_eq_some_iff.1 HB.out.1).1 (by simp)]
  exact HB.out.1
 have hb8 : bx + 1 ≤ w7.heap.size := by
  have h1 := (Array.getElem?_eq_some_iff.1 HB.out.1).1
  have h2 := ((((Fr.refl [] w0).drew).tr f5).tr f6 |>.tr f7).size
  omega
 have br8' : BRow w8 (bx + 1) v8 (headT f t m).data.toList := by
  obtain ⟨g, c, e, hb, r⟩ := br8
  exact ⟨g, c, e, Nat.le_trans hb8 hb, r⟩
 obtain ⟨g8, cap8, hv8, hg8, hg8'⟩ := br8'.shape
 subst hv8
 have H8 : Hid (BRow w8 (bx + 1) (.slice (some ⟨g8, 0, none⟩) (headT f t m).data.toList.length cap8) (headT f t m).data.toList ∧ Fr [] w w8 ∧ w8.heap[bx]? = some (.cells #[.int .i64 f, .int .i64 t, .int .i64 m, .int .i64 nb, .slice ao l.length cap] 135 (0, 0)) ∧ bx + 1 ≤ g8 ∧ g8 < w8.heap.size) := ⟨br8', F8, x8, hg8, hg8'⟩
 have y3 : w8.cell? ⟨bx, 3, none⟩ = some (.int .i64 nb) := by rw [cell_of x8]; rfl
 have y4 : w8.cell? ⟨bx, 4, none⟩ = some (.slice ao l.length cap) := by rw [cell_of x8]; rfl
 have hl16 : (headT f t m).data.toList.length = 16 := rfl
 have q1 := byt_eq nb
 have q2 := byt_eq (l.length : Int)
 obtain ⟨hd, hhd⟩ : ∃ hd, (headT f t m).data.toList = hd := ⟨_, rfl⟩
 obtain ⟨u1, hu1⟩ : ∃ u, byt nb = u := ⟨_, rfl⟩
 obtain ⟨u2, hu2⟩ : ∃ u, byt (l.length : Int) = u := ⟨_, rfl⟩
 rw [hu1] at q1
 rw [hu2] at q2
 rw [hhd] at H8 hl16 br8 br8' hc8
 rw [hl16] at H8
 have HD : Hid ((headT f t m).data.toList = hd ∧ byt nb = u1 ∧ byt (l.length : Int) = u2 ∧ hd.length = 16) := ⟨hhd, hu1, hu2, hl16⟩
 rw [hhd, hl16]
 clear hhd hu1 hu2 br8 br8' hc8 f5 f6 f7 f8 G8 F8 x8 HCV HU1 HU2 HU3 HH hb8 hl16 hg8 hg8' s1 s2 s3 z1 z2 z3 z4 e0 e1 e2
 have q3 : (u2.toNat : Int) = (l.length : Int) := by omega
 have HNW : ∀ j u, (logC [u1, u2])[j]? = some u → (w8.alloc (.cells #[.int .u8 (u1.toNat : Int), .int .u8 (l.length : Int)] 5)).cell? ((⟨w8.heap.size, 0, none⟩ : Addr).add j) = some u := by
  have e : logC [u1, u2] = [.int .u8 (u1.toNat : Int), .int .u8 (l.length : Int)] := by
   simp [logC, u8]
   exact q3
  rw [e]
  exact news2 w8 (.int .u8 (u1.toNat : Int)) (.int .u8 (l.length : Int))
 clear q2 q3
 have hbz : bx + 1 ≤ (w8.alloc (.cells #[.int .u8 (u1.toNat : Int), .int .u8 (l.length : Int)] 5)).heap.size := by
  have := H8.out.2.2.2
  simp
  omega
 go_wp2_with (at_builtin; refine wpList_append_b _ rfl _ _ rfl (bx + 1) (.slice (some ⟨g8, 0, none⟩) 16 cap8) hd rfl (H8.out.1.fr ((Fr.refl [] w8).alloc _) (by simp)) ⟨w8.heap.size, 0, none⟩ 2 2 [u1, u2] rfl rfl (by omega) HNW (by rw [HD.out.2.2.2]; omega) hbz ?_; intro v9 w9 br9 hg9; have HT9 := TxJ.grown (o := .cells #[.int .i64 f, .int .i64 t, .int .i64 m, .int .i64 nb, .slice ao l.length cap] 135 (0, 0)) (⟨H8.out.1, H8.out.2.1, H8.out.2.2.1⟩ : TxJ w w8 bx _ (.slice (some ⟨g8, 0, none⟩) 16 cap8) hd) hbx ((Fr.refl [] w8).alloc _) br9 hg9; have H9 : Hid (TxJ w w9 bx (.cells #[.int .i64 f, .int .i64 t, .int .i64 m, .int .i64 nb, .slice ao l.length cap] 135 (0, 0)) v9 (hd ++ [u1, u2])) := HT9.1; have y9 : w9.cell? ⟨bx, 4, none⟩ = some (.slice ao l.length cap) := (by rw [cell_of H9.out.2.2]; rfl); clear HT9 br9 hg9)
 clear H8 HNW hbz y3 y4
 go_loopw [3, 32] (fun vt i wr => ∃ k : Nat, k ≤ l.length ∧ i = .int .i64 k ∧ Hid (TxJ w wr bx (.cells #[.int .i64 f, .int .i64 t, .int .i64 m, .int .i64 nb, .slice ao l.length cap] 135 (0, 0)) vt (hd ++ [u1, u2] ++ blT (l.take k)))) (fun _ i _ => l.length - (intOf i).toNat)
 case atStart => exact ⟨0, Nat.zero_le _, rfl, by simpa [blT] using H9⟩
 case round =>
  obtain ⟨k, hk, rfl, HK⟩ := hrel
  obtain ⟨W3, hW3⟩ : ∃ W3, W3 = wr := ⟨_, rfl⟩
  subst hW3
  clear H9 y9
  obtain ⟨g3, cap3, hv3, hg3, hg3'⟩ := HK.out.1.shape
  subst hv3
  by_cases hlt : k < l.length
  · have hltz : (k : Int) < (l.length : Int) := by omega
    have hor := own_fr' HB.out.2.2.1 HK.out.2.1
    obtain ⟨lg, hlg, hc9, hcc⟩ := own_addr' hor (by omega)
    subst hlg
    have hb5 := blC_get l k hlt
    obtain ⟨x, hx⟩ : ∃ x, l[k] = x := ⟨_, rfl⟩
    rw [hx] at hb5
    have d0 : W3.cell? ⟨lg, k * 5, none⟩ = some (.int .i64 x.1) := by rw [hcc _ (by omega)]; exact hb5.1
    have d1 : W3.cell? ⟨lg, k * 5 + 1, none⟩ = some (.int .u8 (x.2.a.toNat : Int)) := by rw [hcc _ (by omega)]; exact hb5.2.1
    have d2 : W3.cell? ⟨lg, k * 5 + 2, none⟩ = some (.int .u8 (x.2.b.toNat : Int)) := by rw [hcc _ (by omega)]; exact hb5.2.2.1
    have d3 : W3.cell? ⟨lg, k * 5 + 3, none⟩ = some (.int .u8 (x.2.c.toNat : Int)) := by rw [hcc _ (by omega)]; exact hb5.2.2.2.1
    have d4 : W3.cell? ⟨lg, k * 5 + 4, none⟩ = some (.int .u8 (x.2.d.toNat : Int)) := by rw [hcc _ (by omega)]; exact hb5.2.2.2.2
    have HX : Hid (l[k] = x) := hx
    have q5 := byt_eq x.1
    obtain ⟨u5, hu5⟩ : ∃ u, byt x.1 = u := ⟨_, rfl⟩
    rw [hu5] at q5
    have HX5 : Hid (byt x.1 = u5) := hu5
    clear hcc hb5 hx hu5 hor
    obtain ⟨L3, hL3⟩ : ∃ L3, hd ++ [u1, u2] ++ blT (l.take k) = L3 := ⟨_, rfl⟩
    have HL3 : Hid (hd ++ [u1, u2] ++ blT (l.take k) = L3 ∧ L3.length ≤ 98) := ⟨hL3, by
     rw [← hL3]
     simp only [List.length_append, blT_len, List.length_take, HD.out.2.2.2]
     simp
     omega⟩
    rw [hL3] at HK
    rw [hL3]
    clear hL3
    have hlb : L3.length ≤ 98 := HL3.out.2
    obtain ⟨ob, hob⟩ : ∃ ob, Obj.cells #[.int .i64 x.1, .int .u8 (x.2.a.toNat : Int), .int .u8 (x.2.b.toNat : Int), .int .u8 (x.2.c.toNat : Int), .int .u8 (x.2.d.toNat : Int)] 137 (0, 0) = ob := ⟨_, rfl⟩
    have HOB : Hid (Obj.cells #[.int .i64 x.1, .int .u8 (x.2.a.toNat : Int), .int .u8 (x.2.b.toNat : Int), .int .u8 (x.2.c.toNat : Int), .int .u8 (x.2.d.toNat : Int)] 137 (0, 0) = ob) := hob
    have HW1 : Hid (∀ j u, (logC [u5])[j]? = some u → ((W3.alloc (.cells #[.int .i64 x.1, .int .u8 (x.2.a.toNat : Int), .int .u8 (x.2.b.toNat : Int), .int .u8 (x.2.c.toNat : Int), .int .u8 (x.2.d.toNat : Int)] 137)).alloc (.cells #[.int .u8 (u5.toNat : Int)] 5)).cell? ((⟨W3.heap.size + 1, 0, none⟩ : Addr).add j) = some u) := by
     have := heap_alloc_new (W3.alloc (.cells #[.int .i64 x.1, .int .u8 (x.2.a.toNat : Int), .int .u8 (x.2.b.toNat : Int), .int .u8 (x.2.c.toNat : Int), .int .u8 (x.2.d.toNat : Int)] 137)) (.cells #[.int .u8 (u5.toNat : Int)] 5)
     rw [show (W3.alloc (.cells #[.int .i64 x.1, .int .u8 (x.2.a.toNat : Int), .int .u8 (x.2.b.toNat : Int), .int .u8 (x.2.c.toNat : Int), .int .u8 (x.2.d.toNat : Int)] 137)).heap.size = W3.heap.size + 1 by simp] at this
     exact World.news_of_block (cs := #[.int .u8 (u5.toNat : Int)]) (t := 5) (fr := (0, 0)) this
    have hbz3 : bx + 1 ≤ W3.heap.size := by omega
    clear hob
    go_wp2_with (first
     | (at_builtin; refine wpList_append_b _ rfl _ _ rfl (bx + 1) (.slice (some ⟨g3, 0, none⟩) L3.length cap3) L3 rfl (HK.out.1.fr (((Fr.refl [] W3).alloc _).alloc _) (by simp)) ⟨W3.heap.size + 1, 0, none⟩ 1 1 [u5] rfl rfl (by omega) HW1.out (by omega) (by simp; omega) ?_; intro v10 w10 br10 hg10; have HT10 := HK.out.grown hbx (((Fr.refl [] W3).alloc _).alloc _) br10 hg10; have H10 : Hid (TxJ w w10 bx (.cells #[.int .i64 f, .int .i64 t, .int .i64 m, .int .i64 nb, .slice (some ⟨lg, 0, none⟩) l.length cap] 135 (0, 0)) v10 (L3 ++ [u5]) ∧ w10.heap[W3.heap.size]? = some (.cells #[.int .i64 x.1, .int .u8 (x.2.a.toNat : Int), .int .u8 (x.2.b.toNat : Int), .int .u8 (x.2.c.toNat : Int), .int .u8 (x.2.d.toNat : Int)] 137 (0, 0)) ∧ bx + 1 ≤ w10.heap.size) := ⟨HT10.1, by rw [HT10.2 W3.heap.size (by simp; omega) (by simp [Value.ownBlock]; omega), Below.heap_alloc _ _ _ (by simp)]; exact heap_alloc_new W3 _, Nat.le_trans hbz3 (Nat.le_trans (((Fr.refl [] W3).alloc _).alloc _).size hg10.size)⟩; obtain ⟨g10, cap10, hv10, _, _⟩ := br10.shape; subst hv10; clear br10 hg10 HT10)
     | (at_builtin; refine wpList_append_b _ rfl _ _ rfl (bx + 1) (.slice (some ⟨g10, 0, none⟩) (L3.length + 1) cap10) (L3 ++ [u5]) rfl (by have := H10.out.1.1; rw [List.length_append] at this; exact this) ⟨W3.heap.size, 1, none⟩ 4 4 [x.2.a, x.2.b, x.2.c, x.2.d] rfl rfl (by omega) (news4 H10.out.2.1) (by simp; omega) H10.out.2.2 ?_; intro v11 w11 br11 hg11; have H11 : Hid (TxJ w w11 bx (.cells #[.int .i64 f, .int .i64 t, .int .i64 m, .int .i64 nb, .slice (some ⟨lg, 0, none⟩) l.length cap] 135 (0, 0)) v11 (L3 ++ [u5] ++ [x.2.a, x.2.b, x.2.c, x.2.d])) := (H10.out.1.grown hbx (Fr.refl [] w10) br11 hg11).1; clear br11 hg11))
    go_roundw
    case rel => exact ⟨k + 1, by omega, by go_num, by
     have e : L3 ++ [u5] ++ [x.2.a, x.2.b, x.2.c, x.2.d] = hd ++ [u1, u2] ++ blT (l.take (k + 1)) := by
      rw [blT_succ l k hlt, HX.out, ← HL3.out.1]
      simp [bkT, HX5.out]
     rw [← e]
     exact H11⟩
    case measure => simp [intOf]; omega
  · have hkk : k = l.length := by omega
    subst hkk
    have hbd : hd ++ [u1, u2] ++ blT (l.take l.length) = bodyT f t m nb l := by
     unfold bodyT
     rw [List.take_length, HD.out.1, HD.out.2.1, HD.out.2.2.1]
    have hbl : (bodyT f t m nb l).length ≤ 98 := by
     rw [← hbd]
     simp only [List.length_append, blT_len, List.length_take, HD.out.2.2.2]
     simp
     omega
    rw [hbd] at HK
    rw [hbd]
    have HST : Hid (streamT f t m nb l = ⟨(bodyT f t m nb l).toArray⟩ ++ (chk (bodyT f t m nb l)).ba) := rfl
    obtain ⟨bd, hbd2⟩ : ∃ bd, bodyT f t m nb l = bd := ⟨_, rfl⟩
    rw [hbd2] at HK hbl HST
    rw [hbd2]
    have HC0 := checkOf_any ⟨bd.toArray⟩
    have hsz : (⟨bd.toArray⟩ : ByteArray).size = bd.length := by
     show bd.toArray.size = bd.length
     simp
    have HC : Hid (∀ W, Calls Tryz.prog 107 #[.string ⟨bd.toArray⟩] W fun e w' => e = .returned (.string (chk bd).ba) ∧ Fr [] W w') := fun W => by
     have := HC0 W (by rw [hsz]; omega)
     simpa using this
    have hcs : (chk bd).ba.size = 4 := rfl
    obtain ⟨ck, hck⟩ : ∃ ck, (chk bd).ba = ck := ⟨_, rfl⟩
    rw [hck] at HC hcs HST
    have HTx : Hid (∀ W, Fr [] W3 W → (convert 74 9 (.slice (some ⟨g3, 0, none⟩) bd.length cap3)).run Tryz.prog W = .ok (.string ⟨bd.toArray⟩) W) := fun W hW => (HK.out.1.fr hW (by simp)).text
    have hc1 := HTx.out W3 (Fr.refl _ _)
    have hc2 := HTx.out W3.drew (Fr.refl _ _).drew
    obtain ⟨bs, hbs⟩ : ∃ bs : ByteArray, (⟨bd.toArray⟩ : ByteArray) = bs := ⟨_, rfl⟩
    rw [hbs] at HC HTx hc1 hc2 hsz HST
    have hadd : ¬ (9223372036854775807 < bd.length + 4) := by omega
    clear hbd hbd2 hck hbs HC0
    go_wp2
    go_region_with (go_at_call 107; refine (HC.out _).mono ?_; rintro e w5 ⟨rfl, f5⟩; have hc5 := HTx.out w5 (((Fr.refl [] W3).drew).tr f5))
    all_goals
     go_wp2
     go_ret
     exact ⟨by rw [HST.out]; rfl, (HK.out.2.1.drew).tr f5⟩
end Go.Proofs.YthdhegmlknpllaaGreat
