import Derived.Test.YthdhegmlknpllaaGreatM09
import Derived.Test.YthdhegmlknpllaaGreatM27
import Derived.Deep.RegionHeld3
namespace Go.Proofs.YthdhegmlknpllaaGreat
open Go.RowKit Go.Maps Go.MuLone
theorem q_at (l : List UInt8) (h : 18 ≤ l.length) : rdT (ofL l) 4 = ofL (l.take 4) ∧ qf (ofL l) = valN ((l.drop 4).take 4) ∧ qt (ofL l) = valN ((l.drop 8).take 4) ∧ qm (ofL l) = valN ((l.drop 12).take 4) ∧ qb (ofL l) = valN ((l.drop 16).take 1) ∧ qn (ofL l) = valN ((l.drop 17).take 1) ∧ q6 (ofL l) = (ofL (l.drop 18), false) := by
 have s1 : l.drop 17 = (l.drop 17).take 1 ++ l.drop 18 := by
  have := List.take_append_drop 1 (l.drop 17)
  rw [List.drop_drop] at this
  exact this.symm
 have s2 : l.drop 16 = (l.drop 16).take 1 ++ l.drop 17 := by
  have := List.take_append_drop 1 (l.drop 16)
  rw [List.drop_drop] at this
  exact this.symm
 have s3 : l.drop 12 = (l.drop 12).take 4 ++ l.drop 16 := by
  have := List.take_append_drop 4 (l.drop 12)
  rw [List.drop_drop] at this
  exact this.symm
 have s4 : l.drop 8 = (l.drop 8).take 4 ++ l.drop 12 := by
  have := List.take_append_drop 4 (l.drop 8)
  rw [List.drop_drop] at this
  exact this.symm
 have s5 : l.drop 4 = (l.drop 4).take 4 ++ l.drop 8 := by
  have := List.take_append_drop 4 (l.drop 4)
  rw [List.drop_drop] at this
  exact this.symm
 have s6 : l = l.take 4 ++ l.drop 4 := (List.take_append_drop 4 l).symm
 have a0 : rdT (ofL l) 4 = ofL (l.take 4) := by
  conv => lhs; rw [s6]
  rw [rdT_app _ _ 4 (by simp; omega)]
 have a1 : q1 (ofL l) = (ofL (l.drop 4), false) := by
  unfold q1
  conv => lhs; rw [s6]
  rw [rdN_app _ _ _ 4 (by simp; omega)]
 have a2 : q2 (ofL l) = (ofL (l.drop 8), false) := by
  unfold q2
  rw [a1, s5, rdN_app _ _ _ 4 (by simp; omega)]
 have a3 : q3 (ofL l) = (ofL (l.drop 12), false) := by
  unfold q3
  rw [a2, s4, rdN_app _ _ _ 4 (by simp; omega)]
 have a4 : q4 (ofL l) = (ofL (l.drop 16), false) := by
  unfold q4
  rw [a3, s3, rdN_app _ _ _ 4 (by simp; omega)]
 have a5 : q5 (ofL l) = (ofL (l.drop 17), false) := by
  unfold q5
  rw [a4, s2, rdN_app _ _ _ 1 (by simp; omega)]
 have a6 : q6 (ofL l) = (ofL (l.drop 18), false) := by
  unfold q6
  rw [a5, s1, rdN_app _ _ _ 1 (by simp; omega)]
 refine ⟨a0, ?_, ?_, ?_, ?_, ?_, a6⟩
 · unfold qf
   rw [a1, s5, rdT_app _ _ 4 (by simp; omega), ofL_list, ← s5]
 · unfold qt
   rw [a2, s4, rdT_app _ _ 4 (by simp; omega), ofL_list, ← s4]
 · unfold qm
   rw [a3, s3, rdT_app _ _ 4 (by simp; omega), ofL_list, ← s3]
 · unfold qb
   rw [a4, s2, rdT_app _ _ 1 (by simp; omega), ofL_list, ← s2]
 · unfold qn
   rw [a5, s1, rdT_app _ _ 1 (by simp; omega), ofL_list, ← s1]
def bks (l : List UInt8) (k : Nat) : List (Int × B4) := (List.range k).map fun i => ((valN ((l.drop (5 * i)).take 1) : Int), b4 (ofL ((l.drop (5 * i + 1)).take 4)))
theorem rdBs_at (l : List UInt8) : ∀ k, 5 * k ≤ l.length → rdBs (ofL l, false) k = (bks l k, (ofL (l.drop (5 * k)), false))
 | 0, _ => by simp [rdBs, bks]
 | k + 1, hk => by
  have ih := rdBs_at l k (by omega)
  have s1 : l.drop (5 * k) = (l.drop (5 * k)).take 1 ++ l.drop (5 * k + 1) := by
   have := List.take_append_drop 1 (l.drop (5 * k))
   rw [List.drop_drop] at this
   exact this.symm
  have s2 : l.drop (5 * k + 1) = (l.drop (5 * k + 1)).take 4 ++ l.drop (5 * (k + 1)) := by
   have := List.take_append_drop 4 (l.drop (5 * k + 1))
   rw [List.drop_drop] at this
   exact this.symm
  have e1 : rdT (ofL (l.drop (5 * k))) 1 = ofL ((l.drop (5 * k)).take 1) := by
   conv => lhs; rw [s1]
   rw [rdT_app _ _ 1 (by simp; omega)]
  have e2 : rdN (ofL (l.drop (5 * k)), false) 1 = (ofL (l.drop (5 * k + 1)), false) := by
   conv => lhs; rw [s1]
   rw [rdN_app _ _ _ 1 (by simp; omega)]
  have e3 : rdT (ofL (l.drop (5 * k + 1))) 4 = ofL ((l.drop (5 * k + 1)).take 4) := by
   conv => lhs; rw [s2]
   rw [rdT_app _ _ 4 (by simp; omega)]
  have e4 : rdN (ofL (l.drop (5 * k + 1)), false) 4 = (ofL (l.drop (5 * (k + 1))), false) := by
   conv => lhs; rw [s2]
   rw [rdN_app _ _ _ 4 (by simp; omega)]
  rw [rdBs, ih]
  simp only
  rw [e1, e2]
  simp only
  rw [e3, e4, ofL_list]
  unfold bks
  rw [List.range_succ, List.map_append]
  rfl
def rbN (t : ByteArray) (i : Nat) : Nat := valN ((t.extract (18 + 5 * i) (23 + 5 * i)).extract 0 1).data.toList
def rbD (t : ByteArray) (i : Nat) : ByteArray := (t.extract (18 + 5 * i) (23 + 5 * i)).extract 1 (t.extract (18 + 5 * i) (23 + 5 * i)).size
def rbl (t : ByteArray) (k : Nat) : List (Int × B4) := (List.range k).map fun i => ((rbN t i : Int), b4 (rbD t i))
theorem b4_ba {x : ByteArray} (h : x.size = 4) : (b4 x).ba = x := by
 obtain ⟨d⟩ := x
 have h1 : d.size = 4 := h
 unfold b4 B4.ba
 congr 1
 apply Array.ext
 · simp [h1]
 · intro i hi _
   have : i = 0 ∨ i = 1 ∨ i = 2 ∨ i = 3 := by simp at hi; omega
   rcases this with rfl | rfl | rfl | rfl <;> simp [h1]
theorem rbD_size (t : ByteArray) (i : Nat) (h : 23 + 5 * i ≤ t.size) : (rbD t i).size = 4 := by
 unfold rbD
 rw [ByteArray.size_extract, ByteArray.size_extract]
 omega
theorem q_same (t : ByteArray) (h : 22 ≤ t.size) : rdT (t.extract 0 (ckAt t)) 4 = t.extract 0 4 ∧ qf (t.extract 0 (ckAt t)) = valN (t.extract 4 8).data.toList ∧ qt (t.extract 0 (ckAt t)) = valN (t.extract 8 12).data.toList ∧ qm (t.extract 0 (ckAt t)) = valN (t.extract 12 16).data.toList ∧ qb (t.extract 0 (ckAt t)) = valN (t.extract 16 17).data.toList ∧ qn (t.extract 0 (ckAt t)) = valN (t.extract 17 18).data.toList ∧ (t.size = 22 + 5 * qn (t.extract 0 (ckAt t)) → (qe (t.extract 0 (ckAt t))).2 = false ∧ (qe (t.extract 0 (ckAt t))).1.size = 0 ∧ ql (t.extract 0 (ckAt t)) = rbl t (qn (t.extract 0 (ckAt t)))) := by
 obtain ⟨L, hL⟩ : ∃ L, t.data.toList = L := ⟨_, rfl⟩
 have hn : t.size = L.length := by rw [← hL, Array.length_toList]; rfl
 have e : t.extract 0 (ckAt t) = ofL (L.take (L.length - 4)) := by
  refine ofL_ext ?_
  rw [ext_list, ofL_list, hL, List.drop_zero]
  unfold ckAt
  rw [hn, Nat.sub_zero]
 have hlen : (L.take (L.length - 4)).length = L.length - 4 := by rw [List.length_take]; omega
 obtain ⟨a0, a1, a2, a3, a4, a5, a6⟩ := q_at (L.take (L.length - 4)) (by rw [hlen]; omega)
 rw [e]
 have cut : ∀ a b : Nat, a + b ≤ L.length - 4 → ((L.take (L.length - 4)).drop a).take b = (t.extract a (a + b)).data.toList := fun a b hab => by
  rw [ext_list, hL, List.drop_take, List.take_take, Nat.min_eq_left (by omega), show a + b - a = b by omega]
 refine ⟨?_, ?_, ?_, ?_, ?_, ?_, fun hsz => ?_⟩
 · rw [a0]
   refine ofL_ext ?_
   rw [ofL_list, ext_list, hL, List.take_take, Nat.min_eq_left (by omega), List.drop_zero]
 · rw [a1, cut 4 4 (by omega)]
 · rw [a2, cut 8 4 (by omega)]
 · rw [a3, cut 12 4 (by omega)]
 · rw [a4, cut 16 1 (by omega)]
 · rw [a5, cut 17 1 (by omega)]
 · obtain ⟨N, hN⟩ : ∃ N, qn (ofL (L.take (L.length - 4))) = N := ⟨_, rfl⟩
   have hb := rdBs_at ((L.take (L.length - 4)).drop 18) N (by rw [List.length_drop, hlen]; rw [hN] at hsz; omega)
   unfold qe ql
   rw [hN] at hsz ⊢
   rw [a6, hb]
   refine ⟨rfl, ?_, ?_⟩
   · show (ofL _).size = 0
     rw [ofL_size, List.length_drop, List.length_drop, hlen]
     omega
   · show bks _ N = rbl t N
     unfold bks rbl
     refine List.map_congr_left fun i hi => ?_
     have hi' : i < N := List.mem_range.1 hi
     have h1 : ((((L.take (L.length - 4)).drop 18).drop (5 * i)).take 1) = ((t.extract (18 + 5 * i) (23 + 5 * i)).extract 0 1).data.toList := by
      rw [ext_list, ext_list, hL, List.drop_drop, List.drop_take, List.take_take, Nat.min_eq_left (by omega), List.drop_zero, List.take_take, Nat.min_eq_left (by omega)]
     have h2 : ((((L.take (L.length - 4)).drop 18).drop (5 * i + 1)).take 4) = (rbD t i).data.toList := by
      have hs : (t.extract (18 + 5 * i) (23 + 5 * i)).size = 5 := by rw [ByteArray.size_extract]; omega
      unfold rbD
      rw [hs, ext_list, ext_list, hL, List.drop_drop, List.drop_take, List.take_take, List.drop_take, List.drop_drop, List.take_take]
      rw [show 18 + (5 * i + 1) = 18 + 5 * i + 1 by omega, show min 4 (L.length - 4 - (18 + 5 * i + 1)) = 4 by omega, show min (5 - 1) (23 + 5 * i - (18 + 5 * i) - 1) = 4 by omega]
     rw [h1, h2]
     have h3 : ofL (rbD t i).data.toList = rbD t i := ofL_back _
     rw [h3]
     rfl
def SixV (x : Array Value) : Prop := ∃ (a b c d : Int) (p1 : Option Addr) (n1 c1 : Nat) (p2 : Option Addr) (n2 c2 : Nat), x = #[.int .i64 a, .int .i64 b, .int .i64 c, .int .i64 d, .slice p1 n1 c1, .slice p2 n2 c2]
theorem six {a b c d : Int} {p1 : Option Addr} {n1 c1 : Nat} {p2 : Option Addr} {n2 c2 : Nat} : SixV #[.int .i64 a, .int .i64 b, .int .i64 c, .int .i64 d, .slice p1 n1 c1, .slice p2 n2 c2] := ⟨a, b, c, d, p1, n1, c1, p2, n2, c2, rfl⟩
structure RX (w W : World) (bx : Nat) (f t m nb : Int) (vN vD : Value) (N : List Int) (D : List ByteArray) : Prop where
 fr : Fr [] w W
 bz : W.heap[bx]? = some (.cells #[.int .i64 0, .int .i64 0, .int .i64 0, .int .i64 0, .slice none 0 0, .slice none 0 0] 143 (0, 0))
 bo : W.heap[bx + 1]? = some (.cells #[.int .i64 f, .int .i64 t, .int .i64 m, .int .i64 nb, vN, vD] 143 (0, 0))
 nr : W.ownsRow w.heap.size 3 1 vN N.length (N.map (Value.int .i64))
 dr : W.ownsRow w.heap.size 9 1 vD D.length (D.map Value.string)
 ge : w.heap.size = bx
section
variable {w W W' : World} {bx : Nat} {f t m nb : Int} {vN vD : Value} {N : List Int} {D : List ByteArray}
theorem RX.ycells (h : RX w W bx f t m nb vN vD N D) : W.cell? ⟨bx, 0, none⟩ = some (.int .i64 0) ∧ W.cell? ⟨bx, 1, none⟩ = some (.int .i64 0) ∧ W.cell? ⟨bx, 2, none⟩ = some (.int .i64 0) ∧ W.cell? ⟨bx, 3, none⟩ = some (.int .i64 0) ∧ W.cell? ⟨bx, 4, none⟩ = some (.slice none 0 0) ∧ W.cell? ⟨bx, 5, none⟩ = some (.slice none 0 0) :=
 ⟨by rw [cell_of h.bz]; rfl, by rw [cell_of h.bz]; rfl, by rw [cell_of h.bz]; rfl, by rw [cell_of h.bz]; rfl, by rw [cell_of h.bz]; rfl, by rw [cell_of h.bz]; rfl⟩
theorem RX.yfroz (h : RX w W bx f t m nb vN vD N D) (j : Nat) : W.frozen? ⟨bx, j, none⟩ = false := froz_of h.bz j
theorem RX.xfroz (h : RX w W bx f t m nb vN vD N D) (j : Nat) : W.frozen? ⟨bx + 1, j, none⟩ = false := froz_of h.bo j
theorem RX.xcells (h : RX w W bx f t m nb vN vD N D) : W.cell? ⟨bx + 1, 0, none⟩ = some (.int .i64 f) ∧ W.cell? ⟨bx + 1, 1, none⟩ = some (.int .i64 t) ∧ W.cell? ⟨bx + 1, 2, none⟩ = some (.int .i64 m) ∧ W.cell? ⟨bx + 1, 3, none⟩ = some (.int .i64 nb) ∧ W.cell? ⟨bx + 1, 4, none⟩ = some vN ∧ W.cell? ⟨bx + 1, 5, none⟩ = some vD :=
 ⟨by rw [cell_of h.bo]; rfl, by rw [cell_of h.bo]; rfl, by rw [cell_of h.bo]; rfl, by rw [cell_of h.bo]; rfl, by rw [cell_of h.bo]; rfl, by rw [cell_of h.bo]; rfl⟩
theorem RX.same (h : RX w W bx f t m nb vN vD N D) (hf : Fr [] W W') : RX w W' bx f t m nb vN vD N D :=
 ⟨h.fr.trans hf (by simp), by rw [hf.block bx (Array.getElem?_eq_some_iff.1 h.bz).1 (by simp)]; exact h.bz, by rw [hf.block _ (Array.getElem?_eq_some_iff.1 h.bo).1 (by simp)]; exact h.bo, own_fr' h.nr hf, own_fr' h.dr hf, h.ge⟩
theorem RX.fin (h : RX w W bx f t m nb vN vD N D) (a b c d e g : Value) : Fr [] w ((((((W.setCell ⟨bx, 0, none⟩ a).setCell ⟨bx, 1, none⟩ b).setCell ⟨bx, 2, none⟩ c).setCell ⟨bx, 3, none⟩ d).setCell ⟨bx, 4, none⟩ e).setCell ⟨bx, 5, none⟩ g) := by
 have hbs : w.heap.size ≤ bx := Nat.le_of_eq h.ge
 exact ((((((h.fr.setCell _ (Or.inr hbs)).setCell _ (Or.inr hbs)).setCell _ (Or.inr hbs)).setCell _ (Or.inr hbs)).setCell _ (Or.inr hbs)).setCell _ (Or.inr hbs))
theorem RX.finF (h : RX w W bx f t m nb vN vD N D) (hf : Fr [] W W') (a b c d e g : Value) : Fr [] w ((((((W'.setCell ⟨bx, 0, none⟩ a).setCell ⟨bx, 1, none⟩ b).setCell ⟨bx, 2, none⟩ c).setCell ⟨bx, 3, none⟩ d).setCell ⟨bx, 4, none⟩ e).setCell ⟨bx, 5, none⟩ g) := (h.same hf).fin a b c d e g
theorem RX.far (h : RX w W bx f t m nb vN vD N D) : (∀ k, vN.ownBlock = some k → k ≠ bx ∧ k ≠ bx + 1) ∧ (∀ k, vD.ownBlock = some k → k ≠ bx ∧ k ≠ bx + 1) ∧ (∀ k, vN.ownBlock = some k → vD.ownBlock ≠ some k) := by
 refine ⟨fun k hk => ?_, fun k hk => ?_, fun k hk e => ?_⟩
 · obtain ⟨_, cur, h2⟩ := own_tag h.nr hk
   refine ⟨fun e => ?_, fun e => ?_⟩
   · rw [e, h.bz] at h2
     simp at h2
   · rw [e, h.bo] at h2
     simp at h2
 · obtain ⟨_, cur, h2⟩ := own_tag h.dr hk
   refine ⟨fun e => ?_, fun e => ?_⟩
   · rw [e, h.bz] at h2
     simp at h2
   · rw [e, h.bo] at h2
     simp at h2
 · obtain ⟨_, cur, h2⟩ := own_tag h.nr hk
   obtain ⟨_, cur', h3⟩ := own_tag h.dr e
   rw [h2] at h3
   simp at h3
theorem RX.put (h : RX w W bx f t m nb vN vD N D) (j : Nat) (v : Value) {f' t' m' nb' : Int} (e : (#[Value.int .i64 f, .int .i64 t, .int .i64 m, .int .i64 nb, vN, vD].set! j v) = #[Value.int .i64 f', .int .i64 t', .int .i64 m', .int .i64 nb', vN, vD]) : RX w (W.setCell ⟨bx + 1, j, none⟩ v) bx f' t' m' nb' vN vD N D := by
 have hb := h.ge
 refine ⟨h.fr.setCell _ (Or.inr (by show w.heap.size ≤ bx + 1; omega)), ?_, ?_, own_of_block h.nr (fun k hk => heap_setCell_other _ _ _ _ (h.far.1 k hk).2), own_of_block h.dr (fun k hk => heap_setCell_other _ _ _ _ (h.far.2.1 k hk).2), h.ge⟩
 · rw [heap_setCell_other _ _ _ _ (by show bx ≠ bx + 1; omega)]
   exact h.bz
 · rw [heap_setCell_same W (bx + 1) j _ _ _ h.bo]
   rw [← e]
   simp
end
set_option maxRecDepth 100000 in
set_option maxHeartbeats 1600000 in
theorem rread_short (t : ByteArray) (w : World) (ht : t.size < 22) :
  Calls Tryz.prog 81 #[.string t] w fun e w' => (∃ x, e = .returned (.tuple #[.agg x, .bool false]) ∧ SixV x) ∧ Fr [] w w' := by
 obtain ⟨n, hn⟩ : ∃ n, t.size = n := ⟨_, rfl⟩
 rw [hn] at ht
 have h1 : (n : Int) < 22 := by omega
 obtain ⟨bx, hbx⟩ : ∃ bx, w.heap.size = bx := ⟨_, rfl⟩
 obtain ⟨w0, hw0⟩ : ∃ w0, (w.alloc (.cells #[.int .i64 0, .int .i64 0, .int .i64 0, .int .i64 0, .slice none 0 0, .slice none 0 0] 143)).alloc (.cells #[.int .i64 0, .int .i64 0, .int .i64 0, .int .i64 0, .slice none 0 0, .slice none 0 0] 143) = w0 := ⟨_, rfl⟩
 have R0 : RX w w0 bx 0 0 0 0 (.slice none 0 0) (.slice none 0 0) [] [] := by
  rw [← hw0, ← hbx]
  refine ⟨((Fr.refl _ _).alloc _).alloc _, ?_, ?_, World.ownsRow_nil _ _ _ _, World.ownsRow_nil _ _ _ _, rfl⟩
  · rw [Below.heap_alloc _ _ _ (by simp)]
    exact heap_alloc_new w _
  · have := heap_alloc_new (w.alloc (.cells #[.int .i64 0, .int .i64 0, .int .i64 0, .int .i64 0, .slice none 0 0, .slice none 0 0] 143)) (.cells #[.int .i64 0, .int .i64 0, .int .i64 0, .int .i64 0, .slice none 0 0, .slice none 0 0] 143)
    simpa using this
 have HR0 : Hid (RX w w0 bx 0 0 0 0 (.slice none 0 0) (.slice none 0 0) [] []) := R0
 obtain ⟨y0, y1, y2, y3, y4, y5⟩ := R0.ycells
 have z0 := R0.yfroz 0
 have z1 := R0.yfroz 1
 have z2 := R0.yfroz 2
 have z3 := R0.yfroz 3
 have z4 := R0.yfroz 4
 have z5 := R0.yfroz 5
 obtain ⟨x0, x1, x2, x3, x4, x5⟩ := R0.xcells
 clear R0
 have hw0' := hw0
 clear hw0
 go_enter Tryz.func81, Tryz.ntmps81
 go_wp2
 go_quiet (fail)
 go_wp2
 refine bodyPost_ret (v := .tuple #[.agg #[.int .i64 0, .int .i64 0, .int .i64 0, .int .i64 0, .slice none 0 0, .slice none 0 0], .bool false]) ?_ rfl ⟨⟨_, rfl, six⟩, ?_⟩
 · rw [results_cell_tmp rfl]
   go_simp
 · refine HR0.out.finF ?_ _ _ _ _ _ _
   first | exact Fr.refl _ _ | exact (Fr.refl _ _).drew | exact (Fr.refl _ _).drewN _
set_option maxRecDepth 100000 in
set_option maxHeartbeats 1600000 in
theorem rread_sign (t : ByteArray) (w : World) (ht : 22 ≤ t.size) (hs : ((t.extract 0 4).toList == [83, 78, 68, 49]) = false) :
  Calls Tryz.prog 81 #[.string t] w fun e w' => (∃ x, e = .returned (.tuple #[.agg x, .bool false]) ∧ SixV x) ∧ Fr [] w w' := by
 obtain ⟨n, hn⟩ : ∃ n, t.size = n := ⟨_, rfl⟩
 rw [hn] at ht
 have h1 : decide ((n : Int) < 22) = false := by simp; omega
 have h2 : (4 : Int) ≤ (n : Int) := by omega
 obtain ⟨bx, hbx⟩ : ∃ bx, w.heap.size = bx := ⟨_, rfl⟩
 obtain ⟨w0, hw0⟩ : ∃ w0, (w.alloc (.cells #[.int .i64 0, .int .i64 0, .int .i64 0, .int .i64 0, .slice none 0 0, .slice none 0 0] 143)).alloc (.cells #[.int .i64 0, .int .i64 0, .int .i64 0, .int .i64 0, .slice none 0 0, .slice none 0 0] 143) = w0 := ⟨_, rfl⟩
 have R0 : RX w w0 bx 0 0 0 0 (.slice none 0 0) (.slice none 0 0) [] [] := by
  rw [← hw0, ← hbx]
  refine ⟨((Fr.refl _ _).alloc _).alloc _, ?_, ?_, World.ownsRow_nil _ _ _ _, World.ownsRow_nil _ _ _ _, rfl⟩
  · rw [Below.heap_alloc _ _ _ (by simp)]
    exact heap_alloc_new w _
  · have := heap_alloc_new (w.alloc (.cells #[.int .i64 0, .int .i64 0, .int .i64 0, .int .i64 0, .slice none 0 0, .slice none 0 0] 143)) (.cells #[.int .i64 0, .int .i64 0, .int .i64 0, .int .i64 0, .slice none 0 0, .slice none 0 0] 143)
    simpa using this
 have HR0 : Hid (RX w w0 bx 0 0 0 0 (.slice none 0 0) (.slice none 0 0) [] []) := R0
 obtain ⟨y0, y1, y2, y3, y4, y5⟩ := R0.ycells
 have z0 := R0.yfroz 0
 have z1 := R0.yfroz 1
 have z2 := R0.yfroz 2
 have z3 := R0.yfroz 3
 have z4 := R0.yfroz 4
 have z5 := R0.yfroz 5
 obtain ⟨x0, x1, x2, x3, x4, x5⟩ := R0.xcells
 clear R0
 have hw0' := hw0
 clear hw0
 go_enter Tryz.func81, Tryz.ntmps81
 go_wp2
 go_quiet (fail)
 go_wp2
 refine bodyPost_ret (v := .tuple #[.agg #[.int .i64 0, .int .i64 0, .int .i64 0, .int .i64 0, .slice none 0 0, .slice none 0 0], .bool false]) ?_ rfl ⟨⟨_, rfl, six⟩, ?_⟩
 · rw [results_cell_tmp rfl]
   go_simp
 · refine HR0.out.finF ?_ _ _ _ _ _ _
   first | exact Fr.refl _ _ | exact (Fr.refl _ _).drew | exact (Fr.refl _ _).drewN _
end Go.Proofs.YthdhegmlknpllaaGreat
