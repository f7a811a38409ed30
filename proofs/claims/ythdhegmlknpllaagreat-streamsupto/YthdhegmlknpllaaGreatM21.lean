import Derived.Test.YthdhegmlknpllaaGreatM20
import Derived.Laws.CopyOwn
/-
  Destroy, on both stores; the walk of the law's destroys (41).
-/
namespace Go.Proofs.YthdhegmlknpllaaGreat
open Go.RowKit Go.Maps Go.MuLone

section
variable {B : Nat} {w w1 w2 W : World} {db b rb : Nat} {s s' : Sto} {r r' : RSto} {q : Nat}
/-- The same, the reference's call knowing what the program's left alone. -/
theorem SD.pair2 (h : SD B w db b rb s r) (rp : Rep B w1 b 0 s') (f1 : Fr (foot b s) w w1) (g1 : ∀ k ∈ foot b s', k ∈ foot b s ∨ w.heap.size ≤ k) {f : Nat} {args : Array Value} {v : Value}
    (hr : ∀ W, RRep B W rb r → Fr (foot b s) w W → Calls Tryz.prog f args W fun e w2 => e = .returned v ∧ ∃ r', RRep B w2 rb r' ∧ Fr (rfoot rb r) W w2 ∧ (∀ k ∈ rfoot rb r', k ∈ rfoot rb r ∨ W.heap.size ≤ k) ∧ Sim s' r' (q + 1)) :
    (w1.heap[db]? = some (sdO b rb) ∧ Fr (sft b rb s r) w w1) ∧ ∀ W, Fr [] w1 W → Calls Tryz.prog f args W fun e w2 => e = .returned v ∧ SN B w w2 db b rb s r q := by
  have hd1 : db ∉ foot b s := fun hm => h.ndb (List.mem_append_left _ hm)
  have b1 : w1.heap[db]? = some (sdO b rb) := by rw [f1.block db (Array.getElem?_eq_some_iff.1 h.blk).1 hd1]; exact h.blk
  refine ⟨⟨b1, f1.mono (fun k hk => List.mem_append_left _ hk)⟩, fun W hW => ?_⟩
  have rr1 : RRep B w1 rb r := h.rrep.kept f1 (fun k hk hm => h.dis k hm hk)
  have rrW := rr1.kept0 hW
  refine (hr W rrW (f1.trans hW (by simp))).mono ?_
  rintro e w2 ⟨he, r', rr', f2, g2, m⟩
  have dis1 : ∀ k ∈ foot b s', k ∉ rfoot rb r := fun k hk hm => by
    rcases g1 k hk with h1 | h1
    · exact h.dis k h1 hm
    · have := (h.rrep.lt k hm).2
      omega
  have rpW := rp.kept0 hW
  have rp2 : Rep B w2 b 0 s' := rpW.kept f2 dis1
  have bW : W.heap[db]? = some (sdO b rb) := by rw [hW.block db (Array.getElem?_eq_some_iff.1 b1).1 (by simp)]; exact b1
  have b2 : w2.heap[db]? = some (sdO b rb) := by
    rw [f2.block db (Array.getElem?_eq_some_iff.1 bW).1 (fun hm => h.ndb (List.mem_append_right _ hm))]
    exact bW
  have hf : Fr (sft b rb s r) w w2 := ((f1.mono (fun k hk => List.mem_append_left _ hk)).trans hW (by simp)).trans f2 (fun k hk => Or.inl (List.mem_append_right _ hk))
  refine ⟨he, s', r', ⟨b2, rp2, rr', fun k hk hm => ?_, h.hdb⟩, m, hf, fun k hk => ?_⟩
  · rcases g2 k hm with h1 | h1
    · exact dis1 k hk h1
    · have := (rpW.lt k hk).2
      omega
  · rcases List.mem_append.1 hk with hk | hk
    · rcases g1 k hk with h1 | h1
      · exact Or.inl (List.mem_append_left _ h1)
      · exact Or.inr h1
    · rcases g2 k hk with h1 | h1
      · exact Or.inl (List.mem_append_right _ h1)
      · exact Or.inr (Nat.le_trans (Nat.le_trans f1.size hW.size) h1)


theorem any_map {α β : Type} (f : α → β) (p : β → Bool) (l : List α) : (l.map f).any p = l.any fun x => p (f x) := by rw [List.any_map]; rfl
theorem Sim.fine (m : Sim s r q) (zs : List Int) (k : Nat) : fineAt (r.sh.map RSh.sn) zs k = fineAt s.ss zs k := by
  unfold fineAt
  congr 1
  have e1 := any_map Sn.guid (fun g : Int => g == tm zs k) s.ss
  have e2 := any_map RSh.guid (fun g : Int => g == tm zs k) r.sh
  rw [m.guids, e2] at e1
  rw [List.any_map]
  exact e1
theorem Sim.held (m : Sim s r q) (zs : List Int) (k : Nat) : heldAt (r.sh.map RSh.sn) zs k = heldAt s.ss zs k := by
  unfold heldAt
  have e1 := any_map t3 (fun y : Int × Int × Int => (y.1 == tm zs k) && decide (y.2.2 > 0)) s.ss
  have e2 := any_map r3 (fun y : Int × Int × Int => (y.1 == tm zs k) && decide (y.2.2 > 0)) r.sh
  rw [m.ss, e2] at e1
  rw [List.any_map]
  exact e1
theorem RowG.fr {F : List Nat} {ao : Option Addr} {zs : List Int} {cap : Nat} (h : RowG w ao zs cap) (hf : Fr F w W) (hn : ∀ k off, ao = some ⟨k, off, none⟩ → 0 < zs.length → k ∉ F) : RowG W ao zs cap := by
  refine ⟨h.1, fun h0 => ?_⟩
  obtain ⟨rb, off, e, hc⟩ := h.2 h0
  refine ⟨rb, off, e, fun i hi => ?_⟩
  exact (World.cell?_of_block (hf.block rb (World.block_lt_of_cell? _ _ (hc i hi)) (hn rb off e h0))).trans (hc i hi)

theorem p_destroy (h : SD B w db b rb s r) (m : Sim s r q) (a1 a2 : Option Addr) (p1 p2 : Nat) (zs : List Int) (r1 : RowG w a1 zs p1) (r2 : RowG w a2 zs p2) (n1 : ∀ k off, a1 = some ⟨k, off, none⟩ → 0 < zs.length → k ∉ sft b rb s r) (n2 : ∀ k off, a2 = some ⟨k, off, none⟩ → 0 < zs.length → k ∉ sft b rb s r) (hb : ∀ i, i < zs.length → In64 (tm zs i)) (hz : zs.length ≤ 2000000) (hq : q ≤ 2000000) :
    Calls Tryz.prog 67 #[.pointer (some ⟨b, 0, none⟩), .slice a1 zs.length p1] w (PC fC B w db b rb s r q 68 #[.pointer (some ⟨rb, 0, none⟩), .slice a2 zs.length p2]) := by
  have hl12 := m.len
  have e2 := m.glen
  refine (destroy_any B b s a1 zs p1 w h.rep hl12.1 m.bl.2.2 m.nd r1 hz hb (fun k off e h0 hm => n1 k off e h0 (List.mem_append_left _ hm)) (by have := m.lg; omega)).mono ?_
  rintro e w1 ⟨f1, hc⟩
  have hr0 : ∀ W, RRep B W rb r → Fr (foot b s) w W → _ := fun W hW hf => rdestroy_any B rb r a2 zs p2 W hW (by omega) m.rnd (r2.fr hf (fun k off e h0 hm => n2 k off e h0 (List.mem_append_left _ hm))) hz (fun k off e h0 hm => n2 k off e h0 (List.mem_append_right _ hm))
  have fine0 : ∀ k, fineAt (r.sh.map RSh.sn) zs k = fineAt s.ss zs k := m.fine zs
  have held0 : ∀ k, heldAt (r.sh.map RSh.sn) zs k = heldAt s.ss zs k := m.held zs
  rcases hc with ⟨rfl, ⟨k, hk, hbad⟩, rp⟩ | ⟨rfl, hfi, ⟨k, hk, hhe⟩, rp⟩ | ⟨rfl, hfi, hno, s', d⟩
  · obtain ⟨b1, hr⟩ := h.pair2 rp f1 (fun k hk => Or.inl hk) (f := 68) (args := #[.pointer (some ⟨rb, 0, none⟩), .slice a2 zs.length p2]) (v := fC 3) (q := q) (fun W hW hf => by
      refine (hr0 W hW hf).mono ?_
      rintro e w2 ⟨f2, ⟨rfl, _, rr⟩ | ⟨_, hall, _⟩ | ⟨_, hall, _⟩⟩
      · exact ⟨rfl, r, rr, f2, fun k hk => Or.inl hk, m.le (by omega)⟩
      · have := hall k hk
        rw [fine0, hbad] at this
        cases this
      · have := hall k hk
        rw [fine0, hbad] at this
        cases this)
    exact ⟨3, rfl, b1, hr⟩
  · obtain ⟨b1, hr⟩ := h.pair2 rp f1 (fun k hk => Or.inl hk) (f := 68) (args := #[.pointer (some ⟨rb, 0, none⟩), .slice a2 zs.length p2]) (v := fC 4) (q := q) (fun W hW hf => by
      refine (hr0 W hW hf).mono ?_
      rintro e w2 ⟨f2, ⟨_, ⟨j, hj, hbad⟩, _⟩ | ⟨rfl, _, _, rr⟩ | ⟨_, _, hall, _⟩⟩
      · rw [fine0, hfi j hj] at hbad
        cases hbad
      · exact ⟨rfl, r, rr, f2, fun k hk => Or.inl hk, m.le (by omega)⟩
      · have := hall k hk
        rw [held0, hhe] at this
        cases this)
    exact ⟨4, rfl, b1, hr⟩
  · obtain ⟨b1, hr⟩ := h.pair2 d.rep f1 d.foot (f := 68) (args := #[.pointer (some ⟨rb, 0, none⟩), .slice a2 zs.length p2]) (v := fC 0) (q := q) (fun W hW hf => by
      refine (hr0 W hW hf).mono ?_
      rintro e w2 ⟨f2, ⟨_, ⟨j, hj, hbad⟩, _⟩ | ⟨_, _, ⟨j, hj, hh⟩, _⟩ | ⟨rfl, _, _, sv, rr, f3, o3⟩⟩
      · rw [fine0, hfi j hj] at hbad
        cases hbad
      · rw [held0, hno j hj] at hh
        cases hh
      · exact ⟨rfl, _, rr, f3, rfoot_up o3 (fun k hk => Or.inl hk), m.destroy d (by have := fine_len hfi; omega) sv⟩)
    exact ⟨0, rfl, b1, hr⟩
end
end Go.Proofs.YthdhegmlknpllaaGreat

/-
  The walk of the law's destroys (41).
-/
namespace Go.Proofs.YthdhegmlknpllaaGreat
open Go.RowKit Go.Maps Go.MuLone

section
variable {B : Nat} {w w1 w2 W : World} {db b rb : Nat} {s s' : Sto} {r r' : RSto} {q : Nat}
theorem SN.up (hf : Fr [] w w1) (h : SN B w1 w2 db b rb s r q) : SN B w w2 db b rb s r q := by
  obtain ⟨s', r', sd, m, f, g⟩ := h
  exact ⟨s', r', sd, m, (hf.mono (by simp)).trans f (fun k hk => Or.inl hk), fun k hk => (g k hk).imp_right (fun h => Nat.le_trans hf.size h)⟩
theorem SN.down (h : SN B w w1 db b rb s r q) (hf : Fr [] w1 w2) : SN B w w2 db b rb s r q := by
  obtain ⟨s', r', sd, m, f, g⟩ := h
  exact ⟨s', r', sd.same hf, m, f.trans hf (by simp), g⟩
theorem SN.keep (h : SN B w w1 db b rb s r q) (sd : SD B w db b rb s r) {k : Nat} {cur : Array Value} {t : TypeId} (e : w.heap[k]? = some (.cells cur t (0, 0))) (ht : t ≠ 76 ∧ t ≠ 112 ∧ t ≠ 119 ∧ t ≠ 125 ∧ t ≠ 5 ∧ t ≠ 86 ∧ t ≠ 117 ∧ t ≠ 129) : w1.heap[k]? = some (.cells cur t (0, 0)) := by
  obtain ⟨s', r', _, _, f, _⟩ := h
  rw [f.block k (Array.getElem?_eq_some_iff.1 e).1 (sd.no e ht)]
  exact e
end
/-- Numbers as cells. -/
def iC (zs : List Int) : List Value := zs.map (Value.int .i64)
theorem iC_len (zs : List Int) : (iC zs).length = zs.length := by simp [iC]
theorem rowG_iC {w : World} {g : Nat} {zs : List Int} {tl : List Value} {t : TypeId} {cap : Nat} (h : w.heap[g]? = some (.cells (iC zs ++ tl).toArray t (0, 0))) (hc : zs.length ≤ cap) : RowG w (some ⟨g, 0, none⟩) zs cap := by
  refine ⟨hc, fun h0 => ⟨g, 0, rfl, fun i hi => ?_⟩⟩
  rw [Nat.zero_add, cell_of h, List.getElem?_toArray, List.getElem?_append_left (by rw [iC_len]; exact hi)]
  simp [iC, tm, hi]

theorem fr_cells' {F : List Nat} {w : World} {vb : Nat} (hv : vb ∈ F ∨ w.heap.size ≤ vb) : ∀ (l : List Value) (o : Nat) (w1 : World), Fr F w w1 → Fr F w (w1.setCells vb o l)
  | [], _, _, h => h
  | _ :: r, o, _, h => fr_cells' hv r (o + 1) _ (h.setCell _ hv)
/-- The list that is handed in: the numbers, and two more behind them. -/
theorem dst_given {w1 : World} {gb n : Nat} {Z X : List Value} (hZ : Z.length = n + 2) (hX : X.length = n) (h0 : w1.heap[gb]? = some (.cells Z.toArray 3 (0, 0))) : (∃ v, (w1.setCells gb 0 X).cell? ⟨gb, n, none⟩ = some v) ∧ (w1.setCells gb 0 X).frozen? ⟨gb, n, none⟩ = false ∧ (∃ v, ((w1.setCells gb 0 X).setCell ⟨gb, n, none⟩ (.int .i64 77)).cell? ⟨gb, n + 1, none⟩ = some v) ∧ ((w1.setCells gb 0 X).setCell ⟨gb, n, none⟩ (.int .i64 77)).frozen? ⟨gb, n + 1, none⟩ = false ∧ (((w1.setCells gb 0 X).setCell ⟨gb, n, none⟩ (.int .i64 77)).setCell ⟨gb, n + 1, none⟩ (.int .i64 77)).heap[gb]? = some (.cells (X ++ [Value.int .i64 77, Value.int .i64 77]).toArray 3 (0, 0)) := by
  obtain ⟨cur, h, hs, hc⟩ := setCells_heap X 0 w1 Z.toArray h0
  have hs2 : cur.size = n + 2 := by rw [hs]; simpa using hZ
  have h1 := heap_setCell_same (w1.setCells gb 0 X) gb n _ _ (.int .i64 77) h
  have h2 := heap_setCell_same _ gb (n + 1) _ _ (.int .i64 77) h1
  refine ⟨⟨cur[n], ?_⟩, froz_of h _, ⟨cur[n + 1], ?_⟩, froz_of h1 _, ?_⟩
  · rw [cell_of h, Array.getElem?_eq_getElem (by omega)]
  · rw [cell_of h1, Array.getElem?_setIfInBounds_ne (by omega), Array.getElem?_eq_getElem (by omega)]
  · rw [h2]
    congr 2
    apply Array.ext_getElem?
    intro k
    rw [List.getElem?_toArray (xs := X ++ [Value.int .i64 77, Value.int .i64 77])]
    by_cases e1 : k = n + 1
    · subst e1
      rw [Array.getElem?_setIfInBounds_self_of_lt (by simp; omega), List.getElem?_append_right (by omega), hX]
      simp
    · rw [Array.getElem?_setIfInBounds_ne (by omega)]
      by_cases e2 : k = n
      · subst e2
        rw [Array.getElem?_setIfInBounds_self_of_lt (by omega), List.getElem?_append_right (by omega), hX]
        simp
      · rw [Array.getElem?_setIfInBounds_ne (by omega)]
        by_cases e3 : k < n
        · rw [hc k (by simp [hZ]; omega), if_pos ⟨by omega, by omega⟩, List.getElem?_append_left (by omega)]
          rfl
        · rw [Array.getElem?_eq_none (by omega), List.getElem?_eq_none (by simp; omega)]

set_option maxRecDepth 100000 in
set_option maxHeartbeats 3200000 in
theorem destroys_any (B db b rb : Nat) (s : Sto) (r : RSto) (q : Nat) (ao : Option Addr) (zs : List Int) (cap : Nat) (w : World) (h : SD B w db b rb s r) (m : Sim s r q) (hr : RowG w ao zs cap) (hnil : ao = none → cap = 0) (hlow : ∀ k off, ao = some ⟨k, off, none⟩ → 0 < zs.length → k < B) (hb : ∀ i, i < zs.length → In64 (tm zs i)) (hz : zs.length ≤ 1500000) (hq : q ≤ 2000000) :
    Calls Tryz.prog 41 #[.pointer (some ⟨db, 0, none⟩), .slice ao zs.length cap] w fun e w' => e = .returned (.bool true) ∧ SN B w w' db b rb s r q := by
  obtain ⟨i0, hi, hz0, hz1, hz2⟩ := info_parts info3
  have hsz1 : (Tryz.prog.info? 3).map (·.size) = some 1 := by rw [hi]; simp [hz1]
  obtain ⟨n, hn⟩ : ∃ n, zs.length = n := ⟨_, rfl⟩
  have HS : Hid (SD B w db b rb s r ∧ Sim s r q ∧ RowG w ao zs cap ∧ (∀ k off, ao = some ⟨k, off, none⟩ → 0 < zs.length → k < B) ∧ (∀ i, i < zs.length → In64 (tm zs i)) ∧ zs.length = n) := ⟨h, m, hr, hlow, hb, hn⟩
  have c0 : w.cell? ⟨db, 0, none⟩ = some (.pointer (some ⟨b, 0, none⟩)) := by rw [cell_of h.blk]; rfl
  have hcap : n ≤ cap := by rw [← hn]; exact hr.1
  have q1 : IntKind.i64.wrap ((n : Int) + 2) = ((n + 2 : Nat) : Int) := by rw [show ((n + 2 : Nat) : Int) = (n : Int) + 2 by omega]; exact wrap_fit ⟨by omega, by omega⟩
  have q2 : IntKind.i64.wrap ((n : Int) + 1) = (n : Int) + 1 := wrap_fit ⟨by omega, by omega⟩
  rw [hn] at hz ⊢
  obtain ⟨X, hX⟩ : ∃ X, iC zs = X := ⟨_, rfl⟩
  have HX : Hid (iC zs = X ∧ X.length = n ∧ (∀ v ∈ X, v.oneCell' = true)) := ⟨hX, by rw [← hX, iC_len, hn], by rw [← hX]; intro v hv; obtain ⟨z, _, rfl⟩ := List.mem_map.1 hv; rfl⟩
  clear h m hr hlow hb hn hX
  cases ao with
  | none =>
    have hn0 : n = 0 := by
      rw [← HS.out.2.2.2.2.2]
      rcases Nat.eq_zero_or_pos zs.length with e | e
      · exact e
      · obtain ⟨_, _, e2, _⟩ := HS.out.2.2.1.2 e
        cases e2
    have hz0' : zs = [] := List.length_eq_zero_iff.1 (by rw [HS.out.2.2.2.2.2]; exact hn0)
    have hc0 := hnil rfl
    subst hn0
    subst hc0
    subst hz0'
    have he : ∀ W : World, (binOp .eql 39 (.slice none 0 0) (.slice none 0 0)).run Tryz.prog W = .ok (.bool true) W := fun _ => rfl
    clear hnil HX q1 q2 X hcap hz
    go_enter Tryz.func41, Tryz.ntmps41
    go_wp2_with (first
      | (at_make; refine wpList_make_full _ rfl _ _ 39 rfl w.heap.size 3 i0 _ 1 Tryz.underlying39 hi hz0 hz1 _ _ _ _ 2 rfl rfl (by first | rfl | omega) (by first | rfl | omega) (by rw [hz2]; omega) (by unfold maxLen; omega) (by simp) ?_; intro w1 hown1 hgrow1; have F1 : Hid (Fr [] w w1) := (Fr.refl _ _).grown hgrow1 (fun k hk => by simp at hk); obtain ⟨Z, hZ1, hZ2⟩ : ∃ Z : List Value, Z.length = 2 ∧ w1.heap[w.heap.size]? = some (.cells Z.toArray 3 (0, 0)) := ⟨_, (by simpa using hown1.1), own_full hown1⟩; have HZ : Hid (Z.length = 2 ∧ w1.heap[w.heap.size]? = some (.cells Z.toArray 3 (0, 0))) := ⟨hZ1, hZ2⟩; clear hown1 hgrow1 hZ1 hZ2; have hcp0 : ∀ ty, (Builtin.copy_ #[39, 39] ty #[.slice (some ⟨w.heap.size, 0, none⟩) 2 2, .slice none 0 0]).run Tryz.prog w1 = .ok (goInt 0) w1 := (fun ty => run_copy_none (P := Tryz.prog) w1 39 39 ty 3 _ _ 2 2 0 0 Tryz.underlying39 hsz1 rfl); obtain ⟨⟨v1, g1⟩, g2, ⟨v2, g3⟩, g4, g5⟩ := dst_given (n := 0) (X := []) HZ.out.1 rfl HZ.out.2; have g0 : ((w1.setCell ⟨w.heap.size, 0, none⟩ (.int .i64 77)).setCell ⟨w.heap.size, 1, none⟩ (.int .i64 77)).cell? ⟨db, 0, none⟩ = some (.pointer (some ⟨b, 0, none⟩)) := ((F1.out.setCell _ (Or.inr (Nat.le_refl _))).setCell _ (Or.inr (Nat.le_refl _))).gb.cell c0 (by simp); have g1' : w1.cell? ⟨w.heap.size, 0, none⟩ = some v1 := g1; have g2' : w1.frozen? ⟨w.heap.size, 0, none⟩ = false := g2; have g3' : (w1.setCell ⟨w.heap.size, 0, none⟩ (.int .i64 77)).cell? ⟨w.heap.size, 1, none⟩ = some v2 := g3; have g4' : (w1.setCell ⟨w.heap.size, 0, none⟩ (.int .i64 77)).frozen? ⟨w.heap.size, 1, none⟩ = false := g4; have H2 : Hid (((w1.setCell ⟨w.heap.size, 0, none⟩ (.int .i64 77)).setCell ⟨w.heap.size, 1, none⟩ (.int .i64 77)).heap[w.heap.size]? = some (.cells #[Value.int .i64 77, Value.int .i64 77] 3 (0, 0))) := g5; clear g1 g2 g3 g4 g5))
    obtain ⟨gb, hgb⟩ : ∃ gb, w.heap.size = gb := ⟨_, rfl⟩
    obtain ⟨W3, hW3⟩ : ∃ W3, (w1.setCell ⟨w.heap.size, 0, none⟩ (.int .i64 77)).setCell ⟨w.heap.size, 1, none⟩ (.int .i64 77) = W3 := ⟨_, rfl⟩
    have HG3 : Hid (Fr [] w W3 ∧ W3.heap[gb]? = some (.cells #[Value.int .i64 77, Value.int .i64 77] 3 (0, 0))) := by
      have h8 := H2.out
      rw [hW3, hgb] at h8
      refine ⟨?_, h8⟩
      rw [← hW3]
      exact (F1.out.setCell _ (Or.inr (Nat.le_refl _))).setCell _ (Or.inr (Nat.le_refl _))
    rw [hW3, hgb]
    rw [hW3] at g0
    clear hW3 hcp0 g1' g2' g3' g4' H2 HZ F1 hgb
    have HSD : Hid (SD B W3 db b rb s r) := HS.out.1.same HG3.out.1
    have RN : ∀ (W : World) (a : Option Addr) (p : Nat), RowG W a [] p := fun W a p => ⟨Nat.zero_le _, fun h => by simp at h⟩
    have HRN : Hid (∀ (W : World) (a : Option Addr) (p : Nat), RowG W a [] p) := RN
    have HP : Hid (Calls Tryz.prog 67 #[.pointer (some ⟨b, 0, none⟩), .slice none 0 0] W3 (PC fC B W3 db b rb s r q 68 #[.pointer (some ⟨rb, 0, none⟩), .slice none 0 0])) := p_destroy HSD.out HS.out.2.1 none none 0 0 [] (RN _ _ _) (RN _ _ _) (fun k off e => by cases e) (fun k off e => by cases e) (fun i hi => by simp at hi) (by simp) hq
    have HR5 : Hid (∀ w5, SN B W3 w5 db b rb s r q → w5.heap[gb]? = some (.cells #[Value.int .i64 77, Value.int .i64 77] 3 (0, 0))) := fun w5 h5 => h5.keep HSD.out HG3.out.2 (by decide)
    have HCl : Hid (∀ W : World, W.heap[gb]? = some (.cells #[Value.int .i64 77, Value.int .i64 77] 3 (0, 0)) → W.cell? ⟨gb, 0, none⟩ = some (.int .i64 77) ∧ W.cell? ⟨gb, 1, none⟩ = some (.int .i64 77)) := fun W hW => by
      refine ⟨?_, ?_⟩ <;> rw [cell_of hW] <;> rfl
    clear RN
    go_wp2_with (first
      | (go_at_call 67; refine HP.out.mono ?_; rintro e w4 ⟨c, rfl, b4, hr4⟩; have H4 : Hid (∀ W, Fr [] w4 W → Calls Tryz.prog 68 #[.pointer (some ⟨rb, 0, none⟩), .slice none 0 0] W fun e2 w2 => e2 = .returned (.int .i64 c) ∧ SN B W3 w2 db b rb s r q) := hr4; have c41 : w4.cell? ⟨db, 1, none⟩ = some (.pointer (some ⟨rb, 0, none⟩)) := (by rw [cell_of b4.1]; rfl); rw [show fC c = Value.int .i64 c from rfl]; clear b4 hr4)
      | (go_at_call 68; refine (H4.out _ (by first | exact Fr.refl _ _ | exact (Fr.refl _ _).drew | exact (Fr.refl _ _).drewN _)).mono ?_; rintro e w5 ⟨rfl, sn5⟩; have H5 : Hid (SN B W3 w5 db b rb s r q) := sn5; clear sn5)
      | (go_at_call 47; refine (sameInts_any (some ⟨gb, 0, none⟩) none [] 2 0 w5 (HRN.out _ _ _) (HRN.out _ _ _) (by simp)).mono ?_; rintro e w6 ⟨rfl, q6, hq6⟩; have H6 : Hid (SN B W3 w6 db b rb s r q) := (by rw [hq6]; exact H5.out.down ((Fr.refl _ _).drewN _)); obtain ⟨x1, x2⟩ := HCl.out w6 (HR5.out w6 H6.out); clear hq6))
    go_ret
    exact ⟨rfl, H6.out.up HG3.out.1⟩
  | some ad =>
    have HSrc : Hid (∀ W, Fr [] w W → ∀ j v, X[j]? = some v → W.cell? (ad.add j) = some v) := fun W hW j v hv => by
      have hRW := HS.out.2.2.1.fr hW (by simp)
      have hj : j < zs.length := by have := (List.getElem?_eq_some_iff.1 hv).1; rw [HX.out.2.1] at this; rw [HS.out.2.2.2.2.2]; exact this
      obtain ⟨rb', off, e, hc⟩ := hRW.2 (by omega)
      simp only [Option.some.injEq] at e
      rw [e, Addr.add_lit, hc j hj]
      rw [← HX.out.1] at hv
      simp only [iC, List.getElem?_map, List.getElem?_eq_getElem hj, Option.map_some, Option.some.injEq] at hv
      rw [tm_get zs j hj]
      exact congrArg some hv
    have he : ∀ W : World, (binOp .eql 39 (.slice (some ad) n cap) (.slice none 0 0)).run Tryz.prog W = .ok (.bool false) W := fun _ => rfl
    have n1 : (n : Int) < ((n + 2 : Nat) : Int) := by omega
    have n2 : (n : Int) + 1 < ((n + 2 : Nat) : Int) := by omega
    have n3 : ((n : Int) + 1).toNat = n + 1 := by omega
    have n4 : (0 : Int) ≤ (n : Int) + 1 := by omega
    go_enter Tryz.func41, Tryz.ntmps41
    go_wp2_with (first
      | (at_make; refine wpList_make_full _ rfl _ _ 39 rfl w.heap.size 3 i0 _ 1 Tryz.underlying39 hi hz0 hz1 _ _ _ _ (n + 2) rfl rfl (by first | rfl | omega | exact q1) (by first | rfl | omega | exact q1) (by rw [hz2]; omega) (by unfold maxLen; omega) (by simp) ?_; intro w1 hown1 hgrow1; have F1 : Hid (Fr [] w w1) := (Fr.refl _ _).grown hgrow1 (fun k hk => by simp at hk); obtain ⟨Z, hZ1, hZ2⟩ : ∃ Z : List Value, Z.length = n + 2 ∧ w1.heap[w.heap.size]? = some (.cells Z.toArray 3 (0, 0)) := ⟨_, (by simpa using hown1.1), own_full hown1⟩; have HZ : Hid (Z.length = n + 2 ∧ w1.heap[w.heap.size]? = some (.cells Z.toArray 3 (0, 0))) := ⟨hZ1, hZ2⟩; clear hown1 hgrow1 hZ1 hZ2; have hcp0 : ∀ ty, (Builtin.copy_ #[39, 39] ty #[.slice (some ⟨w.heap.size, 0, none⟩) (n + 2) (n + 2), .slice (some ad) n cap]).run Tryz.prog w1 = .ok (goInt n) (w1.setCells w.heap.size 0 X) := (fun ty => by have h8 := run_copy_cells (P := Tryz.prog) w1 39 39 ty 3 w.heap.size 0 (n + 2) (n + 2) ad n cap X Tryz.underlying39 hsz1 (by rw [HX.out.2.1]; simp) (HSrc.out w1 F1.out) (fun j hj => by rw [Nat.zero_add, cell_of HZ.out.2, List.getElem?_toArray, List.getElem?_eq_getElem (by rw [HZ.out.1]; rw [HX.out.2.1] at hj; omega)]; rfl) (fun j hj => froz_of HZ.out.2 _) HX.out.2.2; rw [HX.out.2.1] at h8; exact h8); obtain ⟨⟨v1, g1⟩, g2, ⟨v2, g3⟩, g4, g5⟩ := dst_given HZ.out.1 HX.out.2.1 HZ.out.2; have g0 : (((w1.setCells w.heap.size 0 X).setCell ⟨w.heap.size, n, none⟩ (.int .i64 77)).setCell ⟨w.heap.size, n + 1, none⟩ (.int .i64 77)).cell? ⟨db, 0, none⟩ = some (.pointer (some ⟨b, 0, none⟩)) := (((fr_cells' (F := []) (w := w) (vb := w.heap.size) (Or.inr (Nat.le_refl _)) X 0 w1 F1.out).setCell _ (Or.inr (Nat.le_refl _))).setCell _ (Or.inr (Nat.le_refl _))).gb.cell c0 (by simp); obtain ⟨w2, hw2⟩ : ∃ w2, w1.setCells w.heap.size 0 X = w2 := ⟨_, rfl⟩; have H2 : Hid (w1.setCells w.heap.size 0 X = w2 ∧ (((w1.setCells w.heap.size 0 X).setCell ⟨w.heap.size, n, none⟩ (.int .i64 77)).setCell ⟨w.heap.size, n + 1, none⟩ (.int .i64 77)).heap[w.heap.size]? = some (.cells (X ++ [Value.int .i64 77, Value.int .i64 77]).toArray 3 (0, 0))) := ⟨hw2, g5⟩; rw [hw2] at hcp0 g0 g1 g2 g3 g4; clear g5 hw2))
    obtain ⟨gb, hgb⟩ : ∃ gb, w.heap.size = gb := ⟨_, rfl⟩
    obtain ⟨W3, hW3⟩ : ∃ W3, (w2.setCell ⟨w.heap.size, n, none⟩ (.int .i64 77)).setCell ⟨w.heap.size, n + 1, none⟩ (.int .i64 77) = W3 := ⟨_, rfl⟩
    have HG3 : Hid (Fr [] w W3 ∧ W3.heap[gb]? = some (.cells (X ++ [Value.int .i64 77, Value.int .i64 77]).toArray 3 (0, 0))) := by
      have h8 := H2.out.2
      rw [H2.out.1, hW3, hgb] at h8
      refine ⟨?_, h8⟩
      rw [← hW3, ← H2.out.1]
      exact ((fr_cells' (F := []) (w := w) (vb := w.heap.size) (Or.inr (Nat.le_refl _)) X 0 w1 F1.out).setCell _ (Or.inr (Nat.le_refl _))).setCell _ (Or.inr (Nat.le_refl _))
    rw [hW3, hgb]
    rw [hW3] at g0
    clear hW3 hcp0 g1 g2 g3 g4 H2 HZ F1 hgb
    have HSD : Hid (SD B W3 db b rb s r ∧ RowG W3 (some ⟨gb, 0, none⟩) zs (n + 2) ∧ RowG W3 (some ad) zs cap) := ⟨HS.out.1.same HG3.out.1, rowG_iC (tl := [Value.int .i64 77, Value.int .i64 77]) (by rw [HX.out.1]; exact HG3.out.2) (by rw [HS.out.2.2.2.2.2]; omega), HS.out.2.2.1.fr HG3.out.1 (by simp)⟩
    have HP : Hid (Calls Tryz.prog 67 #[.pointer (some ⟨b, 0, none⟩), .slice (some ⟨gb, 0, none⟩) n (n + 2)] W3 (PC fC B W3 db b rb s r q 68 #[.pointer (some ⟨rb, 0, none⟩), .slice (some ad) n cap])) := by
      have h8 := p_destroy HSD.out.1 HS.out.2.1 (some ⟨gb, 0, none⟩) (some ad) (n + 2) cap zs HSD.out.2.1 HSD.out.2.2 (fun k off e _ => by simp only [Option.some.injEq, Addr.mk.injEq] at e; rw [← e.1]; exact HSD.out.1.no HG3.out.2 (by decide)) (fun k off e h0 hm => by have h9 := HS.out.2.2.2.1 k off e h0; have h10 := (HSD.out.1.lt k hm).1; omega) HS.out.2.2.2.2.1 (by rw [HS.out.2.2.2.2.2]; omega) hq
      rw [HS.out.2.2.2.2.2] at h8
      exact h8
    have HR5 : Hid (∀ w5, SN B W3 w5 db b rb s r q → w5.heap[gb]? = some (.cells (X ++ [Value.int .i64 77, Value.int .i64 77]).toArray 3 (0, 0)) ∧ RowG w5 (some ad) zs cap) := fun w5 h5 => by
      refine ⟨h5.keep HSD.out.1 HG3.out.2 (by decide), ?_⟩
      obtain ⟨_, _, _, _, f, _⟩ := h5
      exact HSD.out.2.2.fr f (fun k off e h0 hm => by have h9 := HS.out.2.2.2.1 k off e h0; have h10 := (HSD.out.1.lt k hm).1; omega)
    have HCl : Hid (∀ W : World, W.heap[gb]? = some (.cells (X ++ [Value.int .i64 77, Value.int .i64 77]).toArray 3 (0, 0)) → W.cell? ⟨gb, n, none⟩ = some (.int .i64 77) ∧ W.cell? ⟨gb, n + 1, none⟩ = some (.int .i64 77)) := fun W hW => by
      have hl := HX.out.2.1
      refine ⟨?_, ?_⟩ <;> rw [cell_of hW, List.getElem?_toArray, List.getElem?_append_right (by omega), hl] <;> simp
    have HSame : Hid (∀ W : World, W.heap[gb]? = some (.cells (X ++ [Value.int .i64 77, Value.int .i64 77]).toArray 3 (0, 0)) → RowG W (some ad) zs cap → Calls Tryz.prog 47 #[.slice (some ⟨gb, 0, none⟩) n (n + 2), .slice (some ad) n cap] W fun e w' => e = .returned (.bool true) ∧ ∃ q, w' = W.drewN q) := fun W h1 h2 => by
      have h8 := sameInts_any (some ⟨gb, 0, none⟩) (some ad) zs (n + 2) cap W (rowG_iC (tl := [Value.int .i64 77, Value.int .i64 77]) (by rw [HX.out.1]; exact h1) (by rw [HS.out.2.2.2.2.2]; omega)) h2 (by rw [HS.out.2.2.2.2.2]; omega)
      rw [HS.out.2.2.2.2.2] at h8
      exact h8
    go_wp2_with (first
      | (go_at_call 67; refine HP.out.mono ?_; rintro e w4 ⟨c, rfl, b4, hr4⟩; have H4 : Hid (∀ W, Fr [] w4 W → Calls Tryz.prog 68 #[.pointer (some ⟨rb, 0, none⟩), .slice (some ad) n cap] W fun e2 w2 => e2 = .returned (.int .i64 c) ∧ SN B W3 w2 db b rb s r q) := hr4; have c41 : w4.cell? ⟨db, 1, none⟩ = some (.pointer (some ⟨rb, 0, none⟩)) := (by rw [cell_of b4.1]; rfl); rw [show fC c = Value.int .i64 c from rfl]; clear b4 hr4)
      | (go_at_call 68; refine (H4.out _ (by first | exact Fr.refl _ _ | exact (Fr.refl _ _).drew | exact (Fr.refl _ _).drewN _)).mono ?_; rintro e w5 ⟨rfl, sn5⟩; have H5 : Hid (SN B W3 w5 db b rb s r q) := sn5; clear sn5)
      | (go_at_call 47; refine (HSame.out _ (HR5.out w5 H5.out).1 (HR5.out w5 H5.out).2).mono ?_; rintro e w6 ⟨rfl, q6, hq6⟩; have H6 : Hid (SN B W3 w6 db b rb s r q) := (by rw [hq6]; exact H5.out.down ((Fr.refl _ _).drewN _)); obtain ⟨x1, x2⟩ := HCl.out w6 (HR5.out w6 H6.out).1; clear hq6))
    go_ret
    exact ⟨rfl, H6.out.up HG3.out.1⟩
end Go.Proofs.YthdhegmlknpllaaGreat

/-
  The law's whole state in memory: three sides, the lists that came out.
-/
namespace Go.Proofs.YthdhegmlknpllaaGreat
open Go.RowKit Go.Maps Go.MuLone

structure SdR where
  db : Nat
  b : Nat
  rb : Nat
  s : Sto
  r : RSto
def SdR.ft (x : SdR) : List Nat := sft x.b x.rb x.s x.r
structure LS (w0 : World) (B : Nat) (w : World) (wb : Nat) (sv tv : Value) (T : List ByteArray) (kv mv : Value) (sds : List SdR) (K M : List (Nat × Nat × Nat)) (q : Nat) : Prop where
  wm : WM B w wb sv tv T kv mv (sds.map SdR.db) K M
  sd : ∀ (i : Nat) (x : SdR), sds[i]? = some x → SD B w x.db x.b x.rb x.s x.r ∧ Sim x.s x.r q
  dj : ∀ (i j : Nat) (x y : SdR), i ≠ j → sds[i]? = some x → sds[j]? = some y → ∀ k ∈ x.ft, k ∉ y.ft
  k4 : K.length % 4 = 0 ∧ M.length % 4 = 0
  kl : K.length ≤ 4 * q ∧ M.length ≤ 4 * q
  kb : (∀ x ∈ K, x.2.1 ≤ 16) ∧ (∀ x ∈ M, x.2.1 ≤ 16)
  be : Below B w0 w
  tl : T.length ≤ q ∧ ∀ t ∈ T, t.size ≤ 1000
/-- Behind a step that keeps the streams. -/
def LPT (w0 : World) (B : Nat) (w' : World) (wb : Nat) (sv tv : Value) (T : List ByteArray) (D : List Nat) (q : Nat) : Prop := ∃ kv mv sds K M, LS w0 B w' wb sv tv T kv mv sds K M q ∧ sds.map SdR.db = D
/-- Behind a step. -/
def LP (w0 : World) (B : Nat) (w' : World) (wb : Nat) (sv : Value) (D : List Nat) (q : Nat) : Prop := ∃ tv T kv mv sds K M, LS w0 B w' wb sv tv T kv mv sds K M q ∧ sds.map SdR.db = D

section
variable {w0 : World} {B : Nat} {w w' : World} {wb : Nat} {sv tv : Value} {T : List ByteArray} {kv mv : Value} {sds : List SdR} {K M : List (Nat × Nat × Nat)} {q : Nat}
theorem sft_tags {b rb : Nat} {s : Sto} {r : RSto} {db : Nat} (h : SD B w db b rb s r) : ∀ j ∈ sft b rb s r, ∀ cur t, w.heap[j]? = some (.cells cur t (0, 0)) → t = 76 ∨ t = 112 ∨ t = 119 ∨ t = 125 ∨ t = 5 ∨ t = 86 ∨ t = 117 ∨ t = 129 := fun j hj cur t e => by
  rcases List.mem_append.1 hj with hj | hj
  · rcases foot_tag h.rep hj e with h | h | h | h | h
    · exact Or.inl h
    · exact Or.inr (Or.inl h)
    · exact Or.inr (Or.inr (Or.inl h))
    · exact Or.inr (Or.inr (Or.inr (Or.inl h)))
    · exact Or.inr (Or.inr (Or.inr (Or.inr (Or.inl h))))
  · rcases rfoot_tag h.rrep hj e with h | h | h
    · exact Or.inr (Or.inr (Or.inr (Or.inr (Or.inr (Or.inl h)))))
    · exact Or.inr (Or.inr (Or.inr (Or.inr (Or.inr (Or.inr (Or.inl h))))))
    · exact Or.inr (Or.inr (Or.inr (Or.inr (Or.inr (Or.inr (Or.inr h))))))
theorem LS.hB (h : LS w0 B w wb sv tv T kv mv sds K M q) : B ≤ w.heap.size := by
  have h1 := h.wm.hw
  have h2 := (Array.getElem?_eq_some_iff.1 h.wm.blk).1
  omega
theorem LS.same (h : LS w0 B w wb sv tv T kv mv sds K M q) (hf : Fr [] w w') : LS w0 B w' wb sv tv T kv mv sds K M q :=
  ⟨h.wm.same hf, fun i x hx => ⟨(h.sd i x hx).1.same hf, (h.sd i x hx).2⟩, h.dj, h.k4, h.kl, h.kb, h.be.trans (hf.below h.hB (by simp)), h.tl⟩
theorem LS.up (h : LS w0 B w wb sv tv T kv mv sds K M q) : LS w0 B w wb sv tv T kv mv sds K M (q + 1) :=
  ⟨h.wm, fun i x hx => ⟨(h.sd i x hx).1, (h.sd i x hx).2.le (by omega)⟩, h.dj, h.k4, ⟨by have := h.kl.1; omega, by have := h.kl.2; omega⟩, h.kb, h.be, ⟨by have := h.tl.1; omega, h.tl.2⟩⟩
/-- A call on both stores of one side. -/
theorem LS.sideT (h : LS w0 B w wb sv tv T kv mv sds K M q) {i : Nat} {x : SdR} (hx : sds[i]? = some x) (hn : SN B w w' x.db x.b x.rb x.s x.r q) : LPT w0 B w' wb sv tv T (sds.map SdR.db) (q + 1) := by
  obtain ⟨s', r', sd', m', f, g⟩ := hn
  have hil : i < sds.length := (List.getElem?_eq_some_iff.1 hx).1
  have ex : sds[i] = x := (List.getElem?_eq_some_iff.1 hx).2
  have hD : (sds.set i ⟨x.db, x.b, x.rb, s', r'⟩).map SdR.db = sds.map SdR.db := by
    rw [List.map_set]
    have e : (⟨x.db, x.b, x.rb, s', r'⟩ : SdR).db = (sds.map SdR.db)[i]'(by simpa using hil) := by rw [List.getElem_map, ex]
    rw [e, List.set_getElem_self]
  have sdi := (h.sd i x hx).1
  have tg := sft_tags sdi
  refine ⟨kv, mv, sds.set i ⟨x.db, x.b, x.rb, s', r'⟩, K, M, ⟨?_, fun j y hy => ?_, fun j1 j2 y1 y2 hne h1 h2 => ?_, h.k4, ⟨by have := h.kl.1; omega, by have := h.kl.2; omega⟩, h.kb, h.be.trans (f.below h.hB (fun k hk => (sdi.lt k hk).1)), ⟨by have := h.tl.1; omega, h.tl.2⟩⟩, hD⟩
  · rw [hD]
    exact h.wm.fr f (fun j hj cur t e => by rcases tg j hj cur t e with h | h | h | h | h | h | h | h <;> subst h <;> decide)
  · by_cases e : j = i
    · subst e
      rw [List.getElem?_set_self hil] at hy
      cases hy
      exact ⟨sd', m'⟩
    · rw [List.getElem?_set_ne (Ne.symm e)] at hy
      have hj := h.sd j y hy
      refine ⟨hj.1.fr f (fun k hk hm => h.dj j i y x e hy hx k hk hm) (fun hm => ?_), hj.2.le (by omega)⟩
      have := tg y.db hm _ _ hj.1.blk
      simp at this
  · by_cases e1 : j1 = i
    · subst e1
      have e2 : j2 ≠ j1 := Ne.symm hne
      rw [List.getElem?_set_self hil] at h1
      rw [List.getElem?_set_ne (Ne.symm e2)] at h2
      cases h1
      intro k hk hm
      rcases g k hk with h3 | h3
      · exact h.dj j1 j2 x y2 hne hx h2 k h3 hm
      · have := ((h.sd j2 y2 h2).1.lt k hm).2
        omega
    · rw [List.getElem?_set_ne (Ne.symm e1)] at h1
      by_cases e2 : j2 = i
      · subst e2
        rw [List.getElem?_set_self hil] at h2
        cases h2
        intro k hk hm
        rcases g k hm with h3 | h3
        · exact h.dj j1 j2 y1 x hne h1 hx k hk h3
        · have := ((h.sd j1 y1 h1).1.lt k hk).2
          omega
      · rw [List.getElem?_set_ne (Ne.symm e2)] at h2
        exact h.dj j1 j2 y1 y2 hne h1 h2
theorem LPT.lp {D : List Nat} (h : LPT w0 B w wb sv tv T D q) : LP w0 B w wb sv D q := by
  obtain ⟨kv, mv, sds, K, M, h1, h2⟩ := h
  exact ⟨tv, T, kv, mv, sds, K, M, h1, h2⟩
/-- A call on both stores of one side. -/
theorem LS.side (h : LS w0 B w wb sv tv T kv mv sds K M q) {i : Nat} {x : SdR} (hx : sds[i]? = some x) (hn : SN B w w' x.db x.b x.rb x.s x.r q) : LP w0 B w' wb sv (sds.map SdR.db) (q + 1) := (h.sideT hx hn).lp
/-- Where blocks of the law's own types are written, the sides stay. -/
theorem LS.sides (h : LS w0 B w wb sv tv T kv mv sds K M q) {F : List Nat} (hf : Fr F w w') (ht : ∀ j ∈ F, ∃ cur t, w.heap[j]? = some (.cells cur t (0, 0)) ∧ (t = 34 ∨ t = 39 ∨ t = 62 ∨ t = 3 ∨ t = 61 ∨ t = 9)) : ∀ (i : Nat) (x : SdR), sds[i]? = some x → SD B w' x.db x.b x.rb x.s x.r ∧ Sim x.s x.r q := fun i x hx => by
  have hs := h.sd i x hx
  refine ⟨hs.1.fr hf (fun k hk hm => ?_) (fun hm => ?_), hs.2⟩
  · obtain ⟨cur, t, e, ht'⟩ := ht k hm
    refine hs.1.no e ?_ hk
    rcases ht' with rfl | rfl | rfl | rfl | rfl | rfl <;> decide
  · obtain ⟨cur, t, e, ht'⟩ := ht _ hm
    have h8 := hs.1.blk
    unfold sdO at h8
    rw [e] at h8
    simp at h8
    have h9 := h8.2
    rcases ht' with rfl | rfl | rfl | rfl | rfl | rfl <;> cases h9
/-- A list of marks is kept. -/
theorem LS.keepM (h : LS w0 B w wb sv tv T kv mv sds K M q) {gg : Nat} {cur : Array Value} (hg : w.heap[gg]? = some (.cells cur 3 (0, 0))) (hBg : B ≤ gg) (hp : KmPost B w w' wb gg sv tv T kv mv (sds.map SdR.db) K M) : LP w0 B w' wb sv (sds.map SdR.db) (q + 1) := by
  obtain ⟨mv', M', hl, wm', f, hm⟩ := hp
  have hs := h.sides f (fun j hj => by
    rcases List.mem_cons.1 hj with rfl | hj
    · exact ⟨_, _, h.wm.blk, Or.inl rfl⟩
    · rcases List.mem_cons.1 hj with rfl | hj
      · exact ⟨_, _, hg, Or.inr (Or.inr (Or.inr (Or.inl rfl)))⟩
      · simp at hj
        obtain ⟨_, cur', e⟩ := own_tag h.wm.mo hj
        exact ⟨_, _, e, Or.inr (Or.inl rfl)⟩)
  have k4 := h.k4
  have kl := h.kl
  exact ⟨tv, T, kv, mv', sds, K, M', ⟨wm', fun i x hx => ⟨(hs i x hx).1, (hs i x hx).2.le (by omega)⟩, h.dj, ⟨k4.1, by omega⟩, ⟨by omega, by omega⟩, ⟨h.kb.1, fun x hx => by
    rcases hm x hx with h1 | h1
    · exact h.kb.2 x h1
    · exact h1⟩, h.be.trans (f.below h.hB (fun k hk => by
      rcases List.mem_cons.1 hk with rfl | hk
      · exact h.wm.hw
      · rcases List.mem_cons.1 hk with rfl | hk
        · exact hBg
        · simp at hk
          exact (own_tag h.wm.mo hk).1)), ⟨by have := h.tl.1; omega, h.tl.2⟩⟩, rfl⟩
/-- A list of snapshots is kept. -/
theorem LS.keepK (h : LS w0 B w wb sv tv T kv mv sds K M q) {gg : Nat} {cur : Array Value} (hg : w.heap[gg]? = some (.cells cur 61 (0, 0))) (hBg : B ≤ gg) (hp : KsPost B w w' wb gg sv tv T mv kv (sds.map SdR.db) M K) : LP w0 B w' wb sv (sds.map SdR.db) (q + 1) := by
  obtain ⟨kv', K', hl, wm', f, hm⟩ := hp
  have hs := h.sides f (fun j hj => by
    rcases List.mem_cons.1 hj with rfl | hj
    · exact ⟨_, _, h.wm.blk, Or.inl rfl⟩
    · rcases List.mem_cons.1 hj with rfl | hj
      · exact ⟨_, _, hg, Or.inr (Or.inr (Or.inr (Or.inr (Or.inl rfl))))⟩
      · simp at hj
        obtain ⟨_, cur', e⟩ := own_tag h.wm.ko hj
        exact ⟨_, _, e, Or.inr (Or.inr (Or.inl rfl))⟩)
  have k4 := h.k4
  have kl := h.kl
  exact ⟨tv, T, kv', mv, sds, K', M, ⟨wm', fun i x hx => ⟨(hs i x hx).1, (hs i x hx).2.le (by omega)⟩, h.dj, ⟨by omega, k4.2⟩, ⟨by omega, by omega⟩, ⟨fun x hx => by
    rcases hm x hx with h1 | h1
    · exact h.kb.1 x h1
    · exact h1, h.kb.2⟩, h.be.trans (f.below h.hB (fun k hk => by
      rcases List.mem_cons.1 hk with rfl | hk
      · exact h.wm.hw
      · rcases List.mem_cons.1 hk with rfl | hk
        · exact hBg
        · simp at hk
          exact (own_tag h.wm.ko hk).1)), ⟨by have := h.tl.1; omega, h.tl.2⟩⟩, rfl⟩
/-- A stream is kept. -/
theorem WM.addT {D : List Nat} (h : WM B w wb sv tv T kv mv D K M) {w9 : World} (hg : w.grownBy w9 tv.ownBlock) {u : ByteArray} {tv' : Value} (ho : w9.ownsRow B 9 1 tv' (T.length + 1) (T.map Value.string ++ [.string u])) : WM B (w9.setCell ⟨wb, 1, none⟩ tv') wb sv tv' (T ++ [u]) kv mv D K M ∧ Fr (wb :: tv.ownBlock.toList) w (w9.setCell ⟨wb, 1, none⟩ tv') ∧ w9.cell? ⟨wb, 1, none⟩ = some tv ∧ w9.frozen? ⟨wb, 1, none⟩ = false := by
  have ht : ∀ j, tv.ownBlock = some j → ∃ cur, w.heap[j]? = some (.cells cur 9 (0, 0)) := fun j hj => (own_tag h.to hj).2
  have hf : Fr tv.ownBlock.toList w w9 := (Fr.refl _ _).grown hg (fun k hk => Or.inl (by simp [hk]))
  have hnF : wb ∉ tv.ownBlock.toList := fun hm => by
    simp at hm
    obtain ⟨cur, e⟩ := ht wb hm
    rw [h.blk] at e
    simp at e
  have b9 : w9.heap[wb]? = some (.cells #[sv, tv, kv, mv] 34 (0, 0)) := by rw [hf.block wb (Array.getElem?_eq_some_iff.1 h.blk).1 hnF]; exact h.blk
  have hf2 : Fr (wb :: tv.ownBlock.toList) w (w9.setCell ⟨wb, 1, none⟩ tv') := (hf.mono (fun k hk => List.mem_cons_of_mem _ hk)).setCell _ (Or.inl (by simp))
  have hno : ∀ t : TypeId, t ≠ 34 → t ≠ 9 → ∀ j ∈ wb :: tv.ownBlock.toList, ∀ cur, w.heap[j]? ≠ some (.cells cur t (0, 0)) := fun t h1 h2 j hj cur e => by
    rcases List.mem_cons.1 hj with rfl | hj
    · rw [h.blk] at e
      simp at e
      exact h1 e.2.symm
    · simp at hj
      obtain ⟨cur', e'⟩ := ht j hj
      rw [e'] at e
      simp at e
      exact h2 e.2.symm
  refine ⟨⟨by rw [heap_setCell_same _ _ _ _ _ _ b9]; rfl, own_tagged h.so hf2 (hno 35 (by decide) (by decide)), own_tagged h.ko hf2 (hno 62 (by decide) (by decide)), own_tagged h.mo hf2 (hno 39 (by decide) (by decide)), fun i y hy => ⟨(h.kk i y hy).1, (h.kk i y hy).2.fr hf2 (hno 61 (by decide) (by decide))⟩, fun i y hy => ⟨(h.mi i y hy).1, (h.mi i y hy).2.fr hf2 (hno 3 (by decide) (by decide))⟩, h.hw, ?_⟩, hf2, by rw [cell_of b9]; rfl, froz_of b9 _⟩
  rw [List.length_append, List.length_singleton, List.map_append, List.map_singleton]
  refine own_of_block ho (fun j hj => heap_setCell_other _ _ _ _ (fun e => ?_))
  obtain ⟨_, cur, h4⟩ := own_tag ho hj
  rw [e, b9] at h4
  simp at h4
/-- A stream is kept: the law's state. -/
theorem LS.addT (h : LS w0 B w wb sv tv T kv mv sds K M q) (hT : T.length + 1 ≤ q) {w9 : World} (hg : w.grownBy w9 tv.ownBlock) {u : ByteArray} (hu : u.size ≤ 1000) {tv' : Value} (ho : w9.ownsRow B 9 1 tv' (T.length + 1) (T.map Value.string ++ [.string u])) : LS w0 B (w9.setCell ⟨wb, 1, none⟩ tv') wb sv tv' (T ++ [u]) kv mv sds K M q ∧ w9.cell? ⟨wb, 1, none⟩ = some tv ∧ w9.frozen? ⟨wb, 1, none⟩ = false := by
  obtain ⟨wm', f, c1, z1⟩ := h.wm.addT hg ho
  have hs := h.sides f (fun j hj => by
    rcases List.mem_cons.1 hj with rfl | hj
    · exact ⟨_, _, h.wm.blk, Or.inl rfl⟩
    · simp at hj
      obtain ⟨_, cur', e⟩ := own_tag h.wm.to hj
      exact ⟨_, _, e, Or.inr (Or.inr (Or.inr (Or.inr (Or.inr rfl))))⟩)
  refine ⟨⟨wm', hs, h.dj, h.k4, h.kl, h.kb, h.be.trans (f.below h.hB (fun k hk => ?_)), ⟨by rw [List.length_append]; simpa using hT, fun t ht => ?_⟩⟩, c1, z1⟩
  · rcases List.mem_cons.1 hk with rfl | hk
    · exact h.wm.hw
    · simp at hk
      exact (own_tag h.wm.to hk).1
  · rcases List.mem_append.1 ht with ht | ht
    · exact h.tl.2 t ht
    · have e : t = u := by simpa using ht
      rw [e]
      exact hu
end
end Go.Proofs.YthdhegmlknpllaaGreat

/-
  The walk of the law's store (16).
-/
namespace Go.Proofs.YthdhegmlknpllaaGreat
open Go.RowKit Go.Maps Go.MuLone

/-- What a call on both answers: both the same; and what the law's state is then. -/
def QC {α : Type} (f : α → Value) (w0 : World) (B wb : Nat) (sv : Value) (D : List Nat) (q db b rb ob : Nat) (o : Obj) (fr : Nat) (args : Array Value) (e : Ending) (w1 : World) : Prop :=
  ∃ a : α, e = .returned (f a) ∧ w1.heap[db]? = some (sdO b rb) ∧ w1.heap[ob]? = some o ∧ ∀ W, Fr [] w1 W → Calls Tryz.prog fr args W fun e2 w2 => e2 = .returned (f a) ∧ LP w0 B w2 wb sv D (q + 1) ∧ w2.heap[db]? = some (sdO b rb) ∧ w2.heap[ob]? = some o
theorem PC.q {α : Type} {f : α → Value} {w0 : World} {B wb : Nat} {sv tv : Value} {T : List ByteArray} {kv mv : Value} {sds : List SdR} {K M : List (Nat × Nat × Nat)} {q i fr ob : Nat} {x : SdR} {args : Array Value} {w w1 : World} {e : Ending} {cs : Array Value} (h : LS w0 B w wb sv tv T kv mv sds K M q) (hx : sds[i]? = some x) (ho : w.heap[ob]? = some (.cells cs 41 (0, 0))) (p : PC f B w x.db x.b x.rb x.s x.r q fr args e w1) : QC f w0 B wb sv (sds.map SdR.db) q x.db x.b x.rb ob (.cells cs 41 (0, 0)) fr args e w1 := by
  obtain ⟨a, he, ⟨b1, f1⟩, hr⟩ := p
  refine ⟨a, he, b1, ?_, fun W hW => ?_⟩
  · rw [f1.block ob (Array.getElem?_eq_some_iff.1 ho).1 ((h.sd i x hx).1.no ho (by decide))]
    exact ho
  · refine (hr W hW).mono ?_
    rintro e2 w2 ⟨he2, sn⟩
    refine ⟨he2, h.side hx sn, ?_, sn.keep (h.sd i x hx).1 ho (by decide)⟩
    obtain ⟨s', r', sd', _⟩ := sn
    exact sd'.blk

set_option maxRecDepth 100000 in
set_option maxHeartbeats 1600000 in
theorem store_write (w0 : World) (B wb : Nat) (sv tv : Value) (T : List ByteArray) (kv mv : Value) (sds : List SdR) (K M : List (Nat × Nat × Nat)) (q : Nat) (i : Nat) (x : SdR) (at' a b : Int) (t : ByteArray) (lo : Option Addr) (n c : Nat) (w : World) (h : LS w0 B w wb sv tv T kv mv sds K M q) (hx : sds[i]? = some x) (hq : q ≤ 2000000) :
    Calls Tryz.prog 16 #[.pointer (some ⟨wb, 0, none⟩), .pointer (some ⟨x.db, 0, none⟩), .agg #[.int .i64 1, .int .i64 at', .int .i64 a, .int .i64 b, .string t, .slice lo n c]] w fun e w' => e = .returned (.bool true) ∧ LP w0 B w' wb sv (sds.map SdR.db) (q + 1) := by
  obtain ⟨db, hdb⟩ : ∃ db, x.db = db := ⟨_, rfl⟩
  obtain ⟨xb, hxb⟩ : ∃ xb, x.b = xb := ⟨_, rfl⟩
  obtain ⟨rb, hrb⟩ : ∃ rb, x.rb = rb := ⟨_, rfl⟩
  obtain ⟨D, hD⟩ : ∃ D, sds.map SdR.db = D := ⟨_, rfl⟩
  obtain ⟨W1, hW1⟩ : ∃ W1, w.alloc (.cells #[.int .i64 1, .int .i64 at', .int .i64 a, .int .i64 b, .string t, .slice lo n c] 41) = W1 := ⟨_, rfl⟩
  obtain ⟨ob, hob⟩ : ∃ ob, w.heap.size = ob := ⟨_, rfl⟩
  have o1 : W1.heap[ob]? = some (.cells #[.int .i64 1, .int .i64 at', .int .i64 a, .int .i64 b, .string t, .slice lo n c] 41 (0, 0)) := by rw [← hW1, ← hob]; exact heap_alloc_new w _
  have h1 : LS w0 B W1 wb sv tv T kv mv sds K M q := h.same (by rw [← hW1]; exact (Fr.refl _ _).alloc _)
  have d1 : W1.heap[db]? = some (sdO xb rb) := by rw [← hdb, ← hxb, ← hrb]; exact (h1.sd i x hx).1.blk
  have HCs : Hid (∀ W : World, W.heap[ob]? = some (.cells #[.int .i64 1, .int .i64 at', .int .i64 a, .int .i64 b, .string t, .slice lo n c] 41 (0, 0)) → W.heap[db]? = some (sdO xb rb) → W.cell? ⟨ob, 0, none⟩ = some (.int .i64 1) ∧ W.cell? ⟨ob, 2, none⟩ = some (.int .i64 a) ∧ W.cell? ⟨ob, 4, none⟩ = some (.string t) ∧ W.cell? ⟨db, 0, none⟩ = some (.pointer (some ⟨xb, 0, none⟩)) ∧ W.cell? ⟨db, 1, none⟩ = some (.pointer (some ⟨rb, 0, none⟩))) := fun W e1 e2 => by
    refine ⟨?_, ?_, ?_, ?_, ?_⟩
    · rw [cell_of e1]; rfl
    · rw [cell_of e1]; rfl
    · rw [cell_of e1]; rfl
    · rw [cell_of e2]; rfl
    · rw [cell_of e2]; rfl
  obtain ⟨k0, k2, k4, k5, k6⟩ := HCs.out W1 o1 d1
  have HP : Hid (∀ W, Fr [] W1 W → Calls Tryz.prog 25 #[.pointer (some ⟨xb, 0, none⟩), .int .i64 a, .string t] W (QC fC w0 B wb sv D q db xb rb ob (.cells #[.int .i64 1, .int .i64 at', .int .i64 a, .int .i64 b, .string t, .slice lo n c] 41 (0, 0)) 26 #[.pointer (some ⟨rb, 0, none⟩), .int .i64 a, .string t])) := fun W hW => by
    have hW2 := h1.same hW
    have oW : W.heap[ob]? = some (.cells #[.int .i64 1, .int .i64 at', .int .i64 a, .int .i64 b, .string t, .slice lo n c] 41 (0, 0)) := by rw [hW.block ob (Array.getElem?_eq_some_iff.1 o1).1 (by simp)]; exact o1
    rw [← hdb, ← hxb, ← hrb, ← hD]
    exact (p_write (hW2.sd i x hx).1 (hW2.sd i x hx).2 a t hq).mono fun e w1 p => p.q hW2 hx oW
  rw [hdb, hD]
  clear h h1 hx o1 d1 hdb hxb hrb hD
  go_enter Tryz.func16, Tryz.ntmps16
  go_wp2
  clear hW1 hob
  go_region_held3 (fun w' => w'.cell? ⟨ob, 2, none⟩ = some (.int .i64 a) ∧ w'.cell? ⟨ob, 4, none⟩ = some (.string t) ∧ w'.cell? ⟨db, 0, none⟩ = some (.pointer (some ⟨xb, 0, none⟩)))
    (first
      | exact ⟨y2, y4, y5⟩
      | go_keep)
    (first
      | (go_at_call 25; refine (HP.out _ (by first | exact Fr.refl _ _ | exact (Fr.refl _ _).drew | exact (Fr.refl _ _).drewN _)).mono ?_; rintro e w4 ⟨z, rfl, b4, o4, hr4⟩; have H4 : Hid (∀ W, Fr [] w4 W → Calls Tryz.prog 26 #[.pointer (some ⟨rb, 0, none⟩), .int .i64 a, .string t] W fun e2 w2 => e2 = .returned (.int .i64 z) ∧ LP w0 B w2 wb sv D (q + 1) ∧ w2.heap[db]? = some (sdO xb rb) ∧ w2.heap[ob]? = some (.cells #[.int .i64 1, .int .i64 at', .int .i64 a, .int .i64 b, .string t, .slice lo n c] 41 (0, 0))) := hr4; obtain ⟨y0, y2, y4, y5, y6⟩ := HCs.out w4 o4 b4; rw [show fC z = Value.int .i64 z from rfl]; clear b4 o4 hr4))
  all_goals
    go_wp2
    go_region_held3 (fun w' => w'.cell? ⟨ob, 2, none⟩ = some (.int .i64 a) ∧ w'.cell? ⟨ob, 4, none⟩ = some (.string t) ∧ w'.cell? ⟨db, 1, none⟩ = some (.pointer (some ⟨rb, 0, none⟩)))
      (first
        | exact ⟨z2, z4, z6⟩
        | go_keep)
      (first
        | (go_at_call 26; refine (H4.out _ (by first | exact Fr.refl _ _ | exact (Fr.refl _ _).drew | exact (Fr.refl _ _).drewN _)).mono ?_; rintro e w5 ⟨rfl, l5, b5, o5⟩; have H5 : Hid (LP w0 B w5 wb sv D (q + 1)) := l5; obtain ⟨z0, z2, z4, z5, z6⟩ := HCs.out w5 o5 b5; clear l5 b5 o5))
    all_goals
      go_wp2
      go_ret
      exact ⟨rfl, H5.out⟩
end Go.Proofs.YthdhegmlknpllaaGreat
